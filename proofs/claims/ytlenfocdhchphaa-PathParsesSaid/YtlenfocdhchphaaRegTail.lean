/-
  A region that draws its order, whose last operations wait for all others: those by what each leaves (one obligation for each), the last ones in the text's order. Plain, and inside a fence. No program is named here. (Printed by wip/tools/regtail.py.)
-/
import Derived.OrdersIn
import Derived.TacticsIn
import Derived.Test.YtlenfocdhchphaaRegInv
import Derived.Test.YtlenfocdhchphaaRegSt
namespace Go.Proofs.Ytlenfocdhchphaa
open Go.RowKit
set_option maxRecDepth 100000
set_option linter.unusedVariables false

def plan3 (ops : Array Oper) (n N : Nat) (D : Nat → Nat) (deps : Nat → List Nat) (cs : List Nat) : Bool :=
  decide (n < ops.size) &&
  ((List.range n).all fun i => match ops[i]? with
    | some o => (o.dst == some (D i)) && decide (D i < N) && (cs.all fun s => s != D i) && (o.after.all fun e => !Region.binds .any e || decide (e.on < i)) && ((deps i).all fun j => o.after.any fun e => Region.binds .any e && e.on == j) && ((List.range n).all fun j => i == j || D i != D j)
    | Option.none => false) &&
  (match ops[n]? with
    | some o => (deps n).all fun j => o.after.any fun e => Region.binds .any e && e.on == j
    | Option.none => false) &&
  ((List.range n).all fun j => (List.range (n + 1)).any fun i => decide (j < i) && (deps i).contains j) &&
  ((List.range ops.size).all fun t => decide (t < n) || match ops[t]? with
    | some o => (o.after.all fun e => !Region.binds .any e || decide (e.on < t)) && (decide (t = n) || o.after.any fun e => Region.binds .any e && e.on == t - 1)
    | Option.none => false)
theorem plan3_at {ops : Array Oper} {n N : Nat} {D : Nat → Nat} {deps : Nat → List Nat} {cs : List Nat} (h : plan3 ops n N D deps cs = true) :
    n < ops.size ∧
    (∀ i, i < n → ∃ o, ops[i]? = some o ∧ o.dst = some (D i) ∧ D i < N ∧ (∀ s ∈ cs, s ≠ D i) ∧ (∀ e ∈ o.after, Region.binds .any e = true → e.on < i) ∧ (∀ j ∈ deps i, ∃ e ∈ o.after, Region.binds .any e = true ∧ e.on = j) ∧ ∀ j, j < n → j ≠ i → D j ≠ D i) ∧
    (∃ o, ops[n]? = some o ∧ ∀ j ∈ deps n, ∃ e ∈ o.after, Region.binds .any e = true ∧ e.on = j) ∧
    (∀ j, j < n → ∃ i, j < i ∧ i ≤ n ∧ j ∈ deps i) ∧
    (∀ t, n ≤ t → t < ops.size → ∃ o, ops[t]? = some o ∧ (∀ e ∈ o.after, Region.binds .any e = true → e.on < t) ∧ (n < t → ∃ e ∈ o.after, Region.binds .any e = true ∧ e.on = t - 1)) := by
  simp only [plan3, Bool.and_eq_true, List.all_eq_true, decide_eq_true_eq] at h
  obtain ⟨⟨⟨⟨hn, h1⟩, h2⟩, h3⟩, h4⟩ := h
  refine ⟨hn, fun i hi => ?_, ?_, fun j hj => ?_, fun t hnt ht => ?_⟩
  · have hh := h1 i (by simpa using hi)
    cases ho : ops[i]? with
    | none => rw [ho] at hh; cases hh
    | some o =>
      rw [ho] at hh
      simp only [Bool.and_eq_true, beq_iff_eq, decide_eq_true_eq, List.all_eq_true, bne_iff_ne, Array.all_eq_true_iff_forall_mem] at hh
      obtain ⟨⟨⟨⟨⟨h1, h2⟩, h3⟩, h6⟩, h4⟩, h5⟩ := hh
      refine ⟨o, rfl, h1, h2, h3, fun e he hb => by have := h6 e he; simpa [hb] using this, fun j hj => ?_, fun j hj hne e => ?_⟩
      · obtain ⟨x, hx, hb⟩ := Array.any_eq_true'.1 (h4 j hj)
        simp only [Bool.and_eq_true, beq_iff_eq] at hb
        exact ⟨x, hx, hb.1, hb.2⟩
      · have := h5 j (by simpa using hj)
        simp only [Bool.or_eq_true, beq_iff_eq, bne_iff_ne] at this
        rcases this with h | h
        · exact hne h.symm
        · exact h e.symm
  · cases ho : ops[n]? with
    | none => rw [ho] at h2; cases h2
    | some o =>
      rw [ho] at h2
      simp only [List.all_eq_true] at h2
      refine ⟨o, rfl, fun j hj => ?_⟩
      obtain ⟨x, hx, hb⟩ := Array.any_eq_true'.1 (h2 j hj)
      simp only [Bool.and_eq_true, beq_iff_eq] at hb
      exact ⟨x, hx, hb.1, hb.2⟩
  · have hh := h3 j (by simpa using hj)
    rw [List.any_eq_true] at hh
    obtain ⟨i, hi, hh⟩ := hh
    simp only [Bool.and_eq_true, decide_eq_true_eq, List.contains_iff_mem] at hh
    exact ⟨i, hh.1, by simp at hi; omega, hh.2⟩
  · have hh := h4 t (by simpa using ht)
    cases ho : ops[t]? with
    | none => rw [ho] at hh; simp at hh; omega
    | some o =>
      rw [ho] at hh
      simp only [Bool.or_eq_true, decide_eq_true_eq, Bool.and_eq_true, Array.all_eq_true_iff_forall_mem] at hh
      rcases hh with hh | ⟨ha, hb⟩
      · omega
      · refine ⟨o, rfl, fun e he hbd => by have := ha e he; simpa [hbd] using this, fun hlt => ?_⟩
        rcases hb with hb | hb
        · omega
        · obtain ⟨x, hx, hb⟩ := Array.any_eq_true'.1 hb
          simp only [Bool.and_eq_true, beq_iff_eq] at hb
          exact ⟨x, hx, hb.1, hb.2⟩

theorem count_pos {listed : Array Bool} {i : Nat} (hi : i < listed.size) (h0 : listed[i] = false) : 0 < listed.toList.countP (· == false) :=
  List.countP_pos_iff.2 ⟨false, by rw [← h0]; simp, rfl⟩
theorem count_set {listed : Array Bool} {i fuel : Nat} (hi : i < listed.size) (h0 : listed[i] = false) (hc : listed.toList.countP (· == false) ≤ fuel + 1) : (listed.setIfInBounds i true).toList.countP (· == false) ≤ fuel := by
  have hcnt := List.countP_set (p := fun x : Bool => x == false) (l := listed.toList) (i := i) (a := true) (by simpa using hi)
  have hpos := count_pos hi h0
  have e1 : (listed.setIfInBounds i true).toList = listed.toList.set i true := by simp
  have e2 : (listed.toList[i]'(by simpa using hi) == false) = true := by rw [Array.getElem_toList, h0]; rfl
  rw [e1, hcnt, if_pos e2, if_neg (by decide)]
  omega

/-- the slots that none of the first operations writes, with what they hold -/
def restOf (N : Nat) (D : Nat → Nat) (n : Nat) (t : Array Value) : List (Nat × Value) := ((List.range N).filter fun s => (List.range n).all fun i => D i != s).map fun s => (s, t.getD s undef)
theorem Keeps.rest {N n : Nat} {D : Nat → Nat} {t : Array Value} {a : Act} (h : Keeps N (restOf N D n t) a) (s : Nat) (v : Value) (hs : s < N) (hne : ((List.range n).all fun i => D i != s) = true) (hv : t.getD s undef = v) : a.tmps.getD s undef = v := by
  rw [← hv]
  exact h.2.2 (s, t.getD s undef) (List.mem_map.2 ⟨s, List.mem_filter.2 ⟨by simpa using hs, hne⟩, rfl⟩)
theorem Keeps.start {N n : Nat} {D : Nat → Nat} {t : Array Value} (h : t.size = N) : Keeps N (restOf N D n t) { tmps := t, defers := [] } := by
  refine ⟨h, rfl, fun p hp => ?_⟩
  obtain ⟨s, _, rfl⟩ := List.mem_map.1 hp
  rfl
theorem Keeps.frame {N n : Nat} {D : Nat → Nat} {t : Array Value} {a : Act} (ht : t.size = N) (hne : ∀ i j, i < n → j < n → j ≠ i → D j ≠ D i) (h : Keeps N (restOf N D n t) a) :
    a = { tmps := putAll N D (fun i => a.tmps.getD (D i) undef) n t, defers := [] } := by
  refine Slots.frame (a0 := { tmps := t, defers := [] }) ht rfl hne ⟨h.1, h.2.1, fun i _ _ _ => rfl, fun s hs => ?_⟩
  by_cases hsN : s < N
  · exact h.rest s _ hsN (by rw [List.all_eq_true]; intro i hi; simpa using hs i (by simpa using hi)) rfl
  · have := h.1
    simp only [Array.getD_eq_getD_getElem?]
    rw [Array.getElem?_eq_none (by omega), Array.getElem?_eq_none (by omega)]
section
variable {P : Program} {ops : Array Oper} {Q : Exit → Act → World → Prop}

/-- one operation's obligation ahead of the last ones -/
def OpLeavesT (P : Program) (ops : Array Oper) (Q : Exit → Act → World → Prop) (N : Nat) (cs : List (Nat × Value)) (w0 : World) (D : Nat → Nat) (deps : Nat → List Nat) (R : Nat → Value → World → Prop) (i : Nat) : Prop :=
  ∀ o, ops[i]? = some o → ∀ (a : Act) (w : World), Keeps N cs a → Below w0.heap.size w0 w → (∀ j ∈ deps i, R j (a.tmps.getD (D j) undef) w) →
    ∀ K : Act → World → Prop, (∀ v w', Below w.heap.size w w' → R i v w' → K (a.put (some (D i)) v) w') → if Region.wanted o (yielded ops a.tmps) = true then Oper.wp P o a w K Q else K (a.put o.dst undef) w

theorem wp_tail {n : Nat} {md : Region.Mode} (htail : ∀ t, n ≤ t → t < ops.size → ∃ o, ops[t]? = some o ∧ (∀ e ∈ o.after, Region.binds md e = true → e.on < t) ∧ (n < t → ∃ e ∈ o.after, Region.binds md e = true ∧ e.on = t - 1)) :
    ∀ (m t fuel : Nat) (listed : Array Bool) (a : Act) (w : World), t + m = ops.size → n ≤ t → listed.size = ops.size → (∀ j, j < t → listed.getD j false = true) → (∀ j, t ≤ j → listed.getD j false = false) → listed.toList.countP (· == false) ≤ fuel →
      wpList P ops Q (ops.toList.drop t) a w → wpAny P md ops Q fuel listed a w := by
  intro m
  induction m with
  | zero =>
    intro t fuel listed a w htm hnt hl hyes hno hc h
    have hr : Region.ready md ops listed = [] := by
      cases hr : Region.ready md ops listed with
      | nil => rfl
      | cons x xs =>
        obtain ⟨h1, o, h2, _⟩ := (mem_ready (md := md) (ops := ops) (listed := listed) (j := x)).1 (by rw [hr]; simp)
        have hx : x < ops.size := (Array.getElem?_eq_some_iff.1 h2).1
        have h3 := hyes x (by omega)
        have hi' : x < listed.size := by omega
        simp only [Array.getD, hi', dif_pos] at h1 h3
        rw [h1] at h3
        cases h3
    rw [List.drop_of_length_le (by simp; omega)] at h
    cases fuel with
    | zero => exact ⟨hr, h⟩
    | succ f => exact ⟨fun _ => h, fun i hi => by rw [hr] at hi; cases hi⟩
  | succ m ih =>
    intro t fuel listed a w htm hnt hl hyes hno hc h
    have ht : t < ops.size := by omega
    have ht' : t < listed.size := by omega
    obtain ⟨o, ho, hlt, _⟩ := htail t hnt ht
    have h0 : listed[t] = false := by
      have := hno t (Nat.le_refl _)
      simp only [Array.getD, ht', dif_pos] at this
      exact this
    have hmem : t ∈ Region.ready md ops listed := mem_ready.2 ⟨by simp only [Array.getD, ht', dif_pos]; exact h0, o, ho, fun e he hb => hyes e.on (hlt e he hb)⟩
    cases fuel with
    | zero => exact absurd hc (by have := count_pos ht' h0; omega)
    | succ f =>
      refine ⟨fun hr => (by rw [hr] at hmem; cases hmem), fun i hi => ?_⟩
      obtain ⟨h1, o', h2, h3⟩ := mem_ready.1 hi
      have hi1 : i < ops.size := (Array.getElem?_eq_some_iff.1 h2).1
      have hi' : i < listed.size := by omega
      have hti : t ≤ i := by
        rcases Nat.lt_or_ge i t with hh | hh
        · have := hyes i hh
          simp only [Array.getD, hi', dif_pos] at h1 this
          rw [h1] at this; cases this
        · exact hh
      obtain rfl : i = t := by
        rcases Nat.eq_or_lt_of_le hti with hh | hh
        · exact hh.symm
        · obtain ⟨o2, ho2, _, hprev⟩ := htail i (by omega) hi1
          obtain rfl : o2 = o' := Option.some.inj (ho2.symm.trans h2)
          obtain ⟨e, he, hb, hon⟩ := hprev (by omega)
          have := h3 e he hb
          rw [hon, hno (i - 1) (by omega)] at this
          cases this
      have hd : ops.toList.drop i = o :: ops.toList.drop (i + 1) := by
        rw [List.drop_eq_getElem_cons (by simpa using ht)]
        congr 1
        have := (Array.getElem?_eq_some_iff.1 ho).2
        simpa using this
      rw [hd] at h
      have hw : wpOp P ops Q i (wpList P ops Q (ops.toList.drop (i + 1))) a w := by
        unfold wpOp
        rw [ho]
        exact h
      refine wpOp_mono (fun a' w' h' => ih (i + 1) f _ a' w' (by omega) (by omega) (by simpa using hl) (fun j hj => ?_) (fun j hj => ?_) (count_set ht' h0 hc) h') hw
      · by_cases e : j = i
        · subst e; simp [ht']
        · rw [getD_set_ne false (Ne.symm e)]; exact hyes j (by omega)
      · rw [getD_set_ne false (by omega)]; exact hno j (by omega)

theorem wp_region_leaves_tail {id : Nat} {a : Act} {w0 : World} (hm : P.follows .mixedOrders = true) (n N : Nat) (cs : List (Nat × Value)) (D : Nat → Nat) (deps : Nat → List Nat) (R : Nat → Value → World → Prop)
    (hplan : plan3 ops n N D deps (cs.map (·.1)) = true) (hk : Keeps N cs a)
    (hmono : ∀ i v w w', Below w0.heap.size w0 w → Below w.heap.size w w' → R i v w → R i v w')
    (hstep : ∀ i, i < n → OpLeavesT P ops Q N cs w0 D deps R i)
    (hdone : ∀ a w, Keeps N cs a → Below w0.heap.size w0 w → (∀ i, i < n → R i (a.tmps.getD (D i) undef) w) → wpList P ops Q (ops.toList.drop n) a w) : (Code.region id ops true).wp P Q a w0 := by
  obtain ⟨hn, hat, ⟨on, hon, hondeps⟩, hup, htail⟩ := plan3_at hplan
  have main : ∀ (fuel : Nat) (listed : Array Bool) (a : Act) (w : World), listed.size = ops.size → (listed.toList.countP (· == false)) ≤ fuel → Keeps N cs a → Below w0.heap.size w0 w →
      (∀ j, n ≤ j → listed.getD j false = false) → (∀ j, j < n → listed.getD j false = true → ∀ d ∈ deps j, listed.getD d false = true) →
      (∀ i, i < n → listed.getD i false = true → R i (a.tmps.getD (D i) undef) w) → wpAny P .any ops Q fuel listed a w := by
    intro fuel
    induction fuel with
    | zero =>
      intro listed a w hl hc _ _ hno _ _
      exfalso
      have hi' : n < listed.size := by omega
      have h0 : listed[n] = false := by
        have := hno n (Nat.le_refl _)
        simp only [Array.getD, hi', dif_pos] at this
        exact this
      have := count_pos hi' h0
      omega
    | succ fuel ih =>
      intro listed a w hl hc hk hb hno hcl hR
      by_cases hall : ∀ i, i < n → listed.getD i false = true
      · exact wp_tail (n := n) htail (ops.size - n) n (fuel + 1) listed a w (by omega) (Nat.le_refl _) hl hall hno hc (hdone a w hk hb fun i hi => hR i hi (hall i hi))
      · have hmin : ∃ i, i ∈ Region.ready .any ops listed := by
          false_or_by_contra
          rename_i hnone
          refine hall ?_
          have step : ∀ m, m ≤ n → ∀ i, i < m → listed.getD i false = true := by
            intro m
            induction m with
            | zero => intro _ i hi; omega
            | succ m ihm =>
              intro hm' i hi
              by_cases him : i < m
              · exact ihm (by omega) i him
              · obtain rfl : i = m := by omega
                obtain ⟨o, ho, _, _, _, hlt, _, _⟩ := hat i (by omega)
                cases hb : listed.getD i false with
                | true => rfl
                | false =>
                  have hmem : i ∈ Region.ready .any ops listed := mem_ready.2 ⟨by
                    have hi' : i < listed.size := by omega
                    simp only [Array.getD, hi', dif_pos] at hb ⊢
                    exact hb, o, ho, fun e he hb => ihm (by omega) e.on (hlt e he hb)⟩
                  exact absurd ⟨i, hmem⟩ hnone
          exact step n (Nat.le_refl _)
        refine ⟨fun hr => (by obtain ⟨i, hi⟩ := hmin; rw [hr] at hi; cases hi), fun i hi => ?_⟩
        obtain ⟨h1, o, h2, h3⟩ := mem_ready.1 hi
        have hio : i < ops.size := (Array.getElem?_eq_some_iff.1 h2).1
        have hi' : i < listed.size := by omega
        have hi0 : listed[i] = false := by simp only [Array.getD, hi', dif_pos] at h1; exact h1
        have hif : listed.getD i false = false := by simp only [Array.getD, hi', dif_pos]; exact hi0
        rcases Nat.lt_trichotomy i n with hin | hin | hin
        · obtain ⟨o', ho', hd, hdN, hcs, hlt, hdeps, hne⟩ := hat i hin
          obtain rfl : o' = o := Option.some.inj (ho'.symm.trans h2)
          have hdl : ∀ j ∈ deps i, listed.getD j false = true := fun j hj => by
            obtain ⟨e, he, hbd, rfl⟩ := hdeps j hj
            exact h3 e he hbd
          have hjn : ∀ j ∈ deps i, j < n := fun j hj => by
            obtain ⟨e, he, hbd, rfl⟩ := hdeps j hj
            have := hlt e he hbd
            omega
          refine wpOp_step h2 fun K hK => hstep i hin o' h2 a w hk hb (fun j hj => hR j (hjn j hj) (hdl j hj)) K fun v w' hbw hRv => hK _ _ ?_
          refine ih _ _ _ (by simpa using hl) (count_set hi' hi0 hc) (hk.put (fun p hp => hcs p.1 (List.mem_map_of_mem hp)) v) (hb.trans (hbw.mono hb.size)) (fun j hj => ?_) (fun j hj hlj d hd' => ?_) fun j hj hlj => ?_
          · rw [getD_set_ne false (by omega)]; exact hno j hj
          · by_cases ej : j = i
            · subst ej
              have := hdl d hd'
              by_cases ed : d = j
              · subst ed; simp [hi']
              · rw [getD_set_ne false (Ne.symm ed)]; exact this
            · rw [getD_set_ne false (Ne.symm ej)] at hlj
              have := hcl j hj hlj d hd'
              by_cases ed : d = i
              · subst ed; simp [hi']
              · rw [getD_set_ne false (Ne.symm ed)]; exact this
          · by_cases hji : j = i
            · subst hji
              rw [put_same hk.1 hdN]
              exact hRv
            · rw [put_other (hne j hj hji)]
              rw [getD_set_ne false (Ne.symm hji)] at hlj
              exact hmono j _ w w' hb hbw (hR j hj hlj)
        · exfalso
          subst hin
          obtain rfl : on = o := Option.some.inj (hon.symm.trans h2)
          refine hall ?_
          have down : ∀ m, m ≤ i → ∀ j, i - m ≤ j → j < i → listed.getD j false = true := by
            intro m
            induction m with
            | zero => intro _ j h1 h2; omega
            | succ m ihm =>
              intro hm' j hj hji
              by_cases hjm : i - m ≤ j
              · exact ihm (by omega) j hjm hji
              · obtain ⟨k, hjk, hki, hmem⟩ := hup j hji
                rcases Nat.eq_or_lt_of_le hki with hk' | hk'
                · subst hk'
                  obtain ⟨e, he, hbd, rfl⟩ := hondeps j hmem
                  exact h3 e he hbd
                · exact hcl k hk' (ihm (by omega) k (by omega) hk') j hmem
          exact fun j hj => down i (Nat.le_refl _) j (by omega) hj
        · exfalso
          obtain ⟨o2, ho2, _, hprev⟩ := htail i (by omega) hio
          obtain rfl : o2 = o := Option.some.inj (ho2.symm.trans h2)
          obtain ⟨e, he, hbd, hon'⟩ := hprev hin
          have := h3 e he hbd
          rw [hon', hno (i - 1) (by omega)] at this
          cases this
  have hz : ∀ j, (Array.replicate ops.size false).getD j false = false := fun j => by
    simp only [Array.getD_eq_getD_getElem?, Array.getElem?_replicate]
    split <;> rfl
  refine wp_region_any hm (main ops.size _ a _ (by simp) ?_ hk ?_ (fun j _ => hz j) (fun j _ h => ?_) (fun i _ h => ?_))
  · exact Nat.le_trans List.countP_le_length (by simp)
  · exact (Below.refl w0.heap.size w0).drew
  · rw [hz j] at h; cases h
  · rw [hz i] at h; cases h
/-- .. where the frame is written out -/
theorem wp_region_tail {id : Nat} {t : Array Value} {w0 : World} (hm : P.follows .mixedOrders = true) (n N : Nat) (D : Nat → Nat) (deps : Nat → List Nat) (R : Nat → Value → World → Prop) (ht : t.size = N)
    (hplan : plan3 ops n N D deps ((restOf N D n t).map (·.1)) = true)
    (hmono : ∀ i v w w', Below w0.heap.size w0 w → Below w.heap.size w w' → R i v w → R i v w')
    (hstep : ∀ i, i < n → OpLeavesT P ops Q N (restOf N D n t) w0 D deps R i)
    (hdone : ∀ vals w, Below w0.heap.size w0 w → (∀ i, i < n → R i (vals i) w) → wpList P ops Q (ops.toList.drop n) { tmps := putAll N D vals n t, defers := [] } w) : (Code.region id ops true).wp P Q { tmps := t, defers := [] } w0 := by
  refine wp_region_leaves_tail hm n N _ D deps R hplan (Keeps.start ht) hmono hstep fun a w hk hb hR => ?_
  have hne : ∀ i j, i < n → j < n → j ≠ i → D j ≠ D i := fun i j hi hj hne => by
    obtain ⟨_, _, _, _, _, _, _, h⟩ := (plan3_at hplan).2.1 i hi
    exact h j hj hne
  rw [hk.frame ht hne]
  exact hdone _ _ hb hR
end
section
variable {F : Fence} {k : Nat} {P : Program} {ops : Array Oper} {Q : Exit → Act → World → Prop}

/-- one operation's obligation ahead of the last ones -/
def OpLeavesTIn (F : Fence) (k : Nat) (P : Program) (ops : Array Oper) (Q : Exit → Act → World → Prop) (N : Nat) (cs : List (Nat × Value)) (w0 : World) (D : Nat → Nat) (deps : Nat → List Nat) (R : Nat → Value → World → Prop) (i : Nat) : Prop :=
  ∀ o, ops[i]? = some o → ∀ (a : Act) (w : World), Keeps N cs a → Below w0.heap.size w0 w → (∀ j ∈ deps i, R j (a.tmps.getD (D j) undef) w) →
    ∀ K : Act → World → Prop, (∀ v w', Below w.heap.size w w' → R i v w' → K (a.put (some (D i)) v) w') → if Region.wanted o (yielded ops a.tmps) = true then Oper.wpIn F k P o a w K Q else (∀ f, o.about P w a.eval = some f → F.fn f) ∧ K (a.put o.dst undef) w

theorem wpIn_tail {n : Nat} {md : Region.Mode} (htail : ∀ t, n ≤ t → t < ops.size → ∃ o, ops[t]? = some o ∧ (∀ e ∈ o.after, Region.binds md e = true → e.on < t) ∧ (n < t → ∃ e ∈ o.after, Region.binds md e = true ∧ e.on = t - 1)) :
    ∀ (m t fuel : Nat) (listed : Array Bool) (a : Act) (w : World), t + m = ops.size → n ≤ t → listed.size = ops.size → (∀ j, j < t → listed.getD j false = true) → (∀ j, t ≤ j → listed.getD j false = false) → listed.toList.countP (· == false) ≤ fuel →
      wpListIn F k P ops Q (ops.toList.drop t) a w → wpAnyIn F k P md ops Q fuel listed a w := by
  intro m
  induction m with
  | zero =>
    intro t fuel listed a w htm hnt hl hyes hno hc h
    have hr : Region.ready md ops listed = [] := by
      cases hr : Region.ready md ops listed with
      | nil => rfl
      | cons x xs =>
        obtain ⟨h1, o, h2, _⟩ := (mem_ready (md := md) (ops := ops) (listed := listed) (j := x)).1 (by rw [hr]; simp)
        have hx : x < ops.size := (Array.getElem?_eq_some_iff.1 h2).1
        have h3 := hyes x (by omega)
        have hi' : x < listed.size := by omega
        simp only [Array.getD, hi', dif_pos] at h1 h3
        rw [h1] at h3
        cases h3
    rw [List.drop_of_length_le (by simp; omega)] at h
    cases fuel with
    | zero => exact ⟨hr, h⟩
    | succ f => exact ⟨fun _ => h, fun i hi => by rw [hr] at hi; cases hi⟩
  | succ m ih =>
    intro t fuel listed a w htm hnt hl hyes hno hc h
    have ht : t < ops.size := by omega
    have ht' : t < listed.size := by omega
    obtain ⟨o, ho, hlt, _⟩ := htail t hnt ht
    have h0 : listed[t] = false := by
      have := hno t (Nat.le_refl _)
      simp only [Array.getD, ht', dif_pos] at this
      exact this
    have hmem : t ∈ Region.ready md ops listed := mem_ready.2 ⟨by simp only [Array.getD, ht', dif_pos]; exact h0, o, ho, fun e he hb => hyes e.on (hlt e he hb)⟩
    cases fuel with
    | zero => exact absurd hc (by have := count_pos ht' h0; omega)
    | succ f =>
      refine ⟨fun hr => (by rw [hr] at hmem; cases hmem), fun i hi => ?_⟩
      obtain ⟨h1, o', h2, h3⟩ := mem_ready.1 hi
      have hi1 : i < ops.size := (Array.getElem?_eq_some_iff.1 h2).1
      have hi' : i < listed.size := by omega
      have hti : t ≤ i := by
        rcases Nat.lt_or_ge i t with hh | hh
        · have := hyes i hh
          simp only [Array.getD, hi', dif_pos] at h1 this
          rw [h1] at this; cases this
        · exact hh
      obtain rfl : i = t := by
        rcases Nat.eq_or_lt_of_le hti with hh | hh
        · exact hh.symm
        · obtain ⟨o2, ho2, _, hprev⟩ := htail i (by omega) hi1
          obtain rfl : o2 = o' := Option.some.inj (ho2.symm.trans h2)
          obtain ⟨e, he, hb, hon⟩ := hprev (by omega)
          have := h3 e he hb
          rw [hon, hno (i - 1) (by omega)] at this
          cases this
      have hd : ops.toList.drop i = o :: ops.toList.drop (i + 1) := by
        rw [List.drop_eq_getElem_cons (by simpa using ht)]
        congr 1
        have := (Array.getElem?_eq_some_iff.1 ho).2
        simpa using this
      rw [hd] at h
      have hw : wpOpIn F k P ops Q i (wpListIn F k P ops Q (ops.toList.drop (i + 1))) a w := by
        unfold wpOpIn
        rw [ho]
        exact h
      refine wpOpIn_mono (fun a' w' h' => ih (i + 1) f _ a' w' (by omega) (by omega) (by simpa using hl) (fun j hj => ?_) (fun j hj => ?_) (count_set ht' h0 hc) h') hw
      · by_cases e : j = i
        · subst e; simp [ht']
        · rw [getD_set_ne false (Ne.symm e)]; exact hyes j (by omega)
      · rw [getD_set_ne false (by omega)]; exact hno j (by omega)

theorem wpIn_region_leaves_tail {id : Nat} {a : Act} {w0 : World} (hm : P.follows .mixedOrders = true) (n N : Nat) (cs : List (Nat × Value)) (D : Nat → Nat) (deps : Nat → List Nat) (R : Nat → Value → World → Prop)
    (hplan : plan3 ops n N D deps (cs.map (·.1)) = true) (hk : Keeps N cs a)
    (hmono : ∀ i v w w', Below w0.heap.size w0 w → Below w.heap.size w w' → R i v w → R i v w')
    (hstep : ∀ i, i < n → OpLeavesTIn F k P ops Q N cs w0 D deps R i)
    (hdone : ∀ a w, Keeps N cs a → Below w0.heap.size w0 w → (∀ i, i < n → R i (a.tmps.getD (D i) undef) w) → wpListIn F k P ops Q (ops.toList.drop n) a w) : (Code.region id ops true).wpIn F k P Q a w0 := by
  obtain ⟨hn, hat, ⟨on, hon, hondeps⟩, hup, htail⟩ := plan3_at hplan
  have main : ∀ (fuel : Nat) (listed : Array Bool) (a : Act) (w : World), listed.size = ops.size → (listed.toList.countP (· == false)) ≤ fuel → Keeps N cs a → Below w0.heap.size w0 w →
      (∀ j, n ≤ j → listed.getD j false = false) → (∀ j, j < n → listed.getD j false = true → ∀ d ∈ deps j, listed.getD d false = true) →
      (∀ i, i < n → listed.getD i false = true → R i (a.tmps.getD (D i) undef) w) → wpAnyIn F k P .any ops Q fuel listed a w := by
    intro fuel
    induction fuel with
    | zero =>
      intro listed a w hl hc _ _ hno _ _
      exfalso
      have hi' : n < listed.size := by omega
      have h0 : listed[n] = false := by
        have := hno n (Nat.le_refl _)
        simp only [Array.getD, hi', dif_pos] at this
        exact this
      have := count_pos hi' h0
      omega
    | succ fuel ih =>
      intro listed a w hl hc hk hb hno hcl hR
      by_cases hall : ∀ i, i < n → listed.getD i false = true
      · exact wpIn_tail (n := n) htail (ops.size - n) n (fuel + 1) listed a w (by omega) (Nat.le_refl _) hl hall hno hc (hdone a w hk hb fun i hi => hR i hi (hall i hi))
      · have hmin : ∃ i, i ∈ Region.ready .any ops listed := by
          false_or_by_contra
          rename_i hnone
          refine hall ?_
          have step : ∀ m, m ≤ n → ∀ i, i < m → listed.getD i false = true := by
            intro m
            induction m with
            | zero => intro _ i hi; omega
            | succ m ihm =>
              intro hm' i hi
              by_cases him : i < m
              · exact ihm (by omega) i him
              · obtain rfl : i = m := by omega
                obtain ⟨o, ho, _, _, _, hlt, _, _⟩ := hat i (by omega)
                cases hb : listed.getD i false with
                | true => rfl
                | false =>
                  have hmem : i ∈ Region.ready .any ops listed := mem_ready.2 ⟨by
                    have hi' : i < listed.size := by omega
                    simp only [Array.getD, hi', dif_pos] at hb ⊢
                    exact hb, o, ho, fun e he hb => ihm (by omega) e.on (hlt e he hb)⟩
                  exact absurd ⟨i, hmem⟩ hnone
          exact step n (Nat.le_refl _)
        refine ⟨fun hr => (by obtain ⟨i, hi⟩ := hmin; rw [hr] at hi; cases hi), fun i hi => ?_⟩
        obtain ⟨h1, o, h2, h3⟩ := mem_ready.1 hi
        have hio : i < ops.size := (Array.getElem?_eq_some_iff.1 h2).1
        have hi' : i < listed.size := by omega
        have hi0 : listed[i] = false := by simp only [Array.getD, hi', dif_pos] at h1; exact h1
        have hif : listed.getD i false = false := by simp only [Array.getD, hi', dif_pos]; exact hi0
        rcases Nat.lt_trichotomy i n with hin | hin | hin
        · obtain ⟨o', ho', hd, hdN, hcs, hlt, hdeps, hne⟩ := hat i hin
          obtain rfl : o' = o := Option.some.inj (ho'.symm.trans h2)
          have hdl : ∀ j ∈ deps i, listed.getD j false = true := fun j hj => by
            obtain ⟨e, he, hbd, rfl⟩ := hdeps j hj
            exact h3 e he hbd
          have hjn : ∀ j ∈ deps i, j < n := fun j hj => by
            obtain ⟨e, he, hbd, rfl⟩ := hdeps j hj
            have := hlt e he hbd
            omega
          refine wpOpIn_step h2 fun K hK => hstep i hin o' h2 a w hk hb (fun j hj => hR j (hjn j hj) (hdl j hj)) K fun v w' hbw hRv => hK _ _ ?_
          refine ih _ _ _ (by simpa using hl) (count_set hi' hi0 hc) (hk.put (fun p hp => hcs p.1 (List.mem_map_of_mem hp)) v) (hb.trans (hbw.mono hb.size)) (fun j hj => ?_) (fun j hj hlj d hd' => ?_) fun j hj hlj => ?_
          · rw [getD_set_ne false (by omega)]; exact hno j hj
          · by_cases ej : j = i
            · subst ej
              have := hdl d hd'
              by_cases ed : d = j
              · subst ed; simp [hi']
              · rw [getD_set_ne false (Ne.symm ed)]; exact this
            · rw [getD_set_ne false (Ne.symm ej)] at hlj
              have := hcl j hj hlj d hd'
              by_cases ed : d = i
              · subst ed; simp [hi']
              · rw [getD_set_ne false (Ne.symm ed)]; exact this
          · by_cases hji : j = i
            · subst hji
              rw [put_same hk.1 hdN]
              exact hRv
            · rw [put_other (hne j hj hji)]
              rw [getD_set_ne false (Ne.symm hji)] at hlj
              exact hmono j _ w w' hb hbw (hR j hj hlj)
        · exfalso
          subst hin
          obtain rfl : on = o := Option.some.inj (hon.symm.trans h2)
          refine hall ?_
          have down : ∀ m, m ≤ i → ∀ j, i - m ≤ j → j < i → listed.getD j false = true := by
            intro m
            induction m with
            | zero => intro _ j h1 h2; omega
            | succ m ihm =>
              intro hm' j hj hji
              by_cases hjm : i - m ≤ j
              · exact ihm (by omega) j hjm hji
              · obtain ⟨k, hjk, hki, hmem⟩ := hup j hji
                rcases Nat.eq_or_lt_of_le hki with hk' | hk'
                · subst hk'
                  obtain ⟨e, he, hbd, rfl⟩ := hondeps j hmem
                  exact h3 e he hbd
                · exact hcl k hk' (ihm (by omega) k (by omega) hk') j hmem
          exact fun j hj => down i (Nat.le_refl _) j (by omega) hj
        · exfalso
          obtain ⟨o2, ho2, _, hprev⟩ := htail i (by omega) hio
          obtain rfl : o2 = o := Option.some.inj (ho2.symm.trans h2)
          obtain ⟨e, he, hbd, hon'⟩ := hprev hin
          have := h3 e he hbd
          rw [hon', hno (i - 1) (by omega)] at this
          cases this
  have hz : ∀ j, (Array.replicate ops.size false).getD j false = false := fun j => by
    simp only [Array.getD_eq_getD_getElem?, Array.getElem?_replicate]
    split <;> rfl
  refine wpIn_region_any hm (main ops.size _ a _ (by simp) ?_ hk ?_ (fun j _ => hz j) (fun j _ h => ?_) (fun i _ h => ?_))
  · exact Nat.le_trans List.countP_le_length (by simp)
  · exact (Below.refl w0.heap.size w0).drew
  · rw [hz j] at h; cases h
  · rw [hz i] at h; cases h
/-- .. where the frame is written out -/
theorem wpIn_region_tail {id : Nat} {t : Array Value} {w0 : World} (hm : P.follows .mixedOrders = true) (n N : Nat) (D : Nat → Nat) (deps : Nat → List Nat) (R : Nat → Value → World → Prop) (ht : t.size = N)
    (hplan : plan3 ops n N D deps ((restOf N D n t).map (·.1)) = true)
    (hmono : ∀ i v w w', Below w0.heap.size w0 w → Below w.heap.size w w' → R i v w → R i v w')
    (hstep : ∀ i, i < n → OpLeavesTIn F k P ops Q N (restOf N D n t) w0 D deps R i)
    (hdone : ∀ vals w, Below w0.heap.size w0 w → (∀ i, i < n → R i (vals i) w) → wpListIn F k P ops Q (ops.toList.drop n) { tmps := putAll N D vals n t, defers := [] } w) : (Code.region id ops true).wpIn F k P Q { tmps := t, defers := [] } w0 := by
  refine wpIn_region_leaves_tail hm n N _ D deps R hplan (Keeps.start ht) hmono hstep fun a w hk hb hR => ?_
  have hne : ∀ i j, i < n → j < n → j ≠ i → D j ≠ D i := fun i j hi hj hne => by
    obtain ⟨_, _, _, _, _, _, _, h⟩ := (plan3_at hplan).2.1 i hi
    exact h j hj hne
  rw [hk.frame ht hne]
  exact hdone _ _ hb hR
end
end Go.Proofs.Ytlenfocdhchphaa
