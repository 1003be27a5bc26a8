/-
  A region that draws its order, by what each operation leaves: one obligation for each operation, none for each order. No program is named here.
-/
import Derived.WalkKit
import Derived.RegionTactic
import Derived.Below
namespace Go.Proofs.Ytlenfocdhchphaa
open Go.RowKit
set_option linter.unusedVariables false

section
variable {P : Program} {ops : Array Oper} {Q : Exit → Act → World → Prop}

/-- the slots that no operation of the region writes hold what they held -/
def Keeps (N : Nat) (cs : List (Nat × Value)) (a : Act) : Prop := a.tmps.size = N ∧ a.defers = [] ∧ ∀ p ∈ cs, a.tmps.getD p.1 undef = p.2
theorem put_same {a : Act} {N d : Nat} (h : a.tmps.size = N) (hd : d < N) (v : Value) : (a.put (some d) v).tmps.getD d undef = v := by
  simp only [Act.put, Array.getD_eq_getD_getElem?]
  rw [Array.getElem?_setIfInBounds_self_of_lt (by omega)]
  rfl
theorem put_other {a : Act} {d s : Nat} (h : s ≠ d) (v : Value) : (a.put (some d) v).tmps.getD s undef = a.tmps.getD s undef := by
  simp only [Act.put, Array.getD_eq_getD_getElem?]
  rw [Array.getElem?_setIfInBounds_ne (Ne.symm h)]
theorem Keeps.put {N : Nat} {cs : List (Nat × Value)} {a : Act} (h : Keeps N cs a) {d : Nat} (hd : ∀ p ∈ cs, p.1 ≠ d) (v : Value) : Keeps N cs (a.put (some d) v) :=
  ⟨by simpa [Act.put] using h.1, h.2.1, fun p hp => by rw [put_other (hd p hp)]; exact h.2.2 p hp⟩
theorem Keeps.at_ {N : Nat} {cs : List (Nat × Value)} {a : Act} (h : Keeps N cs a) (i s : Nat) (v : Value) (hi : cs[i]? = some (s, v)) : a.tmps.getD s undef = v := h.2.2 (s, v) (List.mem_of_getElem? hi)

theorem Keeps.some_ {N : Nat} {cs : List (Nat × Value)} {a : Act} (h : Keeps N cs a) {s : Nat} {v : Value} (hs : s < N) (e : a.tmps[s]?.getD undef = v) : a.tmps[s]? = some v := by
  have hs' : s < a.tmps.size := by rw [h.1]; exact hs
  rw [Array.getElem?_eq_getElem hs'] at e ⊢
  rw [← e]; rfl

/-- each operation i writes slot D i; what stands in 'deps i' is waited for -/
def plan (ops : Array Oper) (n N : Nat) (D : Nat → Nat) (deps : Nat → List Nat) (cs : List Nat) : Bool :=
  decide (ops.size = n) && (List.range n).all fun i => match ops[i]? with
    | some o => (o.dst == some (D i)) && decide (D i < N) && (cs.all fun s => s != D i) && (o.after.all fun e => !Region.binds .any e || decide (e.on < i)) && ((deps i).all fun j => o.after.any fun e => Region.binds .any e && e.on == j) && ((List.range n).all fun j => i == j || D i != D j)
    | none => false
theorem plan_at {n N : Nat} {D : Nat → Nat} {deps : Nat → List Nat} {cs : List Nat} (h : plan ops n N D deps cs = true) {i : Nat} (hi : i < n) :
    ∃ o, ops[i]? = some o ∧ o.dst = some (D i) ∧ D i < N ∧ (∀ s ∈ cs, s ≠ D i) ∧ (∀ e ∈ o.after, Region.binds .any e = true → e.on < i) ∧ (∀ j ∈ deps i, ∃ e ∈ o.after, Region.binds .any e = true ∧ e.on = j) ∧ ∀ j, j < n → j ≠ i → D j ≠ D i := by
  simp only [plan, Bool.and_eq_true, List.all_eq_true] at h
  have hh := h.2 i (by simpa using hi)
  cases ho : ops[i]? with
  | none => rw [ho] at hh; cases hh
  | some o =>
    rw [ho] at hh
    simp only [Bool.and_eq_true, beq_iff_eq, decide_eq_true_eq, List.all_eq_true, bne_iff_ne, Array.all_eq_true_iff_forall_mem] at hh
    obtain ⟨⟨⟨⟨⟨h1, h2⟩, h3⟩, h6⟩, h4⟩, h5⟩ := hh
    refine ⟨o, rfl, h1, h2, h3, fun e he hb => by have := h6 e he; simpa [hb] using this, fun j hj => ?_, fun j hj hne e => ?_⟩
    · obtain ⟨x, hx, hb⟩ := Array.any_eq_true'.1 (h4 j hj)
      simp only [Bool.and_eq_true, beq_iff_eq] at hb
      exact ⟨x, hx, hb.1, hb.2⟩
    · have := h5 j (by simpa using hj)
      simp only [Bool.or_eq_true, beq_iff_eq, bne_iff_ne] at this
      rcases this with h | h
      · exact hne h.symm
      · exact h e.symm
theorem plan_size {n N : Nat} {D : Nat → Nat} {deps : Nat → List Nat} {cs : List Nat} (h : plan ops n N D deps cs = true) : ops.size = n := by
  simp only [plan, Bool.and_eq_true, decide_eq_true_eq] at h
  exact h.1

/-- one operation's obligation: whatever slots it waits for, it leaves its own -/
def OpLeaves (P : Program) (ops : Array Oper) (Q : Exit → Act → World → Prop) (N : Nat) (cs : List (Nat × Value)) (w0 : World) (D : Nat → Nat) (deps : Nat → List Nat) (R : Nat → Value → World → Prop) (i : Nat) : Prop :=
  ∀ o, ops[i]? = some o → ∀ (a : Act) (w : World), Keeps N cs a → Below w0.heap.size w0 w → (∀ j ∈ deps i, R j (a.tmps.getD (D j) undef) w) →
    ∀ K : Act → World → Prop, (∀ v w', Below w.heap.size w w' → R i v w' → K (a.put (some (D i)) v) w') → if Region.wanted o (yielded ops a.tmps) = true then Oper.wp P o a w K Q else K (a.put o.dst undef) w

theorem wp_region_leaves {id : Nat} {a : Act} {w0 : World} (hm : P.follows .mixedOrders = true) (n N : Nat) (cs : List (Nat × Value)) (D : Nat → Nat) (deps : Nat → List Nat) (R : Nat → Value → World → Prop)
    (hplan : plan ops n N D deps (cs.map (·.1)) = true) (hk : Keeps N cs a)
    (hmono : ∀ i v w w', Below w0.heap.size w0 w → Below w.heap.size w w' → R i v w → R i v w')
    (hstep : ∀ i, i < n → OpLeaves P ops Q N cs w0 D deps R i)
    (hdone : ∀ a w, Keeps N cs a → Below w0.heap.size w0 w → (∀ i, i < n → R i (a.tmps.getD (D i) undef) w) → Q .normal a w) : (Code.region id ops true).wp P Q a w0 := by
  have hsize := plan_size hplan
  have least : ∀ (listed : Array Bool), listed.size = n → (¬ ∀ i, i < n → listed.getD i false = true) → Region.ready .any ops listed ≠ [] := by
    intro listed hl hno hr
    have step : ∀ m, m ≤ n → ∀ i, i < m → listed.getD i false = true := by
      intro m
      induction m with
      | zero => intro _ i hi; omega
      | succ m ih =>
        intro hm' i hi
        by_cases him : i < m
        · exact ih (by omega) i him
        · obtain rfl : i = m := by omega
          obtain ⟨o, ho, _, _, _, hlt, _, _⟩ := plan_at hplan (i := i) (by omega)
          cases hb : listed.getD i false with
          | true => rfl
          | false =>
            have hmem : i ∈ Region.ready .any ops listed := mem_ready.2 ⟨by
              have hi' : i < listed.size := by omega
              simp only [Array.getD, hi', dif_pos] at hb ⊢
              exact hb, o, ho, fun e he hb => ih (by omega) e.on (hlt e he hb)⟩
            rw [hr] at hmem
            cases hmem
    exact hno (step n (Nat.le_refl _))
  have main : ∀ (fuel : Nat) (listed : Array Bool) (a : Act) (w : World), listed.size = n → (listed.toList.countP (· == false)) ≤ fuel → Keeps N cs a → Below w0.heap.size w0 w →
      (∀ i, i < n → listed.getD i false = true → R i (a.tmps.getD (D i) undef) w) → wpAny P .any ops Q fuel listed a w := by
    intro fuel
    induction fuel with
    | zero =>
      intro listed a w hl hc hk hb hR
      have hall : ∀ i, i < n → listed.getD i false = true := by
        intro i hi
        have h0 : listed.toList.countP (· == false) = 0 := by omega
        have hi' : i < listed.size := by omega
        have := List.countP_eq_zero.1 h0 listed[i] (by simp)
        simp only [Array.getD, hi', dif_pos]
        simpa using this
      refine ⟨?_, hdone a w hk hb fun i hi => hR i hi (hall i hi)⟩
      cases hr : Region.ready .any ops listed with
      | nil => rfl
      | cons x xs =>
        obtain ⟨h1, o, h2, _⟩ := (mem_ready (md := .any) (ops := ops) (listed := listed) (j := x)).1 (by rw [hr]; simp)
        have hxn : x < n := by rw [← hsize]; exact (Array.getElem?_eq_some_iff.1 h2).1
        have h3 := hall x hxn
        have hi' : x < listed.size := by omega
        simp only [Array.getD, hi', dif_pos] at h1 h3
        rw [h1] at h3
        cases h3
    | succ fuel ih =>
      intro listed a w hl hc hk hb hR
      refine ⟨fun hr => ?_, fun i hi => ?_⟩
      · by_cases hall : ∀ i, i < n → listed.getD i false = true
        · exact hdone a w hk hb fun i hi => hR i hi (hall i hi)
        · exact absurd hr (least listed hl hall)
      · obtain ⟨h1, o, h2, h3⟩ := mem_ready.1 hi
        have hin : i < n := by rw [← hsize]; exact (Array.getElem?_eq_some_iff.1 h2).1
        have hi' : i < listed.size := by omega
        obtain ⟨o', ho', hd, hdN, hcs, hlt, hdeps, hne⟩ := plan_at hplan hin
        obtain rfl : o' = o := Option.some.inj (ho'.symm.trans h2)
        refine wpOp_step h2 fun K hK => hstep i hin o' h2 a w hk hb (fun j hj => ?_) K fun v w' hbw hRv => hK _ _ ?_
        · obtain ⟨e, he, hbd, rfl⟩ := hdeps j hj
          exact hR _ (by have := hlt e he hbd; omega) (h3 e he hbd)
        · refine ih _ _ _ (by simpa using hl) ?_ (hk.put (fun p hp => hcs p.1 (List.mem_map_of_mem hp)) v) (hb.trans (hbw.mono hb.size)) fun j hj hlj => ?_
          · have h0 : listed[i] = false := by simp only [Array.getD, hi', dif_pos] at h1; exact h1
            have hcnt := List.countP_set (p := fun x : Bool => x == false) (l := listed.toList) (i := i) (a := true) (by simpa using hi')
            have hpos : 0 < listed.toList.countP (fun x : Bool => x == false) := List.countP_pos_iff.2 ⟨false, by rw [← h0]; simp, rfl⟩
            have e1 : (listed.setIfInBounds i true).toList = listed.toList.set i true := by simp
            have e2 : (listed.toList[i]'(by simpa using hi') == false) = true := by rw [Array.getElem_toList, h0]; rfl
            rw [e1, hcnt, if_pos e2, if_neg (by decide)]
            omega
          · by_cases hji : j = i
            · subst hji
              rw [put_same hk.1 hdN]
              exact hRv
            · rw [put_other (hne j hj hji)]
              rw [getD_set_ne false (Ne.symm hji)] at hlj
              exact hmono j _ w w' hb hbw (hR j hj hlj)
  refine wp_region_any hm (main ops.size _ a _ (by simp [hsize]) ?_ hk ?_ ?_)
  · exact Nat.le_trans List.countP_le_length (by simp)
  · exact (Below.refl w0.heap.size w0).drew
  · intro i hi h
    have hh : (Array.replicate ops.size false).getD i false = false := by
      simp only [Array.getD_eq_getD_getElem?, Array.getElem?_replicate]
      split <;> rfl
    rw [hh] at h
    cases h
end
end Go.Proofs.Ytlenfocdhchphaa
