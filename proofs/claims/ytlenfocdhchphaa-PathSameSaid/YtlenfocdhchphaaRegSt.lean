/-
  A region that draws its order, by what holds when some of its operations have run: one obligation for each operation, none for each order; memory may turn. No program is named here.
-/
import Derived.WalkKit
import Derived.RegionTactic
import Derived.Test.YtlenfocdhchphaaRegInv
namespace Go.Proofs.Ytlenfocdhchphaa
open Go.RowKit
set_option linter.unusedVariables false

section
variable {P : Program} {ops : Array Oper} {Q : Exit → Act → World → Prop}

def setL (L : Nat → Bool) (i : Nat) : Nat → Bool := fun j => if j = i then true else L j
def setV (vals : Nat → Value) (i : Nat) (v : Value) : Nat → Value := fun j => if j = i then v else vals j
theorem setL_same (L : Nat → Bool) (i : Nat) : setL L i i = true := if_pos rfl
theorem setL_other (L : Nat → Bool) {i j : Nat} (h : j ≠ i) : setL L i j = L j := if_neg h
theorem setV_same (vals : Nat → Value) (i : Nat) (v : Value) : setV vals i v i = v := if_pos rfl
theorem setV_other (vals : Nat → Value) {i j : Nat} (v : Value) (h : j ≠ i) : setV vals i v j = vals j := if_neg h

/-- the slots of the operations that have run hold their values; the others are as they were -/
structure Slots (a0 : Act) (n N : Nat) (D : Nat → Nat) (L : Nat → Bool) (vals : Nat → Value) (a : Act) : Prop where
  size : a.tmps.size = N
  defers : a.defers = a0.defers
  own : ∀ i, i < n → L i = true → D i < N → a.tmps.getD (D i) undef = vals i
  other : ∀ s, (∀ i, i < n → D i ≠ s) → a.tmps.getD s undef = a0.tmps.getD s undef

def plan2 (ops : Array Oper) (n N : Nat) (D : Nat → Nat) (deps : Nat → List Nat) : Bool :=
  decide (ops.size = n) && (List.range n).all fun i => match ops[i]? with
    | some o => (o.dst == if D i < N then some (D i) else Option.none) && (o.after.all fun e => !Region.binds .any e || decide (e.on < i)) && ((deps i).all fun j => o.after.any fun e => Region.binds .any e && e.on == j) && ((List.range n).all fun j => i == j || D i != D j)
    | Option.none => false
theorem plan2_at {n N : Nat} {D : Nat → Nat} {deps : Nat → List Nat} (h : plan2 ops n N D deps = true) {i : Nat} (hi : i < n) :
    ∃ o, ops[i]? = some o ∧ o.dst = (if D i < N then some (D i) else Option.none) ∧ (∀ e ∈ o.after, Region.binds .any e = true → e.on < i) ∧ (∀ j ∈ deps i, ∃ e ∈ o.after, Region.binds .any e = true ∧ e.on = j) ∧ ∀ j, j < n → j ≠ i → D j ≠ D i := by
  simp only [plan2, Bool.and_eq_true, List.all_eq_true] at h
  have hh := h.2 i (by simpa using hi)
  cases ho : ops[i]? with
  | none => rw [ho] at hh; cases hh
  | some o =>
    rw [ho] at hh
    simp only [Bool.and_eq_true, beq_iff_eq, List.all_eq_true, Array.all_eq_true_iff_forall_mem] at hh
    obtain ⟨⟨⟨h1, h4⟩, h5⟩, h6⟩ := hh
    refine ⟨o, rfl, h1, fun e he hb => by have := h4 e he; simpa [hb] using this, fun j hj => ?_, fun j hj hne e => ?_⟩
    · obtain ⟨x, hx, hb⟩ := Array.any_eq_true'.1 (h5 j hj)
      simp only [Bool.and_eq_true, beq_iff_eq] at hb
      exact ⟨x, hx, hb.1, hb.2⟩
    · have := h6 j (by simpa using hj)
      simp only [Bool.or_eq_true, beq_iff_eq, bne_iff_ne] at this
      rcases this with h | h
      · exact hne h.symm
      · exact h e.symm
theorem plan2_size {n N : Nat} {D : Nat → Nat} {deps : Nat → List Nat} (h : plan2 ops n N D deps = true) : ops.size = n := by
  simp only [plan2, Bool.and_eq_true, decide_eq_true_eq] at h
  exact h.1

theorem Slots.put {a0 a : Act} {n N : Nat} {D : Nat → Nat} {L : Nat → Bool} {vals : Nat → Value} (h : Slots a0 n N D L vals a) {i : Nat} (hi : i < n) (hne : ∀ j, j < n → j ≠ i → D j ≠ D i) {dst : Option Tmp} (hd : dst = if D i < N then some (D i) else Option.none) (v : Value) :
    Slots a0 n N D (setL L i) (setV vals i v) (a.put dst v) := by
  by_cases hD : D i < N
  · rw [if_pos hD] at hd
    subst hd
    refine ⟨by simpa [Act.put] using h.size, h.defers, fun j hj hl hjN => ?_, fun s hs => ?_⟩
    · by_cases e : j = i
      · subst e
        rw [put_same h.size hD, setV_same]
      · rw [put_other (hne j hj e), setV_other _ _ e]
        rw [setL_other _ e] at hl
        exact h.own j hj hl hjN
    · rw [put_other (fun e => hs i hi e.symm)]
      exact h.other s hs
  · rw [if_neg hD] at hd
    subst hd
    refine ⟨h.size, h.defers, fun j hj hl hjN => ?_, h.other⟩
    have e : j ≠ i := fun e => by subst e; exact hD hjN
    rw [setV_other _ _ e]
    rw [setL_other _ e] at hl
    exact h.own j hj hl hjN

/-- one operation's obligation -/
def OpRuns (P : Program) (ops : Array Oper) (Q : Exit → Act → World → Prop) (a0 : Act) (n N : Nat) (D : Nat → Nat) (deps : Nat → List Nat) (J : (Nat → Bool) → (Nat → Value) → World → Prop) (i : Nat) : Prop :=
  ∀ o, ops[i]? = some o → ∀ (L : Nat → Bool) (vals : Nat → Value) (a : Act) (w : World), Slots a0 n N D L vals a → L i = false → (∀ j, L j = true → ∀ d ∈ deps j, L d = true) → (∀ j ∈ deps i, L j = true) → J L vals w →
    ∀ K : Act → World → Prop, (∀ v w', J (setL L i) (setV vals i v) w' → K (a.put o.dst v) w') → if Region.wanted o (yielded ops a.tmps) = true then Oper.wp P o a w K Q else K (a.put o.dst undef) w

theorem wp_region_states {id : Nat} {a0 : Act} {w0 : World} (hm : P.follows .mixedOrders = true) (n N : Nat) (D : Nat → Nat) (deps : Nat → List Nat) (J : (Nat → Bool) → (Nat → Value) → World → Prop)
    (hplan : plan2 ops n N D deps = true) (hN : a0.tmps.size = N) (hJ : J (fun _ => false) (fun _ => undef) w0.drew)
    (hstep : ∀ i, i < n → OpRuns P ops Q a0 n N D deps J i)
    (hdone : ∀ vals a w, Slots a0 n N D (fun j => decide (j < n)) vals a → J (fun j => decide (j < n)) vals w → Q .normal a w) : (Code.region id ops true).wp P Q a0 w0 := by
  have hsize := plan2_size hplan
  have least : ∀ (listed : Array Bool), listed.size = n → (¬ ∀ i, i < n → listed.getD i false = true) → Region.ready .any ops listed ≠ [] := by
    intro listed hl hno hr
    have step : ∀ m, m ≤ n → ∀ i, i < m → listed.getD i false = true := by
      intro m
      induction m with
      | zero => intro _ i hi; omega
      | succ m ih =>
        intro hm' i hi
        by_cases him : i < m
        · exact ih (by omega) i him
        · obtain rfl : i = m := by omega
          obtain ⟨o, ho, _, hlt, _, _⟩ := plan2_at hplan (i := i) (by omega)
          cases hb : listed.getD i false with
          | true => rfl
          | false =>
            have hmem : i ∈ Region.ready .any ops listed := mem_ready.2 ⟨by
              have hi' : i < listed.size := by omega
              simp only [Array.getD, hi', dif_pos] at hb ⊢
              exact hb, o, ho, fun e he hb => ih (by omega) e.on (hlt e he hb)⟩
            rw [hr] at hmem
            cases hmem
    exact hno (step n (Nat.le_refl _))
  have full : ∀ (listed : Array Bool), listed.size = n → (∀ i, i < n → listed.getD i false = true) → (fun j => listed.getD j false) = fun j => decide (j < n) := by
    intro listed hl h
    funext j
    by_cases hj : j < n
    · rw [h j hj]; simp [hj]
    · have : ¬ j < listed.size := by omega
      simp [this, hj]
  have main : ∀ (fuel : Nat) (listed : Array Bool) (vals : Nat → Value) (a : Act) (w : World), listed.size = n → (listed.toList.countP (· == false)) ≤ fuel → Slots a0 n N D (fun j => listed.getD j false) vals a → (∀ j, listed.getD j false = true → ∀ d ∈ deps j, listed.getD d false = true) →
      J (fun j => listed.getD j false) vals w → wpAny P .any ops Q fuel listed a w := by
    intro fuel
    induction fuel with
    | zero =>
      intro listed vals a w hl hc hk hcl hJ
      have hall : ∀ i, i < n → listed.getD i false = true := by
        intro i hi
        have h0 : listed.toList.countP (· == false) = 0 := by omega
        have hi' : i < listed.size := by omega
        have := List.countP_eq_zero.1 h0 listed[i] (by simp)
        simp only [Array.getD, hi', dif_pos]
        simpa using this
      rw [full listed hl hall] at hk hJ
      refine ⟨?_, hdone vals a w hk hJ⟩
      cases hr : Region.ready .any ops listed with
      | nil => rfl
      | cons x xs =>
        obtain ⟨h1, o, h2, _⟩ := (mem_ready (md := .any) (ops := ops) (listed := listed) (j := x)).1 (by rw [hr]; simp)
        have hxn : x < n := by rw [← hsize]; exact (Array.getElem?_eq_some_iff.1 h2).1
        have h3 := hall x hxn
        have hi' : x < listed.size := by omega
        simp only [Array.getD, hi', dif_pos] at h1 h3
        rw [h1] at h3
        cases h3
    | succ fuel ih =>
      intro listed vals a w hl hc hk hcl hJ
      refine ⟨fun hr => ?_, fun i hi => ?_⟩
      · by_cases hall : ∀ i, i < n → listed.getD i false = true
        · rw [full listed hl hall] at hk hJ
          exact hdone vals a w hk hJ
        · exact absurd hr (least listed hl hall)
      · obtain ⟨h1, o, h2, h3⟩ := mem_ready.1 hi
        have hin : i < n := by rw [← hsize]; exact (Array.getElem?_eq_some_iff.1 h2).1
        have hi' : i < listed.size := by omega
        obtain ⟨o', ho', hd, hlt, hdeps, hne⟩ := plan2_at hplan hin
        obtain rfl : o' = o := Option.some.inj (ho'.symm.trans h2)
        have hi0 : listed.getD i false = false := by
          simp only [Array.getD, hi', dif_pos] at h1 ⊢
          exact h1
        have hdl : ∀ j ∈ deps i, listed.getD j false = true := fun j hj => by
          obtain ⟨e, he, hbd, rfl⟩ := hdeps j hj
          exact h3 e he hbd
        refine wpOp_step h2 fun K hK => hstep i hin o' h2 _ vals a w hk hi0 hcl hdl hJ K fun v w' hJ' => hK _ _ ?_
        have hL : (fun j => (listed.setIfInBounds i true).getD j false) = setL (fun j => listed.getD j false) i := by
          funext j
          unfold setL
          by_cases e : j = i
          · subst e; simp [hi']
          · rw [if_neg e, getD_set_ne false (Ne.symm e)]
        have hcount : ((listed.setIfInBounds i true).toList.countP (· == false)) ≤ fuel := by
          have h0 : listed[i] = false := by simp only [Array.getD, hi', dif_pos] at hi0; exact hi0
          have hcnt := List.countP_set (p := fun x : Bool => x == false) (l := listed.toList) (i := i) (a := true) (by simpa using hi')
          have hpos : 0 < listed.toList.countP (fun x : Bool => x == false) := List.countP_pos_iff.2 ⟨false, by rw [← h0]; simp, rfl⟩
          have e1 : (listed.setIfInBounds i true).toList = listed.toList.set i true := by simp
          have e2 : (listed.toList[i]'(by simpa using hi') == false) = true := by rw [Array.getElem_toList, h0]; rfl
          rw [e1, hcnt, if_pos e2, if_neg (by decide)]
          omega
        have hcl' : ∀ j, (listed.setIfInBounds i true).getD j false = true → ∀ d ∈ deps j, (listed.setIfInBounds i true).getD d false = true := by
          intro j hj d hd'
          have e3 : (listed.setIfInBounds i true).getD j false = setL (fun j => listed.getD j false) i j := congrFun hL j
          have e4 : (listed.setIfInBounds i true).getD d false = setL (fun j => listed.getD j false) i d := congrFun hL d
          rw [e3] at hj
          rw [e4]
          by_cases e5 : d = i
          · subst e5; exact setL_same _ _
          · rw [setL_other _ e5]
            by_cases e6 : j = i
            · subst e6; exact hdl d hd'
            · rw [setL_other _ e6] at hj
              exact hcl j hj d hd'
        refine ih _ (setV vals i v) _ _ (by simpa using hl) hcount ?_ hcl' ?_
        · rw [hL]; exact hk.put hin hne hd v
        · rw [hL]; exact hJ'
  have hz : (fun j => (Array.replicate ops.size false).getD j false) = fun _ => false := by
    funext j
    simp only [Array.getD_eq_getD_getElem?, Array.getElem?_replicate]
    split <;> rfl
  refine wp_region_any hm (main ops.size _ (fun _ => undef) _ _ (by simp [hsize]) ?_ ?_ ?_ ?_)
  · exact Nat.le_trans List.countP_le_length (by simp)
  · rw [hz]; exact ⟨hN, rfl, fun i _ h => (nomatch h), fun s _ => rfl⟩
  · intro j hj
    have : (Array.replicate ops.size false).getD j false = false := congrFun hz j
    rw [this] at hj
    cases hj
  · rw [hz]; exact hJ

/-- behind the region: the frame, as if the operations had run in the text's order -/
def putAll (N : Nat) (D : Nat → Nat) (vals : Nat → Value) : Nat → Array Value → Array Value
  | 0, t => t
  | n + 1, t => (putAll N D vals n t).setIfInBounds (D n) (vals n)
theorem Slots.frame {a0 a : Act} {n N : Nat} {D : Nat → Nat} {vals : Nat → Value} (hN : a0.tmps.size = N) (hd : a0.defers = []) (hne : ∀ i j, i < n → j < n → j ≠ i → D j ≠ D i) (h : Slots a0 n N D (fun j => decide (j < n)) vals a) :
    a = { tmps := putAll N D vals n a0.tmps, defers := [] } := by
  have hs : ∀ m, (putAll N D vals m a0.tmps).size = N := fun m => by
    induction m with
    | zero => exact hN
    | succ m ih => rw [putAll, Array.size_setIfInBounds]; exact ih
  have h1 : ∀ m, ∀ s, (∀ i, i < m → D i ≠ s) → (putAll N D vals m a0.tmps)[s]? = a0.tmps[s]? := fun m => by
    induction m with
    | zero => intro s _; rfl
    | succ m ih =>
      intro s hs'
      rw [putAll, Array.getElem?_setIfInBounds_ne (hs' m (by omega))]
      exact ih s fun i hi => hs' i (by omega)
  have h2 : ∀ m, m ≤ n → ∀ i, i < m → D i < N → (putAll N D vals m a0.tmps)[D i]? = some (vals i) := fun m => by
    induction m with
    | zero => intro _ i hi; omega
    | succ m ih =>
      intro hm' i hi hiN
      rw [putAll]
      by_cases e : i = m
      · subst e
        rw [Array.getElem?_setIfInBounds_self_of_lt (by rw [hs]; exact hiN)]
      · rw [Array.getElem?_setIfInBounds_ne (hne i m (by omega) (by omega) (Ne.symm e))]
        exact ih (by omega) i (by omega) hiN
  obtain ⟨t, d⟩ := a
  have hd' : d = [] := h.defers.trans hd
  subst hd'
  congr 1
  apply Array.ext_getElem?
  intro s
  by_cases hsN : s < N
  · have hsz : s < t.size := by have := h.size; simp only at this; omega
    by_cases hex : ∃ i, i < n ∧ D i = s
    · obtain ⟨i, hi, rfl⟩ := hex
      rw [h2 n (Nat.le_refl _) i hi hsN]
      have := h.own i hi (by simpa using hi) hsN
      simp only [Array.getD_eq_getD_getElem?, Array.getElem?_eq_getElem hsz, Option.getD_some] at this
      rw [Array.getElem?_eq_getElem hsz, this]
    · have hne' : ∀ i, i < n → D i ≠ s := fun i hi e => hex ⟨i, hi, e⟩
      rw [h1 n s hne']
      have := h.other s hne'
      have hs0 : s < a0.tmps.size := by omega
      simp only [Array.getD_eq_getD_getElem?, Array.getElem?_eq_getElem hsz, Array.getElem?_eq_getElem hs0, Option.getD_some] at this
      rw [Array.getElem?_eq_getElem hsz, Array.getElem?_eq_getElem hs0, this]
  · have hsz := h.size
    simp only at hsz
    rw [Array.getElem?_eq_none (by omega), Array.getElem?_eq_none (by rw [hs]; omega)]

theorem wp_append_run {o : Oper} {a : Act} {w : World} {K : Act → World → Prop} (s x : Operand) (t : TypeId) (ho : o.op = .call { callee := .builtin .append, args := #[s, x], argTypes := #[t, t] }) (v sl v' : Value) (w' : World)
    (hs : a.eval s = v) (hx : a.eval x = sl) (hrun : (Builtin.append_ #[t, t] o.type #[v, sl]).run P w = .ok v' w') (h : K (a.put o.dst v') w') : Oper.wp P o a w K Q := by
  unfold Oper.wp
  simp [execOp, ho, resolve, invoke, builtin, hs, hx, hrun, Result.andThen]
  exact h

/-! ### where each operation's value, and the world, are known ahead -/
structure JV (V : Nat → Value) (W : (Nat → Bool) → World) (L : Nat → Bool) (vals : Nat → Value) (w : World) : Prop where
  val : ∀ j, L j = true → vals j = V j
  world : w = W L
theorem JV.step {V : Nat → Value} {W : (Nat → Bool) → World} {L : Nat → Bool} {vals : Nat → Value} {w w' : World} (h : JV V W L vals w) {i : Nat} {v : Value} (hv : v = V i) (hw : w' = W (setL L i)) : JV V W (setL L i) (setV vals i v) w' :=
  ⟨fun j hj => by
    by_cases e : j = i
    · subst e; rw [setV_same]; exact hv
    · rw [setV_other _ _ e]
      rw [setL_other _ e] at hj
      exact h.val j hj, hw⟩
theorem Slots.dep {a0 a : Act} {n N : Nat} {D : Nat → Nat} {L : Nat → Bool} {vals V : Nat → Value} {W : (Nat → Bool) → World} {w : World} (hs : Slots a0 n N D L vals a) (hJ : JV V W L vals w) (j s : Nat) (v : Value) (hl : L j = true) (hj : j < n) (hD : D j = s) (hN : s < N) (hV : V j = v) : a.tmps[s]?.getD undef = v := by
  subst hD; subst hV
  rw [← Array.getD_eq_getD_getElem?, hs.own j hj hl hN]
  exact hJ.val j hl
theorem Slots.out {a0 a : Act} {n N : Nat} {D : Nat → Nat} {L : Nat → Bool} {vals : Nat → Value} (hs : Slots a0 n N D L vals a) (s : Nat) (v : Value) (h : ∀ i, i < n → D i ≠ s) (hv : a0.tmps.getD s undef = v) : a.tmps[s]?.getD undef = v := by
  subst hv
  rw [← Array.getD_eq_getD_getElem?]
  exact hs.other s h
theorem putAll_congr {N : Nat} {D : Nat → Nat} {vals V : Nat → Value} : ∀ (n : Nat) (t : Array Value), (∀ i, i < n → vals i = V i) → putAll N D vals n t = putAll N D V n t
  | 0, t, _ => rfl
  | n + 1, t, h => by rw [putAll, putAll, putAll_congr n t (fun i hi => h i (by omega)), h n (by omega)]
theorem Slots.done {a0 a : Act} {n N : Nat} {D : Nat → Nat} {vals V : Nat → Value} {W : (Nat → Bool) → World} {w : World} (hN : a0.tmps.size = N) (hd : a0.defers = []) (hne : ∀ i j, i < n → j < n → j ≠ i → D j ≠ D i) (h : Slots a0 n N D (fun j => decide (j < n)) vals a) (hJ : JV V W (fun j => decide (j < n)) vals w) :
    a = { tmps := putAll N D V n a0.tmps, defers := [] } ∧ w = W (fun j => decide (j < n)) :=
  ⟨by rw [h.frame hN hd hne, putAll_congr n _ (fun i hi => hJ.val i (by simpa using hi))], hJ.world⟩

/-! ### .. where the values are known ahead, and the world by a relation -/
structure JR (V : Nat → Value) (R : (Nat → Bool) → World → Prop) (L : Nat → Bool) (vals : Nat → Value) (w : World) : Prop where
  val : ∀ j, L j = true → vals j = V j
  world : R L w
theorem JR.step {V : Nat → Value} {R : (Nat → Bool) → World → Prop} {L : Nat → Bool} {vals : Nat → Value} {w w' : World} (h : JR V R L vals w) {i : Nat} {v : Value} (hv : v = V i) (hw : R (setL L i) w') : JR V R (setL L i) (setV vals i v) w' :=
  ⟨fun j hj => by
    by_cases e : j = i
    · subst e; rw [setV_same]; exact hv
    · rw [setV_other _ _ e]
      rw [setL_other _ e] at hj
      exact h.val j hj, hw⟩
theorem some_of_getD {t : Array Value} {s N : Nat} {v : Value} (hN : t.size = N) (h : s < N) (e : t.getD s undef = v) : t[s]? = some v := by
  have h' : s < t.size := by omega
  subst e
  rw [Array.getElem?_eq_getElem h', Array.getD_eq_getD_getElem?, Array.getElem?_eq_getElem h']
  rfl
theorem Slots.depS {a0 a : Act} {n N : Nat} {D : Nat → Nat} {L : Nat → Bool} {vals V : Nat → Value} {R : (Nat → Bool) → World → Prop} {w : World} (hs : Slots a0 n N D L vals a) (hJ : JR V R L vals w) (j s : Nat) (v : Value) (hl : L j = true) (hj : j < n) (hD : D j = s) (hN : s < N) (hV : V j = v) : a.tmps[s]? = some v := by
  subst hD; subst hV
  exact some_of_getD hs.size hN ((hs.own j hj hl hN).trans (hJ.val j hl))
theorem Slots.outS {a0 a : Act} {n N : Nat} {D : Nat → Nat} {L : Nat → Bool} {vals : Nat → Value} (hs : Slots a0 n N D L vals a) (s : Nat) (v : Value) (hN : s < N) (h : ∀ i, i < n → D i ≠ s) (hv : a0.tmps.getD s undef = v) : a.tmps[s]? = some v :=
  some_of_getD hs.size hN ((hs.other s h).trans hv)
theorem Slots.doneR {a0 a : Act} {n N : Nat} {D : Nat → Nat} {vals V : Nat → Value} {R : (Nat → Bool) → World → Prop} {w : World} (hN : a0.tmps.size = N) (hd : a0.defers = []) (hne : ∀ i j, i < n → j < n → j ≠ i → D j ≠ D i) (h : Slots a0 n N D (fun j => decide (j < n)) vals a) (hJ : JR V R (fun j => decide (j < n)) vals w) :
    a = { tmps := putAll N D V n a0.tmps, defers := [] } ∧ R (fun j => decide (j < n)) w :=
  ⟨by rw [h.frame hN hd hne, putAll_congr n _ (fun i hi => hJ.val i (by simpa using hi))], hJ.world⟩
theorem all_zero {p : Nat → Prop} : ∀ i, i < 0 → p i := fun i hi => absurd hi (by omega)
theorem all_succ {p : Nat → Prop} {n : Nat} (h : ∀ i, i < n → p i) (hn : p n) : ∀ i, i < n + 1 → p i := fun i hi => by
  by_cases e : i = n
  · subst e; exact hn
  · exact h i (by omega)
end
end Go.Proofs.Ytlenfocdhchphaa
