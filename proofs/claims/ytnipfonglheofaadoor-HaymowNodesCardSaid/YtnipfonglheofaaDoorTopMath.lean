/-
  The pointers of blocks and of nodes of a file, laid down in the order of HaymowNodes; no program is named here.
-/
import Derived.Test.YtnipfonglheofaaDoorTopNodes
import Derived.Test.YtnipfonglheofaaDoorInoMath
namespace Go.Proofs.YtnipfonglheofaaDoor
set_option linter.unusedVariables false
set_option maxRecDepth 100000

def zP : Pr := ⟨0, 0⟩
def mkP (x : Nat) (l : List Pr) : Pr := ⟨1000 + (x : Int), sumN (nodB l)⟩
/-- the pointers of the first blocks -/
def hvN (bl sm : List Nat) : Nat → Nat → Option Pr
  | 0 => fun _ => none
  | i + 1 => fun n => if n = bl.getD i 0 then some ⟨1 + (i : Int), sm.getD i 0⟩ else hvN bl sm i n
theorem hvN_succ (bl sm : List Nat) (i n : Nat) : hvN bl sm (i + 1) n = if n = bl.getD i 0 then some ⟨1 + (i : Int), sm.getD i 0⟩ else hvN bl sm i n := rfl
def okPr (q : Pr) : Prop := prOk q = true ∧ q.sum < 4294967296
theorem childP_blk {hv A : Nat → Option Pr} {p : List Int} {n : Nat} (h : blkO p = some n) : childP zP hv A p = (hv n).getD zP := by unfold childP; rw [h]
theorem childP_num {hv A : Nat → Option Pr} {p : List Int} {n : Nat} (h : blkO p = none) (h' : numO p = some n) : childP zP hv A p = (A n).getD zP := by unfold childP; rw [h, h']
theorem childP_non {hv A : Nat → Option Pr} {p : List Int} (h : blkO p = none) (h' : numO p = none) : childP zP hv A p = zP := by unfold childP; rw [h, h']
theorem okPr_z : okPr zP := ⟨by decide, by decide⟩
theorem okPr_mk (x : Nat) (l : List Pr) (hx : x < 258) : okPr (mkP x l) := by
  refine ⟨?_, ?_⟩
  · exact decide_eq_true ⟨by show (0 : Int) ≤ 1000 + (x : Int); omega, by show 1000 + (x : Int) ≤ 2147483647; omega, fun h => by have h : 1000 + (x : Int) = 0 := h; omega⟩
  · show 4294967295 - _ < 4294967296; omega
theorem hvN_ok (bl sm : List Nat) (hs : ∀ i, sm.getD i 0 < 4294967296) : ∀ i, i ≤ 20 → ∀ n q, hvN bl sm i n = some q → okPr q
  | 0, _, n, q, h => by simp [hvN] at h
  | i + 1, hi, n, q, h => by
    rw [hvN_succ] at h
    split at h
    · cases h
      exact ⟨decide_eq_true ⟨by show (0 : Int) ≤ 1 + (i : Int); omega, by show 1 + (i : Int) ≤ 2147483647; omega, fun h => by have h : 1 + (i : Int) = 0 := h; omega⟩, hs i⟩
    · exact hvN_ok bl sm hs i (by omega) n q h
theorem hvN_none (bl sm : List Nat) : ∀ i, i ≤ bl.length → ∀ n, n ∉ bl.take i → hvN bl sm i n = none
  | 0, _, n, _ => rfl
  | i + 1, hi, n, h => by
    have e : bl.take (i + 1) = bl.take i ++ [bl.getD i 0] := by
      rw [List.take_add_one, List.getD, List.getElem?_eq_getElem (by omega)]; rfl
    rw [e] at h
    simp only [List.mem_append, List.mem_singleton, not_or] at h
    rw [hvN_succ, if_neg h.2]
    exact hvN_none bl sm i (by omega) n h.1
theorem onP_mono {F : Nat → Bool} {b k m : Nat} (h : F m = true) : onP F b k m = true := by simp [onP, h]
theorem onL_snoc_mono (l : List Nat) (b m : Nat) (h : onL l m = true) : onL (l ++ [b]) m = true := by rw [onL_snoc]; exact onP_mono h
theorem onL_app_mono (l : List Nat) (m : Nat) (h : onL l m = true) : ∀ r : List Nat, onL (l ++ r) m = true := by
  intro r
  induction r generalizing l with
  | nil => simpa using h
  | cons b r ih =>
    rw [show l ++ b :: r = (l ++ [b]) ++ r by simp]
    exact ih (l ++ [b]) (onL_snoc_mono l b m h)
theorem onL_on (l : List Nat) (b k : Nat) (hb : b ∈ l) (h1 : 1 ≤ k) (hk : k < (pathI b).length) : onL l (preN b k) = true := by
  obtain ⟨u, v, rfl⟩ := List.append_of_mem hb
  rw [show u ++ b :: v = (u ++ [b]) ++ v by simp]
  refine onL_app_mono _ _ ?_ v
  rw [onL_snoc, onP]
  have : (List.range (pathI b).length).any (fun j => decide (1 ≤ j) && decide (preN b j = preN b k)) = true :=
    List.any_eq_true.2 ⟨k, List.mem_range.2 hk, by simp [h1]⟩
  rw [this, Bool.or_true]
theorem path_first (n : Nat) (hn : n < 3621) (h1 : 1 < (pathI n).length) : (pathI n)[0]? = some (6 + (preN n 1 : Int)) ∧ preN n 1 < 3 := by
  obtain ⟨hx, e⟩ := preN_nod n 1 hn (Nat.le_refl _) h1
  have hl := nodI_len (preN n 1)
  rw [e, List.length_take] at hl
  obtain ⟨x, hxe⟩ : ∃ x, preN n 1 = x := ⟨_, rfl⟩
  rw [hxe] at hl e hx ⊢
  have h3 : x < 3 := by
    by_cases a1 : x < 3
    · exact a1
    · by_cases a2 : x < 33 <;> simp [a1, a2] at hl <;> omega
  rw [nodI, if_pos h3] at e
  have := congrArg (·[0]?) e
  simp only [List.getElem?_cons_zero, List.getElem?_take_of_lt (show 0 < 1 by omega)] at this
  refine ⟨?_, h3⟩
  rw [← this]
  simp

section
variable (hv : Nat → Option Pr) (F : Nat → Bool)
def nsN : List Nat := (List.range 258).filter fun m => F m
theorem nsN_idx : idxF F 258 = (nsN F).map fun (m : Nat) => (m : Int) := rfl
theorem nsN_lt {x : Nat} (h : x ∈ nsN F) : x < 258 ∧ F x = true := by
  have := List.mem_filter.1 h
  exact ⟨List.mem_range.1 this.1, this.2⟩
theorem nsN_len : (nsN F).length ≤ 258 := by
  have := List.length_filter_le (fun m => F m) (List.range 258)
  rwa [List.length_range] at this
/-- the first number that has been laid -/
def tN (m : Nat) : Nat := (nsN F).getD m 258
theorem tN_lt {m : Nat} (h : m < (nsN F).length) : tN F m < 258 ∧ F (tN F m) = true ∧ (nsN F)[m]? = some (tN F m) := by
  have e : (nsN F)[m]? = some (tN F m) := by rw [tN, List.getD, List.getElem?_eq_getElem h]; rfl
  obtain ⟨h1, h2⟩ := nsN_lt F (List.mem_of_getElem? e)
  exact ⟨h1, h2, e⟩
theorem nsN_sorted : (nsN F).Pairwise (· < ·) := List.Pairwise.filter _ List.pairwise_lt_range
theorem tN_next {m y : Nat} (h : m < (nsN F).length) (hy : y < 258) (hF : F y = true) (hl : tN F m < y) : tN F (m + 1) ≤ y := by
  have hm : y ∈ nsN F := List.mem_filter.2 ⟨List.mem_range.2 hy, hF⟩
  obtain ⟨j, hj, e⟩ := List.mem_iff_getElem.1 hm
  have hs := List.pairwise_iff_getElem.1 (nsN_sorted F)
  have et : tN F m = (nsN F)[m] := by rw [tN, List.getD, List.getElem?_eq_getElem h]; rfl
  have hmj : m < j := by
    rcases Nat.lt_or_ge m j with h' | h'
    · exact h'
    · rcases Nat.lt_or_ge j m with h'' | h''
      · have := hs j m hj h h''; omega
      · obtain rfl : m = j := by omega
        omega
  have e1 : tN F (m + 1) = (nsN F)[m + 1]'(by omega) := by rw [tN, List.getD, List.getElem?_eq_getElem (by omega)]; rfl
  rw [e1]
  rcases Nat.lt_or_ge (m + 1) j with h' | h'
  · have := hs (m + 1) j (by omega) hj h'; omega
  · obtain rfl : j = m + 1 := by omega
    omega
theorem tN_up {m : Nat} (h : m < (nsN F).length) : tN F m < tN F (m + 1) := by
  have et : tN F m = (nsN F)[m] := by rw [tN, List.getD, List.getElem?_eq_getElem h]; rfl
  rcases Nat.lt_or_ge (m + 1) (nsN F).length with h' | h'
  · have e1 : tN F (m + 1) = (nsN F)[m + 1] := by rw [tN, List.getD, List.getElem?_eq_getElem h']; rfl
    have := List.pairwise_iff_getElem.1 (nsN_sorted F) m (m + 1) h h' (by omega)
    omega
  · have e1 : tN F (m + 1) = 258 := by rw [tN, List.getD, List.getElem?_eq_none h']; rfl
    have := (tN_lt F h).1
    omega
/-- the nodes' pointers -/
def alN : Nat → Option Pr := allP zP mkP hv F
def kdN (x : Nat) : List Pr := kidsP zP hv (alN hv F) x
/-- those that have been laid, when m are left -/
def atN (m : Nat) : Nat → Option Pr := fun y => if tN F m ≤ y then alN hv F y else none
theorem tab_big : ∀ (i y : Nat), 258 ≤ y → tabP zP mkP hv F i y = none
  | 0, _, _ => rfl
  | i + 1, y, h => by
    rw [tab_succ, if_neg (by omega)]
    exact tab_big i y h
theorem al_big (y : Nat) (h : 258 ≤ y) : alN hv F y = none := tab_big hv F 258 y h
theorem al_on (x : Nat) (hx : x < 258) (h : F x = true) : alN hv F x = some (mkP x (kdN hv F x)) := all_on zP mkP hv F x hx h
theorem al_off (x : Nat) (h : F x = false) : alN hv F x = none := all_off zP mkP hv F x h
theorem al_some {y : Nat} {q : Pr} (h : alN hv F y = some q) : y < 258 ∧ F y = true ∧ q = mkP y (kdN hv F y) := by
  rcases Nat.lt_or_ge y 258 with hy | hy
  · cases hf : F y with
    | true => rw [al_on hv F y hy hf] at h; cases h; exact ⟨hy, rfl, rfl⟩
    | false => rw [al_off hv F y hf] at h; cases h
  · rw [al_big hv F y hy] at h; cases h
theorem at_start : atN hv F (nsN F).length = fun _ => none := by
  funext y
  have e : tN F (nsN F).length = 258 := by rw [tN, List.getD, List.getElem?_eq_none (Nat.le_refl _)]; rfl
  rw [atN, e]
  split
  · exact al_big hv F y (by assumption)
  · rfl
theorem at_end : atN hv F 0 = alN hv F := by
  funext y
  rw [atN]
  split
  · rfl
  · rename_i h
    cases hf : F y with
    | false => exact (al_off hv F y hf).symm
    | true =>
      rcases Nat.lt_or_ge y 258 with hy | hy
      · have hm : y ∈ nsN F := List.mem_filter.2 ⟨List.mem_range.2 hy, hf⟩
        obtain ⟨j, hj, e⟩ := List.mem_iff_getElem.1 hm
        have et : tN F 0 = (nsN F)[0]'(by omega) := by rw [tN, List.getD, List.getElem?_eq_getElem (by omega)]; rfl
        rcases Nat.eq_zero_or_pos j with rfl | h0
        · omega
        · have := List.pairwise_iff_getElem.1 (nsN_sorted F) 0 j (by omega) hj h0
          omega
      · exact (al_big hv F y hy).symm
theorem at_above {m y : Nat} (h : m < (nsN F).length) (hl : tN F m < y) : atN hv F (m + 1) y = alN hv F y := by
  rw [atN]
  split
  · rfl
  · rename_i h'
    cases hf : F y with
    | false => exact (al_off hv F y hf).symm
    | true =>
      rcases Nat.lt_or_ge y 258 with hy | hy
      · exact absurd (tN_next F h hy hf hl) h'
      · exact (al_big hv F y hy).symm
theorem at_kids {m : Nat} (h : m < (nsN F).length) : kidsP zP hv (atN hv F (m + 1)) (tN F m) = kdN hv F (tN F m) :=
  kidsP_congr zP hv fun y h1 _ => at_above hv F h h1
theorem at_step {m : Nat} (h : m < (nsN F).length) (y : Nat) : atN hv F m y = if y = tN F m then some (mkP y (kdN hv F y)) else atN hv F (m + 1) y := by
  obtain ⟨h1, h2, _⟩ := tN_lt F h
  by_cases e : y = tN F m
  · subst e
    rw [if_pos rfl, atN, if_pos (Nat.le_refl _), al_on hv F _ h1 h2]
  · rw [if_neg e]
    rcases Nat.lt_or_ge (tN F m) y with hl | hl
    · rw [at_above hv F h hl, atN, if_pos (by omega)]
    · have := tN_up F h
      rw [atN, if_neg (by omega), atN, if_neg (by omega)]
theorem at_some {m y : Nat} {q : Pr} (h : atN hv F m y = some q) : alN hv F y = some q := by
  rw [atN] at h
  split at h
  · exact h
  · cases h
theorem child_ok {A : Nat → Option Pr} (h1 : ∀ n q, hv n = some q → okPr q) (h2 : ∀ y q, A y = some q → okPr q) (p : List Int) : okPr (childP zP hv A p) := by
  unfold childP
  cases blkO p with
  | some n =>
    show okPr ((hv n).getD zP)
    cases h : hv n with
    | none => exact okPr_z
    | some q => exact h1 n q h
  | none =>
    cases numO p with
    | none => exact okPr_z
    | some y =>
      show okPr ((A y).getD zP)
      cases h : A y with
      | none => exact okPr_z
      | some q => exact h2 y q h
theorem al_ok (h1 : ∀ n q, hv n = some q → okPr q) (y : Nat) (q : Pr) (h : alN hv F y = some q) : okPr q := by
  obtain ⟨hy, _, rfl⟩ := al_some hv F h
  exact okPr_mk y _ hy
theorem kd_ok (h1 : ∀ n q, hv n = some q → okPr q) (x : Nat) : (kdN hv F x).length = 15 ∧ (kdN hv F x).all prOk = true ∧ prSums (kdN hv F x) := by
  have hall : ∀ q ∈ kdN hv F x, okPr q := fun q hq => by
    obtain ⟨k, _, rfl⟩ := List.mem_map.1 hq
    exact child_ok hv h1 (al_ok hv F h1) _
  refine ⟨by simp [kdN, kidsP], List.all_eq_true.2 fun q hq => (hall q hq).1, fun q hq => (hall q hq).2⟩
end
end Go.Proofs.YtnipfonglheofaaDoor
