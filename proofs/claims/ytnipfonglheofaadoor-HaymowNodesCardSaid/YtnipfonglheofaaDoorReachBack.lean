/-
  The nodes on one path are its beginnings, one after the other; no program is named here.
-/
import Derived.Test.YtnipfonglheofaaDoorReachOn
namespace Go.Proofs.YtnipfonglheofaaDoor
set_option linter.unusedVariables false

theorem filt (F : Nat → Bool) : ∀ (n s : Nat) (L : List Nat), L.Pairwise (· < ·) → (∀ x ∈ L, s ≤ x ∧ x < s + n) → (∀ m, s ≤ m → m < s + n → (F m = true ↔ m ∈ L)) → (List.range' s n).filter F = L
  | 0, s, L, _, h, _ => by
    cases L with
    | nil => rfl
    | cons x t => have := h x (by simp); omega
  | n + 1, s, L, hp, h, hF => by
    rw [List.range'_succ, List.filter_cons]
    by_cases hs : s ∈ L
    · rw [if_pos ((hF s (Nat.le_refl _) (by omega)).2 hs)]
      cases L with
      | nil => simp at hs
      | cons x t =>
        have hx := h x (by simp)
        have hxs : x = s := by
          rcases List.mem_cons.1 hs with e | e
          · exact e.symm
          · have := List.rel_of_pairwise_cons hp e
            omega
        subst hxs
        congr 1
        refine filt F n (x + 1) t (List.Pairwise.of_cons hp) (fun y hy => ?_) (fun m h1 h2 => ?_)
        · have h1 := List.rel_of_pairwise_cons hp hy
          have h2 := h y (by simp [hy])
          omega
        · rw [hF m (by omega) (by omega), List.mem_cons]
          constructor
          · rintro (e | e)
            · omega
            · exact e
          · exact .inr
    · rw [if_neg fun e => hs ((hF s (Nat.le_refl _) (by omega)).1 e)]
      refine filt F n (s + 1) L hp (fun y hy => ?_) (fun m h1 h2 => hF m (by omega) (by omega))
      have h2 := h y hy
      have : y ≠ s := fun e => hs (e ▸ hy)
      omega
theorem nodI_len (x : Nat) : (nodI x).length = if x < 3 then 1 else if x < 33 then 2 else 3 := by
  unfold nodI
  by_cases h1 : x < 3
  · simp [h1]
  · by_cases h2 : x < 18
    · simp [h1, h2, show x < 33 by omega]
    · by_cases h3 : x < 33
      · simp [h1, h2, h3]
      · simp [h1, h2, h3]
theorem preN_len (b k : Nat) (hb : b < 3621) (h1 : 1 ≤ k) (hk : k < (pathI b).length) : preN b k < 258 ∧ (if preN b k < 3 then 1 else if preN b k < 33 then 2 else 3) = k := by
  obtain ⟨h, e⟩ := preN_nod b k hb h1 hk
  refine ⟨h, ?_⟩
  rw [← nodI_len, e, List.length_take]
  omega
theorem preN_mono (b i j : Nat) (hb : b < 3621) (h1 : 1 ≤ i) (hij : i < j) (hj : j < (pathI b).length) : preN b i < preN b j := by
  obtain ⟨_, hi⟩ := preN_len b i hb h1 (by omega)
  obtain ⟨_, hj⟩ := preN_len b j hb (by omega) hj
  by_cases a1 : preN b i < 3 <;> by_cases a2 : preN b i < 33 <;> by_cases b1 : preN b j < 3 <;> by_cases b2 : preN b j < 33 <;> simp [a1, a2, b1, b2] at hi hj <;> omega
/-- the numbers of the nodes on one path -/
def preL (b : Nat) : List Nat := (List.range ((pathI b).length - 1)).map fun i => preN b (i + 1)
theorem preL_idx (b : Nat) (hb : b < 3621) : idxF (onL [b]) 258 = (preL b).map fun (m : Nat) => (m : Int) := by
  rw [idxF]
  congr 1
  rw [List.range_eq_range']
  refine filt _ 258 0 _ ?_ (fun x hx => ?_) (fun m _ hm => ?_)
  · rw [List.pairwise_iff_getElem]
    intro i j hi hj hij
    simp only [preL, List.length_map, List.length_range] at hi hj
    simp only [preL, List.getElem_map, List.getElem_range]
    exact preN_mono b _ _ hb (by omega) (by omega) (by omega)
  · obtain ⟨i, hi, rfl⟩ := List.mem_map.1 hx
    have := List.mem_range.1 hi
    have := (preN_nod b (i + 1) hb (by omega) (by omega)).1
    omega
  · simp only [onL, Bool.or_false, List.any_eq_true, preL, List.mem_map, List.mem_range, Bool.and_eq_true, decide_eq_true_eq]
    constructor
    · rintro ⟨j, h1, h2, h3⟩
      exact ⟨j - 1, by omega, by rw [Nat.sub_add_cancel h2]; exact h3⟩
    · rintro ⟨j, h1, h2⟩
      exact ⟨j + 1, by omega, by omega, h2⟩
theorem preL_length (b : Nat) : (preL b).length = (pathI b).length - 1 := by simp [preL]
theorem preL_get (b i : Nat) (h : i + 1 < (pathI b).length) : (preL b)[i]? = some (preN b (i + 1)) := by
  rw [preL, List.getElem?_map, List.getElem?_range (by omega)]
  rfl
end Go.Proofs.YtnipfonglheofaaDoor
