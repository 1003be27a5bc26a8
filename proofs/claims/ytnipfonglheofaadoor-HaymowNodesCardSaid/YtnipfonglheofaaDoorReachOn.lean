/-
  Nodes on the way to blocks, and how many there are; no program is named here.
-/
import Derived.Test.YtnipfonglheofaaDoorReachMath
namespace Go.Proofs.YtnipfonglheofaaDoor
set_option linter.unusedVariables false

/-- the numbers of the nodes on the way to a block: of the beginnings of its path -/
theorem pre_nod (b k : Nat) (hb : b < 3621) (h1 : 1 ≤ k) (hk : k < (pathI b).length) : ∃ x, x < 258 ∧ nodI x = (pathI b).take k := by
  by_cases h6 : b < 6
  · rw [path_a h6] at hk; simp at hk; omega
  · by_cases h21 : b < 21
    · rw [path_b (by omega) h21] at hk ⊢
      obtain rfl : k = 1 := by simp [dig_length] at hk; omega
      exact ⟨0, by omega, rfl⟩
    · by_cases h246 : b < 246
      · rw [path_c (by omega) h246] at hk ⊢
        simp [dig_length] at hk
        rcases (show k = 1 ∨ k = 2 by omega) with rfl | rfl
        · exact ⟨1, by omega, rfl⟩
        · have hq := Nat.mod_lt ((b - 21) / 15 ^ 1) (show 0 < 15 by omega)
          refine ⟨3 + (b - 21) / 15 ^ 1 % 15, by omega, ?_⟩
          rw [nodI, if_neg (by omega), if_pos (by omega), show 3 + (b - 21) / 15 ^ 1 % 15 - 3 = (b - 21) / 15 ^ 1 % 15 from by omega]
          simp [dig]
      · rw [path_d (by omega)] at hk ⊢
        simp [dig_length] at hk
        have hq := Nat.mod_lt ((b - 246) / 15 ^ 2) (show 0 < 15 by omega)
        have hr := Nat.mod_lt ((b - 246) / 15 ^ 1) (show 0 < 15 by omega)
        rcases (show k = 1 ∨ k = 2 ∨ k = 3 by omega) with rfl | rfl | rfl
        · exact ⟨2, by omega, rfl⟩
        · refine ⟨18 + (b - 246) / 15 ^ 2 % 15, by omega, ?_⟩
          rw [nodI, if_neg (by omega), if_neg (by omega), if_pos (by omega), show 18 + (b - 246) / 15 ^ 2 % 15 - 18 = (b - 246) / 15 ^ 2 % 15 from by omega]
          simp [dig]
        · refine ⟨33 + 15 * ((b - 246) / 15 ^ 2 % 15) + (b - 246) / 15 ^ 1 % 15, by omega, ?_⟩
          rw [nodI, if_neg (by omega), if_neg (by omega), if_neg (by omega), show (33 + 15 * ((b - 246) / 15 ^ 2 % 15) + (b - 246) / 15 ^ 1 % 15 - 33) / 15 = (b - 246) / 15 ^ 2 % 15 from by omega, show (33 + 15 * ((b - 246) / 15 ^ 2 % 15) + (b - 246) / 15 ^ 1 % 15 - 33) % 15 = (b - 246) / 15 ^ 1 % 15 from by omega]
          simp [dig]
/-- the number of the beginning with k places -/
def preN (b k : Nat) : Nat := (numI ((pathI b).take k)).toNat
theorem preN_nod (b k : Nat) (hb : b < 3621) (h1 : 1 ≤ k) (hk : k < (pathI b).length) : preN b k < 258 ∧ nodI (preN b k) = (pathI b).take k := by
  obtain ⟨x, hx, e⟩ := pre_nod b k hb h1 hk
  have : preN b k = x := by rw [preN, ← e, num_nod]; rfl
  rw [this]
  exact ⟨hx, e⟩
/-- the flags behind the first places of one path -/
def onP (F : Nat → Bool) (b k : Nat) : Nat → Bool := fun m => F m || (List.range k).any fun j => decide (1 ≤ j) && decide (preN b j = m)
theorem onP_one (F : Nat → Bool) (b : Nat) : onP F b 1 = F := by
  funext m
  simp [onP]
theorem onP_succ (F : Nat → Bool) (b k : Nat) (hk : 1 ≤ k) : onP F b (k + 1) = fun m => onP F b k m || decide (preN b k = m) := by
  funext m
  simp [onP, List.range_succ, hk, Bool.or_assoc]
/-- the flags of all blocks in a list -/
def onL : List Nat → Nat → Bool
  | [] => fun _ => false
  | b :: l => fun m => (List.range (pathI b).length).any (fun j => decide (1 ≤ j) && decide (preN b j = m)) || onL l m
theorem onL_snoc : ∀ (l : List Nat) (b : Nat), onL (l ++ [b]) = onP (onL l) b (pathI b).length
  | [], b => by funext m; simp [onL, onP]
  | c :: l, b => by funext m; rw [List.cons_append, onL, onL_snoc l b]; simp [onP, onL, Bool.or_assoc]
/-- the places of the flags that are set -/
def idxF (F : Nat → Bool) (n : Nat) : List Int := ((List.range n).filter fun m => F m).map fun (m : Nat) => (m : Int)
theorem idxF_succ (F : Nat → Bool) (n : Nat) : idxF F (n + 1) = if F n then idxF F n ++ [(n : Int)] else idxF F n := by
  simp only [idxF, List.range_succ, List.filter_append, List.map_append]
  cases h : F n <;> simp [h]
theorem idxF_length (F : Nat → Bool) (n : Nat) : (idxF F n).length ≤ n := by
  rw [idxF, List.length_map]
  exact Nat.le_trans (List.length_filter_le _ _) (by simp)
theorem idxF_congr {F G : Nat → Bool} {n : Nat} (h : ∀ m, m < n → F m = G m) : idxF F n = idxF G n := by
  rw [idxF, idxF]
  congr 1
  apply List.filter_congr
  intro m hm
  exact h m (List.mem_range.1 hm)

/-- how many noughts stand at the end -/
def tz : List Int → Nat
  | [] => 0
  | d :: t => if tz t = t.length then (if d = 0 then t.length + 1 else t.length) else tz t
theorem tz_le : ∀ t, tz t ≤ t.length
  | [] => Nat.le_refl _
  | d :: t => by
    have := tz_le t
    rw [tz]
    split
    · split <;> simp
    · simp; omega
theorem tz_of : ∀ (t : List Int) (s : Nat), s ≤ t.length → (∀ d ∈ t.drop (t.length - s), d = 0) → (s < t.length → ∃ d, t[t.length - s - 1]? = some d ∧ d ≠ 0) → tz t = s
  | [], s, hs, _, _ => by simp at hs; subst hs; rfl
  | d :: t, s, hs, hz, hn => by
    rw [List.length_cons] at hs
    by_cases h : s ≤ t.length
    · have ih := tz_of t s h (fun x hx => hz x (by rw [List.length_cons, show t.length + 1 - s = (t.length - s) + 1 from by omega, List.drop_succ_cons]; exact hx)) (fun h' => by
        obtain ⟨x, hx, h0⟩ := hn (by rw [List.length_cons]; omega)
        rw [List.length_cons, show t.length + 1 - s - 1 = (t.length - s - 1) + 1 from by omega, List.getElem?_cons_succ] at hx
        exact ⟨x, hx, h0⟩)
      rw [tz, ih]
      by_cases e : s = t.length
      · rw [if_pos e]
        obtain ⟨x, hx, h0⟩ := hn (by rw [List.length_cons]; omega)
        rw [List.length_cons, show t.length + 1 - s - 1 = 0 from by omega] at hx
        simp at hx
        subst hx
        rw [if_neg h0, e]
      · rw [if_neg e]
    · obtain rfl : s = t.length + 1 := by omega
      have ih := tz_of t t.length (Nat.le_refl _) (fun x hx => hz x (by simp at hx ⊢; exact .inr hx)) (fun h' => absurd h' (by omega))
      rw [tz, if_pos ih, if_pos (hz d (by simp))]
/-- how many nodes the first blocks have -/
def ndsN : Nat → Nat
  | 0 => 0
  | n + 1 => ndsN n + tz (pathI n).tail
def ndsI (n : Int) : Nat := ndsN (min n.toNat 3621)
end Go.Proofs.YtnipfonglheofaaDoor
