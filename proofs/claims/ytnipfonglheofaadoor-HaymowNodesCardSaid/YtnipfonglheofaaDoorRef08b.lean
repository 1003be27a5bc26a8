/-
  What the document's answers Path, Block, Node, Number of layer 8 are.
-/
import Derived.Test.YtnipfonglheofaaDoorRef08
namespace Go.Proofs.YtnipfonglheofaaDoor
open Go.RowKit
set_option maxRecDepth 100000
set_option linter.unusedVariables false

/-- the path of a block as it is known -/
theorem path_parts (k : Nat) (h : k < 3621) : ∃ a t, pathI k = a :: t ∧ 0 ≤ a ∧ a ≤ 8 ∧ t.length ≤ 3 ∧ (a ≤ 5 → t = []) ∧ ∀ d ∈ t, 0 ≤ d ∧ d ≤ 14 := pth_path k h
/-- the document's path -/
def refP (n : Int) : List Int := if 0 ≤ n ∧ n ≤ 3620 then pathI n.toNat else []

/-- the block of a path, or none -/
def IsBlk (l : List Int) (r : Int) : Prop := (∃ k : Nat, k < 3621 ∧ pathI k = l ∧ r = k) ∨ ((∀ k : Nat, k < 3621 → pathI k ≠ l) ∧ r = -1)
theorem isBlk_path {k : Nat} {l : List Int} {r : Int} (h : IsBlk l r) (hk : k < 3621) (e : pathI k = l) : r = k := by
  rcases h with ⟨j, hj, e', rfl⟩ | ⟨h, _⟩
  · rw [path_inj hj hk (e'.trans e.symm)]
  · exact absurd e (h k hk)
theorem isBlk_none {l : List Int} {r : Int} (h : IsBlk l r) (hn : ∀ k : Nat, k < 3621 → pathI k ≠ l) : r = -1 := by
  rcases h with ⟨j, hj, e', rfl⟩ | ⟨_, h⟩
  · exact absurd e' (hn j hj)
  · exact h
/-- the document's node -/
def refN (n : Int) : List Int := if 0 ≤ n ∧ n < 258 then nodI n.toNat else []
theorem refN_at (k : Nat) (h : k < 258) : refN (k : Int) = nodI k := by rw [refN, if_pos (by omega)]; rfl
theorem nodI_a (j : Nat) (h : j < 3) : nodI j = [((6 + j : Nat) : Int)] := if_pos h
theorem nodI_b (j a : Nat) (hj : j < 2) (ha : a < 15) : nodI (3 + 15 * j + a) = [((7 + j : Nat) : Int), (a : Int)] := by
  rcases (show j = 0 ∨ j = 1 by omega) with rfl | rfl
  · rw [nodI, if_neg (by omega), if_pos (by omega), show 3 + 15 * 0 + a - 3 = a from by omega]; rfl
  · rw [nodI, if_neg (by omega), if_neg (by omega), if_pos (by omega), show 3 + 15 * 1 + a - 18 = a from by omega]; rfl
theorem nodI_c (a b : Nat) (ha : a < 15) (hb : b < 15) : nodI (33 + 15 * a + b) = [8, (a : Int), (b : Int)] := by
  rw [nodI, if_neg (by omega), if_neg (by omega), if_neg (by omega), show (33 + 15 * a + b - 33) / 15 = a from by omega, show (33 + 15 * a + b - 33) % 15 = b from by omega]
theorem Ints.new {w : World} {l : List Int} {n : Nat} (cs : Array Value) (hc : cs = (l.map iv).toArray) (hl : l.length = n) (h0 : l ≠ []) (hm : n ≤ 100) : Ints (w.alloc (.cells cs 3)) l (.slice (some ⟨w.heap.size, 0, none⟩) n n) := by
  subst hc
  exact Ints.own (base := w.heap.size) (n := n) (own_of_bk (Bk.new w 3 _) (Nat.le_refl _) (by simpa using hl) (by unfold maxLen; omega)) h0

/-- the number of a node's name, or none -/
def IsNum (l : List Int) (r : Int) : Prop := (∃ k : Nat, k < 258 ∧ nodI k = l ∧ r = k) ∨ ((∀ k : Nat, k < 258 → nodI k ≠ l) ∧ r = -1)
theorem isNum_nod {k : Nat} {l : List Int} {r : Int} (h : IsNum l r) (hk : k < 258) (e : nodI k = l) : r = k := by
  rcases h with ⟨j, hj, e', rfl⟩ | ⟨h, _⟩
  · rw [nod_inj (e'.trans e.symm)]
  · exact absurd e (h k hk)
theorem isNum_none {l : List Int} {r : Int} (h : IsNum l r) (hn : ∀ k : Nat, k < 258 → nodI k ≠ l) : r = -1 := by
  rcases h with ⟨j, hj, e', rfl⟩ | ⟨_, h⟩
  · exact absurd e' (hn j hj)
  · exact h
end Go.Proofs.YtnipfonglheofaaDoor
