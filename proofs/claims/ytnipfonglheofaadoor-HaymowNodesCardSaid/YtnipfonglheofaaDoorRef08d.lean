/-
  What the document's answer Count of layer 8 is.
-/
import Derived.Test.YtnipfonglheofaaDoorRef08b
import Derived.Test.YtnipfonglheofaaDoorReachOn
namespace Go.Proofs.YtnipfonglheofaaDoor
open Go.RowKit
set_option maxRecDepth 100000
set_option linter.unusedVariables false

theorem ndsN_le : ∀ n, ndsN n ≤ 4 * n
  | 0 => Nat.le_refl _
  | n + 1 => by
    have h1 := ndsN_le n
    have h2 := tz_le (pathI n).tail
    have h3 := (path_length n).2
    rw [ndsN]
    rw [List.length_tail] at h2
    omega
/-- the places from j on are noughts -/
def Zs (p : List Int) (j : Nat) : Prop := ∀ i d, j < i → p[i]? = some d → d = 0
theorem tz_at {p : List Int} {j : Nat} (hp : 1 ≤ p.length) (hj : j < p.length) (hz : Zs p j) (hn : 0 < j → ∃ d, p[j]? = some d ∧ d ≠ 0) : tz p.tail = p.length - 1 - j := by
  cases p with
  | nil => simp at hp
  | cons a t =>
    simp only [List.tail_cons, List.length_cons] at *
    refine tz_of t _ (by omega) (fun d hd => ?_) (fun h => ?_)
    · obtain ⟨i, hi, rfl⟩ := List.mem_iff_getElem.1 hd
      simp only [List.length_drop] at hi
      refine hz (t.length - (t.length + 1 - 1 - j) + i + 1) _ (by omega) ?_
      rw [List.getElem?_cons_succ, List.getElem_drop, List.getElem?_eq_getElem (by omega)]
    · obtain ⟨d, hd, h0⟩ := hn (by omega)
      refine ⟨d, ?_, h0⟩
      rw [show t.length - (t.length + 1 - 1 - j) - 1 = j - 1 from by omega]
      obtain ⟨i, rfl⟩ : ∃ i, j = i + 1 := ⟨j - 1, by omega⟩
      rwa [List.getElem?_cons_succ] at hd

end Go.Proofs.YtnipfonglheofaaDoor
