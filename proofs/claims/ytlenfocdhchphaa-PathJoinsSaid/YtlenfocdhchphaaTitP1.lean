/-
  Count: the closure that counts, and the whole.
-/
import Derived.Test.YtlenfocdhchphaaTitVisit
import Derived.BigQuiet
namespace Go.Proofs.Ytlenfocdhchphaa
open Go.RowKit
set_option maxRecDepth 100000
set_option linter.unusedVariables false

theorem cnt_step {l : List UInt8} (h : l ≠ []) : cntT l = (if (tkOf l).odd then 0 else 1) + cntT (l.drop (widN l)) ∧ oddT l = (if (tkOf l).odd then 1 else 0) + oddT (l.drop (widN l)) := by
  have h1 := cnt_odd l
  have h2 := cnt_odd (l.drop (widN l))
  have h3 : oddT l = (if (tkOf l).odd then 1 else 0) + oddT (l.drop (widN l)) := by
    unfold oddT
    rw [toks_cons h, List.countP_cons]
    omega
  have h4 : (toks l).length = (toks (l.drop (widN l))).length + 1 := by rw [toks_cons h]; rfl
  refine ⟨?_, h3⟩
  cases ho : (tkOf l).odd <;> rw [ho] at h3 <;> simp at h3 ⊢ <;> omega
theorem drop_ne {l : List UInt8} {p : Nat} (hp : p < l.length) : l.drop p ≠ [] := by intro e; have := congrArg List.length e; rw [List.length_drop] at this; simp at this; omega

/-- what is so between two runes: of the rest at p -/
structure RunC (w : World) (n m : Nat) (l : List UInt8) (p : Nat) (wr : World) : Prop where
  cells : ∃ a b : Nat, Bk wr n 3 #[.int .i64 a] ∧ Bk wr m 3 #[.int .i64 b] ∧ a + cntT (l.drop p) = cntT l ∧ b + oddT (l.drop p) = oddT l
  below : Below n w wr
end Go.Proofs.Ytlenfocdhchphaa
