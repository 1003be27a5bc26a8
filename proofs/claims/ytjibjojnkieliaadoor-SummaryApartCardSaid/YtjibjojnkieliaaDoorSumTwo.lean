/-
  Two parts' boxes, each with its entries cut, in whatever order: what holds while it goes on.
-/
import Derived.Test.YtjibjojnkieliaaDoorRegSt
import Derived.Test.YtjibjojnkieliaaDoorSumMem
namespace Go.Proofs.YtjibjojnkieliaaDoor
open Go.RowKit
set_option linter.unusedVariables false

structure TwoJ (B g0 g1 : Nat) (w0 : World) (V : Nat → Value) (C0 C0' C1 C1' : Array Value) (L : Nat → Bool) (vals : Nat → Value) (w : World) : Prop where
  below : Below B w0 w
  val : ∀ j, j < 10 → j ≠ 7 → j ≠ 9 → L j = true → vals j = V j
  b0 : Bk w g0 24 (if L 7 then C0' else C0)
  b1 : Bk w g1 24 (if L 9 then C1' else C1)
section
variable {B g0 g1 : Nat} {w0 : World} {V : Nat → Value} {C0 C0' C1 C1' : Array Value} {L : Nat → Bool} {vals : Nat → Value} {w : World}
theorem TwoJ.plain (h : TwoJ B g0 g1 w0 V C0 C0' C1 C1' L vals w) (i : Nat) (hi : i < 10) (h7 : i ≠ 7) (h9 : i ≠ 9) : TwoJ B g0 g1 w0 V C0 C0' C1 C1' (setL L i) (setV vals i (V i)) w := by
  refine ⟨h.below, fun j hj j7 j9 hl => ?_, ?_, ?_⟩
  · by_cases e : j = i
    · subst e; rw [setV_same]
    · rw [setV_other _ _ e]; rw [setL_other _ e] at hl; exact h.val j hj j7 j9 hl
  · rw [setL_other _ (Ne.symm h7)]; exact h.b0
  · rw [setL_other _ (Ne.symm h9)]; exact h.b1
theorem TwoJ.plainE (h : TwoJ B g0 g1 w0 V C0 C0' C1 C1' L vals w) (i : Nat) (v : Value) (hi : i < 10) (h7 : i ≠ 7) (h9 : i ≠ 9) (hv : V i = v) : TwoJ B g0 g1 w0 V C0 C0' C1 C1' (setL L i) (setV vals i v) w := by
  rw [← hv]; exact h.plain i hi h7 h9
theorem TwoJ.st0 (h : TwoJ B g0 g1 w0 V C0 C0' C1 C1' L vals w) {w' : World} (hb : Bk w' g0 24 C0') (h1 : ∀ cs, Bk w g1 24 cs → Bk w' g1 24 cs) (hbl : Below B w0 w') (v : Value) : TwoJ B g0 g1 w0 V C0 C0' C1 C1' (setL L 7) (setV vals 7 v) w' := by
  refine ⟨hbl, fun j hj j7 j9 hl => ?_, ?_, ?_⟩
  · rw [setV_other _ _ j7]; rw [setL_other _ j7] at hl; exact h.val j hj j7 j9 hl
  · rw [setL_same, if_pos rfl]; exact hb
  · rw [setL_other _ (show (9 : Nat) ≠ 7 by omega)]; exact h1 _ h.b1
theorem TwoJ.st1 (h : TwoJ B g0 g1 w0 V C0 C0' C1 C1' L vals w) {w' : World} (hb : Bk w' g1 24 C1') (h1 : ∀ cs, Bk w g0 24 cs → Bk w' g0 24 cs) (hbl : Below B w0 w') (v : Value) : TwoJ B g0 g1 w0 V C0 C0' C1 C1' (setL L 9) (setV vals 9 v) w' := by
  refine ⟨hbl, fun j hj j7 j9 hl => ?_, ?_, ?_⟩
  · rw [setV_other _ _ j9]; rw [setL_other _ j9] at hl; exact h.val j hj j7 j9 hl
  · rw [setL_other _ (show (7 : Nat) ≠ 9 by omega)]; exact h1 _ h.b0
  · rw [setL_same, if_pos rfl]; exact hb
end
theorem Slots.vs {a0 a : Act} {n N : Nat} {D : Nat → Nat} {L : Nat → Bool} {vals : Nat → Value} (hs : Slots a0 n N D L vals a) (j s : Nat) (v : Value) (hl : L j = true) (hj : j < n) (hD : D j = s) (hN : s < N) (hv : vals j = v) : a.tmps[s]? = some v := by
  subst hD; subst hv
  exact some_of_getD hs.size hN (hs.own j hj hl hN)
def twW : Nat → List Nat
  | 1 => [0] | 2 => [1] | 4 => [3] | 5 => [4] | 7 => [2, 6] | 9 => [5, 8]
  | _ => []
def twD (ix : Nat) : Nat := if ix < 7 then 9 + ix else if ix = 8 then 16 else 57 + ix
theorem twD_ne (s : Nat) (h : s < 9) (ix : Nat) : twD ix ≠ s := by unfold twD; split <;> (try split) <;> omega
theorem twD_apart (ix jx : Nat) (h : jx ≠ ix) : twD jx ≠ twD ix := by unfold twD; split <;> (try split) <;> (try split) <;> (try split) <;> omega
end Go.Proofs.YtjibjojnkieliaaDoor
