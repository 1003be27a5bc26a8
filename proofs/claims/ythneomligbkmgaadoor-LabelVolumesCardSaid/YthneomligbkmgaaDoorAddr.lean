/-
  What the functions of package addr do, one contract each.
-/
import Derived.Test.YthneomligbkmgaaDoorMem
import Derived.Test.YthneomligbkmgaaDoorAddrMath
import Derived.Outline
import Derived.BigQuiet
import Derived.IntWalk
import Derived.Deep.RegionHeld3
namespace Go.Proofs.YthneomligbkmgaaDoor
open Go.RowKit
set_option linter.unusedVariables false


/-- a condition on a number, made by between -/
def Btw (w : World) (a b : Nat) (lo hi : Int) : Prop := w.cell? ⟨a, 0, none⟩ = some (.int .i64 lo) ∧ w.cell? ⟨b, 0, none⟩ = some (.int .i64 hi)
theorem Btw.up {w w' : World} {a b : Nat} {lo hi : Int} (h : Btw w a b lo hi) (hb : Below w.heap.size w w') : Btw w' a b lo hi :=
  ⟨(hb.cell (p := ⟨a, 0, none⟩) (World.block_lt_of_cell? w _ h.1)).trans h.1, (hb.cell (p := ⟨b, 0, none⟩) (World.block_lt_of_cell? w _ h.2)).trans h.2⟩

theorem between_any (lo hi : Int) (w : World) :
    Calls Tryd.prog 29 #[.int .i64 lo, .int .i64 hi] w fun e w' => ∃ a b : Nat, e = .returned (.func (.func 37) #[] #[.pointer (some ⟨a, 0, none⟩), .pointer (some ⟨b, 0, none⟩)]) ∧ Btw w' a b lo hi ∧ Below w.heap.size w w' := by
  go_enter Tryd.func29, Tryd.ntmps29
  go_wp2
  go_ret
  refine ⟨_, _, rfl, ⟨?_, ?_⟩, ((Below.refl _ _).alloc (Nat.le_refl _) _).alloc (by simp) _⟩
  · go_simp
  · go_simp

theorem in_any (lo hi n : Int) (a b : Nat) (t : Bool) (w : World) (h : Btw w a b lo hi) (ht : inB lo hi n = t) :
    Calls Tryd.prog 37 #[.int .i64 n, .pointer (some ⟨a, 0, none⟩), .pointer (some ⟨b, 0, none⟩)] w fun e w' => e = .returned (.bool t) ∧ w = w' := by
  obtain ⟨h1, h2⟩ := h
  cases t
  · rcases inB_no ht with h3 | h3
    · have hd : decide (lo ≤ n) = false := by simpa using h3
      clear ht
      go_enter Tryd.func37, Tryd.ntmps37
      go_wp2
      go_ret
      exact ⟨rfl, rfl⟩
    · have hd : decide (n ≤ hi) = false := by simpa using h3
      clear ht
      by_cases h4 : lo ≤ n
      · go_enter Tryd.func37, Tryd.ntmps37
        go_wp2
        go_ret
        exact ⟨rfl, rfl⟩
      · have hd : decide (lo ≤ n) = false := by simpa using h4
        go_enter Tryd.func37, Tryd.ntmps37
        go_wp2
        go_ret
        exact ⟨rfl, rfl⟩
  · obtain ⟨h3, h4⟩ := inB_yes ht
    clear ht
    go_enter Tryd.func37, Tryd.ntmps37
    go_wp2
    go_ret
    exact ⟨rfl, rfl⟩

end Go.Proofs.YthneomligbkmgaaDoor
