/-
  What the functions of package addr do, one contract each.
-/
import Derived.Test.YtfjcclgambkieaaMem
import Derived.Test.YtfjcclgambkieaaAddrMath
import Derived.Outline
import Derived.BigQuiet
import Derived.IntWalk
import Derived.Deep.RegionHeld3
namespace Go.Proofs.Ytfjcclgambkieaa
open Go.RowKit
set_option linter.unusedVariables false

theorem ret_int {k : IntKind} {a b : Int} (h : a = b) : Ending.returned (.int k a) = .returned (.int k b) := by rw [h]

/-- a condition on a number, made by between -/
def Btw (w : World) (a b : Nat) (lo hi : Int) : Prop := w.cell? ⟨a, 0, none⟩ = some (.int .i64 lo) ∧ w.cell? ⟨b, 0, none⟩ = some (.int .i64 hi)
theorem Btw.up {w w' : World} {a b : Nat} {lo hi : Int} (h : Btw w a b lo hi) (hb : Below w.heap.size w w') : Btw w' a b lo hi :=
  ⟨(hb.cell (p := ⟨a, 0, none⟩) (World.block_lt_of_cell? w _ h.1)).trans h.1, (hb.cell (p := ⟨b, 0, none⟩) (World.block_lt_of_cell? w _ h.2)).trans h.2⟩

theorem between_any (lo hi : Int) (w : World) :
    Calls Try.prog 24 #[.int .i64 lo, .int .i64 hi] w fun e w' => ∃ a b : Nat, e = .returned (.func (.func 29) #[] #[.pointer (some ⟨a, 0, none⟩), .pointer (some ⟨b, 0, none⟩)]) ∧ Btw w' a b lo hi ∧ Below w.heap.size w w' := by
  go_enter Try.func24, Try.ntmps24
  go_wp2
  go_ret
  refine ⟨_, _, rfl, ⟨?_, ?_⟩, ((Below.refl _ _).alloc (Nat.le_refl _) _).alloc (by simp) _⟩
  · go_simp
  · go_simp

theorem in_any (lo hi n : Int) (a b : Nat) (t : Bool) (w : World) (h : Btw w a b lo hi) (ht : inB lo hi n = t) :
    Calls Try.prog 29 #[.int .i64 n, .pointer (some ⟨a, 0, none⟩), .pointer (some ⟨b, 0, none⟩)] w fun e w' => e = .returned (.bool t) ∧ w = w' := by
  obtain ⟨h1, h2⟩ := h
  cases t
  · rcases inB_no ht with h3 | h3
    · have hd : decide (lo ≤ n) = false := by simpa using h3
      clear ht
      go_enter Try.func29, Try.ntmps29
      go_wp2
      go_ret
      exact ⟨rfl, rfl⟩
    · have hd : decide (n ≤ hi) = false := by simpa using h3
      clear ht
      by_cases h4 : lo ≤ n
      · go_enter Try.func29, Try.ntmps29
        go_wp2
        go_ret
        exact ⟨rfl, rfl⟩
      · have hd : decide (lo ≤ n) = false := by simpa using h4
        go_enter Try.func29, Try.ntmps29
        go_wp2
        go_ret
        exact ⟨rfl, rfl⟩
  · obtain ⟨h3, h4⟩ := inB_yes ht
    clear ht
    go_enter Try.func29, Try.ntmps29
    go_wp2
    go_ret
    exact ⟨rfl, rfl⟩

theorem firstBlock_any (s : Int) (w : World) (h0 : 0 ≤ s) (h1 : s ≤ 4096) :
    Calls Try.prog 28 #[.int .i64 s] w fun e w' => e = .returned (.int .i64 (16 * s + 1)) ∧ w = w' := by
  go_enter Try.func28, Try.ntmps28
  go_wp2
  go_ret
  exact ⟨ret_int (by omega), rfl⟩

theorem segsOf_any (D L V S v : Int) (w : World) :
    Calls Try.prog 27 #[.agg #[.int .i64 D, .int .i64 L, .int .i64 V, .int .i64 S], .int .i64 v] w fun e w' => e = .returned (.int .i64 (segsOfI D S v)) ∧ Below w.heap.size w w' := by
  unfold segsOfI
  by_cases h : v = -1
  · subst h
    go_enter Try.func27, Try.ntmps27
    go_wp2
    go_ret
    exact ⟨rfl, (Below.refl _ _).alloc (Nat.le_refl _) _⟩
  · have h' : (v == -1) = false := by simpa using h
    rw [if_neg h]
    clear h
    go_enter Try.func27, Try.ntmps27
    go_wp2
    go_ret
    exact ⟨rfl, (Below.refl _ _).alloc (Nat.le_refl _) _⟩

theorem firstOf_any (D L V S v : Int) (w : World) (hD : 0 ≤ D) (hD' : D ≤ 256) (hv : -1 ≤ v) (hv' : v ≤ 8) (hS : 0 ≤ S) (hS' : S ≤ 256) :
    Calls Try.prog 25 #[.agg #[.int .i64 D, .int .i64 L, .int .i64 V, .int .i64 S], .int .i64 v] w fun e w' => e = .returned (.int .i64 (firstI D S v)) ∧ Below w.heap.size w w' := by
  unfold firstI
  by_cases h : v = -1
  · subst h
    go_enter Try.func25, Try.ntmps25
    go_wp2
    go_ret
    exact ⟨rfl, (Below.refl _ _).alloc (Nat.le_refl _) _⟩
  · have h' : (v == -1) = false := by simpa using h
    rw [if_neg h]
    have hm := mul_bd (a := v) (b := S) (by omega) hv' hS hS'
    have hm1 := hm.1
    have hm2 := hm.2
    clear h hm
    go_enter Try.func25, Try.ntmps25
    go_wp2
    go_ret
    exact ⟨rfl, (Below.refl _ _).alloc (Nat.le_refl _) _⟩
end Go.Proofs.Ytfjcclgambkieaa
