/-
  The statements' own examples: they come out true, and write nothing that was there.
-/
import Derived.Test.YtnodfnoeppaliaaLaw
namespace Go.Proofs.Ytnodfnoeppaliaa
open Go.RowKit
set_option linter.unusedVariables false

theorem under9 : Try.prog.underlying 9 = some .string := by kernel_rfl

set_option maxRecDepth 100000 in
set_option maxHeartbeats 1000000 in
theorem awake_any (w : World) : Calls Try.prog 11 #[] w fun e w' => e = .returned (.bool true) ∧ Below w.heap.size w w' := by
  go_enter Try.func11, Try.ntmps11
  go_wp2_with fail
  have k1 : Bk (w.alloc (.cells #[.int .i64 2, .int .u64 300, .int .i64 1, .int .u64 7] 42)) w.heap.size 42 #[.int .i64 2, .int .u64 300, .int .i64 1, .int .u64 7] := Bk.new _ _ _
  refine (Pack_ok _ _ 2 2 [(2, 300), (1, 7)] [1, 44, 7] 3 _ rfl (by decide) (by decide) rfl (Rd.bk k1) (Nat.le_refl _) (by omega) (by decide)).mono ?_
  rintro e w1 ⟨A1, c1, rfl, h1, h1m, r1, _, hb1⟩
  have hb1' := Lib.hid (((Below.refl w.heap.size w).alloc (Nat.le_refl _) (.cells #[.int .i64 2, .int .u64 300, .int .i64 1, .int .u64 7] 42)).trans (hb1.mono (by simp)))
  clear hb1 k1
  go_wp2_with fail
  have k2 := (Bk.new w1 5 #[.int .u8 1, .int .u8 44, .int .u8 7, .int .u8 9]).alloc (.cells #[.int .i64 2, .int .i64 1] 3)
  have k3 := Bk.new (w1.alloc (.cells #[.int .u8 1, .int .u8 44, .int .u8 7, .int .u8 9] 5)) 3 #[.int .i64 2, .int .i64 1]
  rw [World.alloc_size'] at k3
  refine (Unpack_ok _ _ _ 4 4 2 2 [1, 44, 7, 9] [2, 1] [300, 7] _ rfl rfl (by decide) (by decide) (Rd.bk k2) (Rd.bk k3) (Nat.le_refl _) (by omega) (by unfold maxLen; omega) (by omega)).mono ?_
  rintro e w2 ⟨A2, c2, rfl, h2, h2m, r2, hb2⟩
  have hb2' := Lib.hid ((((Below.refl w1.heap.size w1).alloc (Nat.le_refl _) (.cells #[.int .u8 1, .int .u8 44, .int .u8 7, .int .u8 9] 5)).alloc (by simp) (.cells #[.int .i64 2, .int .i64 1] 3)).trans (hb2.mono (by simp; omega)))
  clear hb2 k2 k3
  go_wp2_with fail
  have k4 := Bk.new w2 42 #[.int .i64 1, .int .u64 256]
  refine (Pack_bad _ _ 1 1 [(1, 256)] 19 _ rfl (by decide) (by decide) (Rd.bk k4) (Nat.le_refl _) (by omega) (by decide)).mono ?_
  rintro e w3 ⟨rfl, hb3⟩
  have hb3' := Lib.hid (((Below.refl w2.heap.size w2).alloc (Nat.le_refl _) (.cells #[.int .i64 1, .int .u64 256] 42)).trans (hb3.mono (by simp)))
  clear hb3 k4
  have hs1 := hb1'.out.size
  have hs2 := hb2'.out.size
  have hs3 := hb3'.out.size
  have r1' := (r1.below hb2'.out).below (hb3'.out.mono hs2)
  have r2' := r2.below hb3'.out
  have hconv := run_conv (P := Try.prog) 22 5 9 Try.underlying22 Try.underlying5 under9 3 c1 rfl r1'
  have hfin := Lib.hid (((hb1'.out.trans (hb2'.out.mono hs1)).trans (hb3'.out.mono (by omega))))
  rw [show str [1, 44, 7] = ⟨#[1, 44, 7]⟩ from rfl] at hconv
  have k5 := Rd.bk (Bk.new w3 40 #[.int .u64 300, .int .u64 7])
  have R1 := Lib.hid r1'
  have R2 := Lib.hid (r2'.mono hs3)
  have K5 := Lib.hid k5
  clear r1 r2 r1' r2' k5
  go_wp2_with (go_at_call 10; refine (same_yes (w3.heap.size + 1) _ _ 2 _ _ [300, 7] _ rfl (by omega) ((R2.out.alloc (Nat.le_refl _) _).mono (by omega)) (K5.out.mono (by simp))).mono ?_; rintro e w4 ⟨rfl, j, rfl⟩)
  go_ret
  exact ⟨rfl, (hfin.out.alloc (by omega) _).drewN' j⟩
end Go.Proofs.Ytnodfnoeppaliaa
