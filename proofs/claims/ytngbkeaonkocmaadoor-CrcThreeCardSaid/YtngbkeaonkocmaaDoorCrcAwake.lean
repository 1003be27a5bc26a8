/-
  The statements' own examples: they come out true, and write nothing that was there.
-/
import Derived.Test.YtngbkeaonkocmaaDoorCrcLaw
import Derived.Lib.SlBytesConst
namespace Go.Proofs.YtngbkeaonkocmaaDoor
open Go.RowKit
set_option linter.unusedVariables false

theorem sum_nine : sumN [49, 50, 51, 52, 53, 54, 55, 56, 57] = 3808858755 := by decide +kernel
theorem sum_none : sumN [] = 0 := rfl
theorem half_one : stepN 4 1 = 274646895 := by decide +kernel
theorem held_noughts : heldB (List.replicate 128 0) = false := by decide +kernel
theorem Sum_none (w : World) (ht : Tab w) : Calls Tryd.prog 10 #[.slice none 0 0] w fun e w' => e = .returned (.int .u32 0) ∧ w = w' := by
  have h := Sum_any 0 none 0 [] w ⟨Rd.nil_, by simp⟩ (by simp) ht
  rw [show allB [] = [] from rfl, sum_none] at h
  exact h
theorem Half_one (w : World) (ht : Tab w) : Calls Tryd.prog 12 #[.int .i64 1] w fun e w' => e = .returned (.int .u32 274646895) ∧ w = w' := by
  have h := Half_in 1 w (by omega) ht
  rw [half_one] at h
  exact h
def cells128 : Array Value := (zeroV 128).toArray
theorem make128 (w : World) : (Instr.makeSlice 23 (.int .i64 128) (.int .i64 128)).run Tryd.prog w = .ok (.slice (some ⟨w.heap.size, 0, none⟩) 128 128) (w.alloc (.cells cells128 5)) := by kernel_rfl
set_option maxRecDepth 100000 in
set_option maxHeartbeats 1000000 in
theorem awake_any (w : World) (ht : Tab w) : Calls Tryd.prog 13 #[] w fun e w' => e = .returned (.bool true) ∧ Below w.heap.size w w' := by
  have HT := Lib.hid ht
  have H9 := Lib.hid sum_nine
  obtain ⟨i0, hi', hz0', hz1', hz2'⟩ := info_parts info_u8
  have hi := Lib.hid hi'
  have hz0 := Lib.hid hz0'
  have hz1 := Lib.hid hz1'
  have hz2 := Lib.hid hz2'
  clear hi' hz0' hz1' hz2' ht
  have kc := fun (w : World) (C : Array Value) (n c : Nat) => Lib.run_convert_bytes_const (P := Tryd.prog) w 23 5 C n c Tryd.underlying23 Tryd.underlying5
  go_enter Tryd.func13, Tryd.ntmps13
  go_wp2_with fail
  have k1 := ((Rd.new w 5 #[.int .u8 49, .int .u8 50, .int .u8 51, .int .u8 52, .int .u8 53, .int .u8 54, .int .u8 55, .int .u8 56, .int .u8 57] (9, 10)).alloc (Nat.le_of_eq (World.alloc_size' _ _).symm) (.cells #[.slice (some ⟨w.heap.size, 0, none⟩) 9 9] 23)).mono (Nat.le_succ _)
  have k2 := Rd.new (w.alloc (.cells #[.int .u8 49, .int .u8 50, .int .u8 51, .int .u8 52, .int .u8 53, .int .u8 54, .int .u8 55, .int .u8 56, .int .u8 57] 5 (9, 10))) 23 #[.slice (some ⟨w.heap.size, 0, none⟩) 9 9] (0, 0)
  rw [World.alloc_size'] at k2
  refine (Sum_one _ _ _ _ _ 9 3808858755 [49, 50, 51, 52, 53, 54, 55, 56, 57] _ rfl H9.out (by omega) k2 k1 ((HT.out.alloc _).alloc _)).mono ?_
  rintro e w1 ⟨rfl, hw1⟩
  have HB1 : Hid (Below w.heap.size w w1) := by rw [← hw1]; exact ((Below.refl _ _).alloc (Nat.le_refl _) _).alloc (by simp) _
  have HT1 := Lib.hid (HT.out.up HB1.out)
  clear k1 k2 hw1
  go_wp2_with fail
  refine (Sum_none _ HT1.out).mono ?_
  rintro e w2 ⟨rfl, rfl⟩
  go_wp2_with fail
  refine (Half_one _ HT1.out).mono ?_
  rintro e w2 ⟨rfl, rfl⟩
  have hmk := make128 w1
  have k3 := Rd.new w1 5 cells128 (0, 0)
  have K3 : Hid (Rd (w1.alloc (.cells cells128 5)) (w1.heap.size + 1) (some ⟨w1.heap.size, 0, none⟩) ((List.replicate 128 (0 : UInt8)).map bv)) := by
    have e : cells128.toList = (List.replicate 128 (0 : UInt8)).map bv := by simp [cells128, zeroV, bv]
    rw [e] at k3; exact k3
  clear k3
  go_wp2_with fail
  refine (Held_any _ _ 128 128 (List.replicate 128 0) false _ K3.out (by simp) (by simp) (Nat.le_refl _) held_noughts (HT1.out.alloc _)).mono ?_
  rintro e w2 ⟨rfl, hb2⟩
  have HB2 := Lib.hid hb2
  clear hb2 hmk
  go_wp2
  go_ret
  refine ⟨rfl, HB1.out.trans ?_⟩
  have hs1 := HB1.out.size
  exact ((Below.refl _ _).alloc hs1 _).trans (HB2.out.mono (by simp; omega))
end Go.Proofs.YtngbkeaonkocmaaDoor
