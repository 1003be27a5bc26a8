/-
  The statements' own examples of layer 5: they come out true; what is looked at of octets.
-/
import Derived.Test.YthneomligbkmgaaDoorLabel5
import Derived.Test.YthneomligbkmgaaDoorCrcAwake
namespace Go.Proofs.YthneomligbkmgaaDoor
open Go.RowKit
set_option linter.unusedVariables false

theorem mayB_one : mayB 10 2 2 3 = true := by decide +kernel
theorem super_head : (superB 10 2 2 3).take 12 = [104, 97, 121, 109, 0, 10, 0, 2, 2, 0, 3, 0] := by decide +kernel
theorem superQ_noughts : superQ (List.replicate 128 0) = 5 := by unfold superQ; rw [held_noughts]; rfl
theorem superG_noughts (n : Nat) : superG (List.replicate 128 0) n = 0 := by unfold superG; rw [superQ_noughts]; rfl
theorem labB_eight : labB 8 0 = false := by decide +kernel
theorem noughts128 : cells128.toList = (List.replicate 128 (0 : UInt8)).map bv := by simp [cells128, zeroV, bv]
theorem under_strA : Tryd.prog.underlying 9 = some .string := by kernel_rfl

set_option maxRecDepth 100000 in
set_option maxHeartbeats 1000000 in
theorem awake_any (w : World) (ht : Tab w) : Calls Tryd.prog 9 #[] w fun e w' => e = .returned (.bool true) ∧ Below w.heap.size w w' := by
  have HT := Lib.hid ht
  clear ht
  go_enter Tryd.func9, Tryd.ntmps9
  go_wp2_with fail
  refine (Super_yes 10 2 2 3 _ mayB_one HT.out).mono ?_
  rintro e w1 ⟨g, rfl, hg, hbk, hb1⟩
  have HB1 := Lib.hid hb1
  have HT1 := Lib.hid (HT.out.up hb1)
  have HBK := Lib.hid hbk
  have hmk := make128 w1
  have k3 := Rd.new w1 5 cells128 (0, 0)
  rw [noughts128] at k3
  have K3 := Lib.hid k3
  have HBA := Lib.hid ((Below.refl w1.heap.size w1).alloc (Nat.le_refl _) (.cells cells128 5))
  clear k3 hbk hb1
  go_wp2_with fail
  refine (ReadSuper_any (w1.heap.size + 1) _ 128 128 (List.replicate 128 0) 5 0 0 0 0 _ (by simp) K3.out (by simp) (Nat.le_refl _) (by unfold maxLen; omega) superQ_noughts (superG_noughts _) (superG_noughts _) (superG_noughts _) (superG_noughts _) (HT1.out.up HBA.out)).mono ?_
  rintro e w2 ⟨rfl, hb2⟩
  have HB2 := Lib.hid (HBA.out.trans (hb2.mono HBA.out.size))
  clear hb2 hmk
  go_wp2_with fail
  refine (Label_no 8 0 _ labB_eight).mono ?_
  rintro e w3 ⟨rfl, hw3⟩
  have HB3 : Hid (Below w1.heap.size w1 w3) := by rw [← hw3]; exact HB2.out.alloc HB2.out.size _
  clear hw3
  have hbk3 := HBK.out.below HB3.out HBK.out.lt
  have hr3 : Rd w3 w3.heap.size (some ⟨g, 0, none⟩) (((superB 10 2 2 3).take 12).map bv) := by
    rw [List.map_take]
    exact (by simpa using Rd.bk hbk3 : Rd w3 w3.heap.size (some ⟨g, 0, none⟩) ((superB 10 2 2 3).map bv)).take 12
  have hc3 := run_conv (P := Tryd.prog) 24 5 9 Tryd.underlying24 Tryd.underlying5 under_strA 12 128 (by rw [super_head]; rfl) hr3
  have hE : ((str ((superB 10 2 2 3).take 12)).toList == [104, 97, 121, 109, 0, 10, 0, 2, 2, 0, 3, 0]) = true := by rw [super_head, str_toList]; decide
  clear hbk3 hr3
  go_wp2
  go_ret
  exact ⟨rfl, HB1.out.trans (HB3.out.mono HB1.out.size)⟩

theorem few_any (B : Nat) (A : Option Addr) (c : Nat) (l : List UInt8) (w : World) (hr : Rd w B A (l.map bv)) (hc : l.length ≤ c) (hcm : c ≤ maxLen) :
    Calls Tryd.prog 16 #[.slice A l.length c] w fun e w' => e = .returned (.slice A (l.take 200).length c) ∧ w = w' := by
  unfold maxLen at hcm
  by_cases h : 200 < l.length
  · obtain ⟨b, o, rfl, _, _⟩ := hr.plain (by simp; omega)
    have h' : (200 : Int) < (l.length : Int) := by omega
    have HL : Hid ((l.take 200).length = 200) := by simp [Hid]; omega
    rw [HL.out]
    clear hr
    go_enter Tryd.func16, Tryd.ntmps16
    go_wp2
    go_ret
    exact ⟨rfl, rfl⟩
  · have h' : ¬ (200 : Int) < (l.length : Int) := by omega
    have HL : Hid ((l.take 200).length = l.length) := by simp [Hid]; omega
    rw [HL.out]
    clear hr
    go_enter Tryd.func16, Tryd.ntmps16
    go_wp2
    go_ret
    exact ⟨rfl, rfl⟩
end Go.Proofs.YthneomligbkmgaaDoor
