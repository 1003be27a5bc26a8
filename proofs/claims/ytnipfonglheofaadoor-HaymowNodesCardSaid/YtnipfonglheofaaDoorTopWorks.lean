/-
  The first layers' parts of a node's way work.
-/
import Derived.Test.YtnipfonglheofaaDoorIno6
import Derived.Test.YtnipfonglheofaaDoorReachC
namespace Go.Proofs.YtnipfonglheofaaDoor
open Go.RowKit
set_option maxRecDepth 100000
set_option linter.unusedVariables false

def noPs : List Pr := List.replicate 15 ⟨0, 0⟩
def noPsC : Array Value := (prsV noPs).toArray
theorem noPs_len : noPs.length = 15 := rfl
theorem noPs_ok : noPs.all prOk = true := by decide
theorem noPs_sums : prSums noPs := fun q hq => by rw [List.eq_of_mem_replicate hq]; decide
theorem make15 (w : World) : (Instr.makeSlice 35 (.int .i64 15) (.int .i64 15)).run Tryd.prog w = .ok (.slice (some ⟨w.heap.size, 0, none⟩) 15 15) (w.alloc (.cells noPsC 29)) := by kernel_rfl

set_option maxHeartbeats 800000 in
theorem works_any (w : World) (HPC : PathC w) (ht : Tab w) : Calls Tryd.prog 13 #[] w fun e w' => e = .returned (.bool true) ∧ Below w.heap.size w w' := by
  have HPC' := Lib.hid HPC
  have HT := Lib.hid ht
  clear HPC ht
  go_enter Tryd.func13, Tryd.ntmps13
  go_wp2_with fail
  refine (HPC'.out.call 6 [6, 0] 0 _ (by decide +kernel) (by decide +kernel)).mono ?_
  rintro e w1 ⟨A1, k1, c1, rfl, hl1, -, hm1, hr1, hb1⟩
  obtain rfl : k1 = 2 := hl1.symm
  have HB := Lib.hid hb1
  have HR1 := Lib.hid hr1
  have hmk := make15 w1
  have hba := (Below.refl w1.heap.size w1).alloc (Nat.le_refl _) (.cells noPsC 29)
  have K0 := Bk.new w1 29 noPsC
  obtain ⟨w2, hw2⟩ : ∃ w2, w1.alloc (.cells noPsC 29) = w2 := ⟨_, rfl⟩
  rw [hw2] at hmk hba K0
  have HT2 := Lib.hid (HT.out.up (hb1.trans (hba.mono hb1.size)))
  have HN := Lib.hid (node_yes w2.heap.size (some ⟨w1.heap.size, 0, none⟩) 15 noPs w2 noPs_len (by simpa [noPsC] using Rd.bk K0) (Nat.le_refl _) noPs_ok noPs_sums HT2.out)
  have HBA := Lib.hid hba
  clear hr1 hb1 hl1 hw2 hba K0
  go_wp2_with fail
  with_reducible refine HN.out.mono ?_
  rintro e w3 ⟨g, rfl, hg, hbk, hb3⟩
  have hb13 := HBA.out.trans (hb3.mono HBA.out.size)
  have HB3 := Lib.hid (HB.out.trans (hb13.mono HB.out.size))
  have HR3 := Lib.hid ((HR1.out.below hb13).mono hb13.size)
  have HT3 := Lib.hid (HT2.out.up hb3)
  have HK3 := Lib.hid hbk
  have hba := (Below.refl w3.heap.size w3).alloc (Nat.le_refl _) (.cells #[.int .i64 6, .int .i64 0] 3)
  have HS := Lib.hid (refSame8_any w3.heap.size _ A1 _ 2 c1 2 2 [6, 0] [6, 0] true _ rfl rfl (by omega) (by omega) (HR3.out.below hba) (Rd.bk (Bk.new w3 3 #[.int .i64 6, .int .i64 0])) hba.size (Nat.le_refl _) (by simp))
  have HBA3 := Lib.hid hba
  clear hb13 hb3 hbk hba HN hmk hg
  go_wp2_with fail
  refine HS.out.mono ?_
  rintro e w4 ⟨rfl, hb4⟩
  have hb34 := HBA3.out.trans (hb4.mono HBA3.out.size)
  have HB4 := Lib.hid (HB3.out.trans (hb34.mono HB3.out.size))
  have HK4 := HK3.out.below hb34 HK3.out.lt
  have HH := Lib.hid (Held_any w4.heap.size (some ⟨g, 0, none⟩) 128 128 (nodB noPs) true w4 (by simpa using Rd.bk HK4) (Nat.le_refl _) (nodB_len _ noPs_len) (Nat.le_refl _) (nodB_held _ noPs_len) (HT3.out.up hb34))
  clear hb4 hb34 HK4 HS
  go_wp2_with fail
  with_reducible refine HH.out.mono ?_
  rintro e w5 ⟨rfl, hb5⟩
  have HB5 := Lib.hid (HB4.out.trans (hb5.mono HB4.out.size))
  clear hb5
  go_wp2
  go_ret
  exact ⟨rfl, HB5.out⟩
end Go.Proofs.YtnipfonglheofaaDoor
