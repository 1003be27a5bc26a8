/-
  What the statements TitleNames, TitleHeads and TitleFits answer, by the properties of title's functions.
-/
import Derived.Test.YtopjajfkncnihaaTitC
namespace Go.Proofs.Ytopjajfkncnihaa
open Go.RowKit
set_option maxRecDepth 100000
set_option linter.unusedVariables false

set_option maxHeartbeats 2000000 in
theorem titleNames_walk (w : World) (HC : CountTC w) (HI : IsTC w) (HF : FitTC w) (l : List UInt8) (hl : l.length ≤ 9223372036854775807) :
    Calls Try.prog 3 #[.string (str l)] w fun e w' => e = .returned (.bool true) ∧ Below w.heap.size w w' := by
  have HFew := Lib.hid (fewT_any l w hl)
  obtain ⟨m, hm⟩ : ∃ m, l.take 200 = m := ⟨_, rfl⟩
  have hml : m.length ≤ 200 := by rw [← hm, List.length_take]; omega
  rw [hm] at HFew
  have HA := Lib.hid (awakeT_any HC HI HF)
  have HC := Lib.hid HC
  have HI := Lib.hid HI
  clear hm hl HF
  go_enter Try.func3, Try.ntmps3
  go_wp2_with fail
  refine HFew.out.mono ?_
  rintro e w0 ⟨rfl, rfl⟩
  clear HFew
  go_wp2_with fail
  refine (HC.out.call m _ (by omega)).mono ?_
  rintro e w1 ⟨rfl, hb1⟩
  have HB := Lib.hid hb1
  clear hb1
  go_wp2_with fail
  refine (refCount9_any m _ (by omega)).mono ?_
  rintro e w2 ⟨rfl, hb⟩
  have HB := Lib.hid (HB.out.trans (hb.mono HB.out.size))
  clear hb
  go_wp2_with fail
  refine (HI.out.call m _ (by omega)).mono ?_
  rintro e w3 ⟨rfl, hb⟩
  have HB := Lib.hid (HB.out.trans (hb.mono HB.out.size))
  clear hb
  go_wp2_with fail
  refine (refIs_any m _ (by omega)).mono ?_
  rintro e w4 ⟨rfl, hb⟩
  have HB := Lib.hid (HB.out.trans (hb.mono HB.out.size))
  clear hb
  go_wp2_with fail
  refine (HA.out.call _).mono ?_
  rintro e w5 ⟨rfl, hb⟩
  have HB := Lib.hid (HB.out.trans (hb.mono HB.out.size))
  clear hb
  go_wp2
  go_ret
  exact ⟨rfl, HB.out⟩

set_option maxHeartbeats 2000000 in
theorem titleFits_walk (w : World) (HC : CountTC w) (HI : IsTC w) (HF : FitTC w) (HO : FoldTC w) (l : List UInt8) (hl : l.length ≤ 9223372036854775807) :
    Calls Try.prog 5 #[.string (str l)] w fun e w' => e = .returned (.bool true) ∧ Below w.heap.size w w' := by
  have HFew := Lib.hid (fewT_any l w hl)
  obtain ⟨m, hm⟩ : ∃ m, l.take 200 = m := ⟨_, rfl⟩
  have hml : m.length ≤ 200 := by rw [← hm, List.length_take]; omega
  rw [hm] at HFew
  have HA := Lib.hid (awakeT_any HC HI HF)
  have HF := Lib.hid HF
  have HO := Lib.hid HO
  clear hm hl HC HI
  go_enter Try.func5, Try.ntmps5
  go_wp2_with fail
  refine HFew.out.mono ?_
  rintro e w0 ⟨rfl, rfl⟩
  clear HFew
  go_wp2_with fail
  refine (HO.out.call m _ (by omega)).mono ?_
  rintro e w1 ⟨rfl, hb1⟩
  have HB := Lib.hid hb1
  clear hb1
  obtain ⟨F, hF⟩ : ∃ F, str (foldT m) = F := ⟨_, rfl⟩
  have HFF := Lib.hid hF
  rw [hF]
  clear hF
  go_wp2_with fail
  refine (refFold_any m _ (by omega)).mono ?_
  rintro e w2 ⟨rfl, hb⟩
  rw [HFF.out]
  have HB := Lib.hid (HB.out.trans (hb.mono HB.out.size))
  clear hb HFF
  go_wp2_with fail
  refine (HF.out.call m _ (by omega)).mono ?_
  rintro e w3 ⟨rfl, hb⟩
  have HB := Lib.hid (HB.out.trans (hb.mono HB.out.size))
  clear hb
  obtain ⟨G, hG⟩ : ∃ G, str (fitT m) = G := ⟨_, rfl⟩
  have HGG := Lib.hid hG
  rw [hG]
  clear hG
  go_wp2_with fail
  refine (refFit_any m _ (by omega)).mono ?_
  rintro e w4 ⟨rfl, hb⟩
  rw [HGG.out]
  have HB := Lib.hid (HB.out.trans (hb.mono HB.out.size))
  clear hb HGG
  go_wp2_with fail
  refine (HA.out.call _).mono ?_
  rintro e w5 ⟨rfl, hb⟩
  have HB := Lib.hid (HB.out.trans (hb.mono HB.out.size))
  clear hb
  go_wp2
  go_ret
  exact ⟨rfl, HB.out⟩

set_option maxHeartbeats 2000000 in
theorem titleHeads_walk (w : World) (HC : CountTC w) (HI : IsTC w) (HF : FitTC w) (HH : HeadTC w) (HO : OrderTC w) (l k : List UInt8) (n : Int) (hl : l.length ≤ 9223372036854775807) (hk : k.length ≤ 9223372036854775807) (hn : -9223372036854775808 ≤ n ∧ n ≤ 9223372036854775807) :
    Calls Try.prog 4 #[.string (str l), .string (str k), .int .i64 n] w fun e w' => e = .returned (.bool true) ∧ Below w.heap.size w w' := by
  have HFew := Lib.hid (fewT_any l w hl)
  have HFew' := Lib.hid (fewT_any k w hk)
  obtain ⟨m, hm⟩ : ∃ m, l.take 200 = m := ⟨_, rfl⟩
  have hml : m.length ≤ 200 := by rw [← hm, List.length_take]; omega
  rw [hm] at HFew
  obtain ⟨j, hj⟩ : ∃ j, k.take 200 = j := ⟨_, rfl⟩
  have hjl : j.length ≤ 200 := by rw [← hj, List.length_take]; omega
  rw [hj] at HFew'
  have HA := Lib.hid (awakeT_any HC HI HF)
  have HH := Lib.hid HH
  have HO := Lib.hid HO
  clear hm hl hj hk HC HI HF
  go_enter Try.func4, Try.ntmps4
  go_wp2_with fail
  refine HFew.out.mono ?_
  rintro e w0 ⟨rfl, rfl⟩
  clear HFew
  go_wp2_with fail
  refine HFew'.out.mono ?_
  rintro e w0 ⟨rfl, rfl⟩
  clear HFew'
  go_wp2_with fail
  refine (HH.out.call m n _ (by omega)).mono ?_
  rintro e w1 ⟨rfl, hb1⟩
  have HB := Lib.hid hb1
  clear hb1
  obtain ⟨F, hF⟩ : ∃ F, str (headT m n) = F := ⟨_, rfl⟩
  have HFF := Lib.hid hF
  rw [hF]
  clear hF
  go_wp2_with fail
  refine (refHead_any m n _ (by omega)).mono ?_
  rintro e w2 ⟨rfl, hb⟩
  rw [HFF.out]
  have HB := Lib.hid (HB.out.trans (hb.mono HB.out.size))
  clear hb HFF
  go_wp2_with fail
  refine (HO.out.call m j _ (by omega) (by omega)).mono ?_
  rintro e w3 ⟨rfl, hb⟩
  have HB := Lib.hid (HB.out.trans (hb.mono HB.out.size))
  clear hb
  go_wp2_with fail
  refine (refOrder_any m j _ (by omega) (by omega)).mono ?_
  rintro e w4 ⟨rfl, hb⟩
  have HB := Lib.hid (HB.out.trans (hb.mono HB.out.size))
  clear hb
  go_wp2_with fail
  refine (HA.out.call _).mono ?_
  rintro e w5 ⟨rfl, hb⟩
  have HB := Lib.hid (HB.out.trans (hb.mono HB.out.size))
  clear hb
  go_wp2
  go_ret
  exact ⟨rfl, HB.out⟩
end Go.Proofs.Ytopjajfkncnihaa
