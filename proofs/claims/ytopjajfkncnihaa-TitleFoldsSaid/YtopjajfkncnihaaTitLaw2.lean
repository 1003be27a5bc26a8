/-
  What the statement TitleFolds answers, by the properties of title's functions.
-/
import Derived.Test.YtopjajfkncnihaaTitC
namespace Go.Proofs.Ytopjajfkncnihaa
open Go.RowKit
set_option maxRecDepth 100000
set_option linter.unusedVariables false

set_option maxHeartbeats 2000000 in
theorem titleFolds_walk (w : World) (HC : CountTC w) (HI : IsTC w) (HF : FitTC w) (HO : FoldTC w) (l : List UInt8) (hl : l.length ≤ 9223372036854775807) :
    Calls Try.prog 8 #[.string (str l)] w fun e w' => e = .returned (.bool true) ∧ Below w.heap.size w w' := by
  have HFew := Lib.hid (fewT_any l w hl)
  obtain ⟨m, hm⟩ : ∃ m, l.take 200 = m := ⟨_, rfl⟩
  have hml : m.length ≤ 200 := by rw [← hm, List.length_take]; omega
  rw [hm] at HFew
  have HA := Lib.hid (awakeT_any HC HI HF)
  obtain ⟨f, hf⟩ : ∃ f, foldT m = f := ⟨_, rfl⟩
  have hz1 : (str m).size = m.length := str_size m
  have hz2 : (str f).size = m.length := by rw [str_size, ← hf, foldT_len]
  have hfl : f.length ≤ 200 := by rw [← hf, foldT_len]; exact hml
  have HO1 := Lib.hid fun (w' : World) hb => HO.call m w' (by omega) hb
  have HO2 := Lib.hid fun (w' : World) hb => HO.call f w' (by omega) hb
  have HC1 := Lib.hid fun (w' : World) hb => HC.call m w' (by omega) hb
  have HC2 := Lib.hid fun (w' : World) hb => HC.call f w' (by omega) hb
  have HI1 := Lib.hid fun (w' : World) hb => HI.call m w' (by omega) hb
  have HI2 := Lib.hid fun (w' : World) hb => HI.call f w' (by omega) hb
  rw [hf] at HO1
  rw [← hf, foldT_twice, hf] at HO2
  rw [← hf, is_fold, hf] at HI2
  rw [← hf, (odd_fold m).1, (odd_fold m).2, hf] at HC2
  obtain ⟨k, hk⟩ : ∃ k, m.length = k := ⟨_, rfl⟩
  obtain ⟨p, hp⟩ : ∃ p, cntT m = p := ⟨_, rfl⟩
  obtain ⟨q, hq⟩ : ∃ q, oddT m = q := ⟨_, rfl⟩
  obtain ⟨i, hi⟩ : ∃ i, isT m = i := ⟨_, rfl⟩
  rw [hp, hq] at HC1 HC2
  rw [hi] at HI1 HI2
  rw [hk] at hz1 hz2 hml
  obtain ⟨M, hM⟩ : ∃ M, str m = M := ⟨_, rfl⟩
  obtain ⟨F, hF⟩ : ∃ F, str f = F := ⟨_, rfl⟩
  rw [hM] at HFew hz1 HO1 HC1 HI1
  rw [hF] at hz2 HO1 HO2 HC2 HI2
  clear hm hl hf hfl hk hp hq hi hM hF HC HI HF HO
  go_enter Try.func8, Try.ntmps8
  go_wp2_with fail
  refine HFew.out.mono ?_
  rintro e w0 ⟨rfl, rfl⟩
  clear HFew
  go_wp2_with fail
  refine (HO1.out _ (Below.refl _ _)).mono ?_
  rintro e w1 ⟨rfl, hb1⟩
  have HB := Lib.hid hb1
  clear hb1 HO1
  go_wp2_with fail
  refine (HC1.out _ HB.out).mono ?_
  rintro e w2 ⟨rfl, hb⟩
  have HB := Lib.hid (HB.out.trans (hb.mono HB.out.size))
  clear hb HC1
  go_wp2_with fail
  refine (HC2.out _ HB.out).mono ?_
  rintro e w3 ⟨rfl, hb⟩
  have HB := Lib.hid (HB.out.trans (hb.mono HB.out.size))
  clear hb HC2
  go_wp2_with fail
  refine (HO2.out _ HB.out).mono ?_
  rintro e w4 ⟨rfl, hb⟩
  have HB := Lib.hid (HB.out.trans (hb.mono HB.out.size))
  clear hb HO2
  go_wp2_with fail
  refine (HI2.out _ HB.out).mono ?_
  rintro e w5 ⟨rfl, hb⟩
  have HB := Lib.hid (HB.out.trans (hb.mono HB.out.size))
  clear hb HI2
  go_wp2_with fail
  refine (HI1.out _ HB.out).mono ?_
  rintro e w6 ⟨rfl, hb⟩
  have HB := Lib.hid (HB.out.trans (hb.mono HB.out.size))
  clear hb HI1
  go_wp2_with fail
  refine (HA.out.call _).mono ?_
  rintro e w7 ⟨rfl, hb⟩
  have HB := Lib.hid (HB.out.trans (hb.mono HB.out.size))
  clear hb
  go_wp2
  go_ret
  exact ⟨rfl, HB.out⟩
end Go.Proofs.Ytopjajfkncnihaa
