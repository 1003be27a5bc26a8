/-
  What the statement TitleJoins answers, by the properties of title's functions.
-/
import Derived.Test.YtopjajfkncnihaaTitC
namespace Go.Proofs.Ytopjajfkncnihaa
open Go.RowKit
set_option maxRecDepth 100000
set_option linter.unusedVariables false

set_option maxHeartbeats 4000000 in
theorem titleJoins_walk (w : World) (HC : CountTC w) (HI : IsTC w) (HF : FitTC w) (HH : HeadTC w) (l k : List UInt8) (hl : l.length ≤ 9223372036854775807) (hk : k.length ≤ 9223372036854775807) :
    Calls Try.prog 9 #[.string (str l), .string (str k)] w fun e w' => e = .returned (.bool true) ∧ Below w.heap.size w w' := by
  have HFew := Lib.hid (fewT_any l w hl)
  have HFew' := Lib.hid (fewT_any k w hk)
  obtain ⟨m, hm⟩ : ∃ m, l.take 200 = m := ⟨_, rfl⟩
  have hml : m.length ≤ 200 := by rw [← hm, List.length_take]; omega
  rw [hm] at HFew
  obtain ⟨j, hj⟩ : ∃ j, k.take 200 = j := ⟨_, rfl⟩
  have hjl : j.length ≤ 200 := by rw [← hj, List.length_take]; omega
  rw [hj] at HFew'
  have HA := Lib.hid (awakeT_any HC HI HF)
  have hab : cntT m + oddT m ≤ 200 := by rw [cnt_odd]; exact Nat.le_trans (toks_len m) hml
  have hab' : cntT j + oddT j ≤ 200 := by rw [cnt_odd]; exact Nat.le_trans (toks_len j) hjl
  have HC1 := Lib.hid fun (w' : World) hb => HC.call m w' (by omega) hb
  have HC2 := Lib.hid fun (w' : World) hb => HC.call j w' (by omega) hb
  have HC3 := Lib.hid fun (w' : World) hb => HC.call (m ++ j) w' (by rw [List.length_append]; omega) hb
  have HH1 := Lib.hid fun (w' : World) hb => HH.call (m ++ j) ((cntT m : Nat) : Int) w' (by rw [List.length_append]; omega) hb
  have ho := @odd_two m j
  have hz1 : (str m).size ≤ 200 := by rw [str_size]; exact hml
  have hz2 : (str j).size ≤ 200 := by rw [str_size]; exact hjl
  have hss := str_append m j
  by_cases hx : oddT m = 0
  · by_cases hy : oddT j = 0
    · obtain ⟨o1, o2, o3⟩ := ho hx hy
      rw [hx] at HC1
      rw [hy] at HC2
      rw [o1, o2] at HC3
      rw [o3] at HH1
      have hcc : ((cntT m + cntT j : Nat) : Int) = ((cntT m : Nat) : Int) + ((cntT j : Nat) : Int) := by omega
      rw [hcc] at HC3
      obtain ⟨a, ha⟩ : ∃ a : Int, ((cntT m : Nat) : Int) = a := ⟨_, rfl⟩
      obtain ⟨b, hb⟩ : ∃ b : Int, ((cntT j : Nat) : Int) = b := ⟨_, rfl⟩
      have hb0 : 0 ≤ a ∧ a ≤ 200 ∧ 0 ≤ b ∧ b ≤ 200 := by omega
      rw [ha] at HC1 HC3 HH1
      rw [hb] at HC2 HC3
      obtain ⟨M, hM⟩ : ∃ M, str m = M := ⟨_, rfl⟩
      obtain ⟨J, hJ⟩ : ∃ J, str j = J := ⟨_, rfl⟩
      obtain ⟨S, hS⟩ : ∃ S, str (m ++ j) = S := ⟨_, rfl⟩
      rw [hM] at HFew HC1 HH1 hz1 hss
      rw [hJ] at HFew' HC2 hz2 hss
      rw [hS] at HC3 HH1 hss
      have HS := Lib.hid hss
      clear hm hl hj hk hml hjl hab hab' hx hy ho o1 o2 o3 hcc ha hb hM hJ hS hss HC HI HF HH
      go_enter Try.func9, Try.ntmps9
      go_wp2_with fail
      refine HFew.out.mono ?_
      rintro e w0 ⟨rfl, rfl⟩
      clear HFew
      go_wp2_with fail
      refine HFew'.out.mono ?_
      rintro e w0 ⟨rfl, rfl⟩
      clear HFew'
      go_wp2_with fail
      refine (HC1.out _ (Below.refl _ _)).mono ?_
      rintro e w1 ⟨rfl, hb1⟩
      have HB := Lib.hid hb1
      clear hb1 HC1
      go_wp2_with fail
      refine (HC2.out _ HB.out).mono ?_
      rintro e w2 ⟨rfl, hb⟩
      have HB := Lib.hid (HB.out.trans (hb.mono HB.out.size))
      clear hb HC2
      have hzz : M.size + J.size ≤ 4000 := by omega
      go_wp2_with fail
      all_goals first | (exfalso; omega; done) | skip
      rw [HS.out]
      refine (HC3.out _ HB.out).mono ?_
      rintro e w3 ⟨rfl, hb⟩
      have HB := Lib.hid (HB.out.trans (hb.mono HB.out.size))
      clear hb HC3
      go_wp2_with fail
      all_goals first | (exfalso; omega; done) | skip
      rw [HS.out]
      refine (HH1.out _ HB.out).mono ?_
      rintro e w4 ⟨rfl, hb⟩
      have HB := Lib.hid (HB.out.trans (hb.mono HB.out.size))
      clear hb HH1
      go_wp2_with fail
      refine (HA.out.call _).mono ?_
      rintro e w5 ⟨rfl, hb⟩
      have HB := Lib.hid (HB.out.trans (hb.mono HB.out.size))
      clear hb
      go_wp2
      go_ret
      exact ⟨rfl, HB.out⟩
    · obtain ⟨d, hd⟩ : ∃ d : Int, ((oddT j : Nat) : Int) = d := ⟨_, rfl⟩
      have hd0 : 0 < d := by omega
      rw [hx] at HC1
      rw [hd] at HC2
      clear hx hy ho hd hss HC3 HH1
      obtain ⟨M, hM⟩ : ∃ M, str m = M := ⟨_, rfl⟩
      obtain ⟨J, hJ⟩ : ∃ J, str j = J := ⟨_, rfl⟩
      rw [hM] at HFew HC1 hz1
      rw [hJ] at HFew' HC2 hz2
      clear hm hl hj hk hml hjl hab hab' hM hJ HC HI HF HH
      go_enter Try.func9, Try.ntmps9
      go_wp2_with fail
      refine HFew.out.mono ?_
      rintro e w0 ⟨rfl, rfl⟩
      clear HFew
      go_wp2_with fail
      refine HFew'.out.mono ?_
      rintro e w0 ⟨rfl, rfl⟩
      clear HFew'
      go_wp2_with fail
      refine (HC1.out _ (Below.refl _ _)).mono ?_
      rintro e w1 ⟨rfl, hb1⟩
      have HB := Lib.hid hb1
      clear hb1 HC1
      go_wp2_with fail
      refine (HC2.out _ HB.out).mono ?_
      rintro e w2 ⟨rfl, hb⟩
      have HB := Lib.hid (HB.out.trans (hb.mono HB.out.size))
      clear hb HC2
      go_wp2_with fail
      refine (HA.out.call _).mono ?_
      rintro e w5 ⟨rfl, hb⟩
      have HB := Lib.hid (HB.out.trans (hb.mono HB.out.size))
      clear hb
      go_wp2
      go_ret
      exact ⟨rfl, HB.out⟩
  · obtain ⟨c, hc⟩ : ∃ c : Int, ((oddT m : Nat) : Int) = c := ⟨_, rfl⟩
    have hc0 : 0 < c := by omega
    rw [hc] at HC1
    clear hx ho hc hss HC3 HH1
    obtain ⟨M, hM⟩ : ∃ M, str m = M := ⟨_, rfl⟩
    obtain ⟨J, hJ⟩ : ∃ J, str j = J := ⟨_, rfl⟩
    rw [hM] at HFew HC1 hz1
    rw [hJ] at HFew' HC2 hz2
    clear hm hl hj hk hml hjl hab hab' hM hJ HC HI HF HH
    go_enter Try.func9, Try.ntmps9
    go_wp2_with fail
    refine HFew.out.mono ?_
    rintro e w0 ⟨rfl, rfl⟩
    clear HFew
    go_wp2_with fail
    refine HFew'.out.mono ?_
    rintro e w0 ⟨rfl, rfl⟩
    clear HFew'
    go_wp2_with fail
    refine (HC1.out _ (Below.refl _ _)).mono ?_
    rintro e w1 ⟨rfl, hb1⟩
    have HB := Lib.hid hb1
    clear hb1 HC1
    go_wp2_with fail
    refine (HC2.out _ HB.out).mono ?_
    rintro e w2 ⟨rfl, hb⟩
    have HB := Lib.hid (HB.out.trans (hb.mono HB.out.size))
    clear hb HC2
    go_wp2_with fail
    refine (HA.out.call _).mono ?_
    rintro e w5 ⟨rfl, hb⟩
    have HB := Lib.hid (HB.out.trans (hb.mono HB.out.size))
    clear hb
    go_wp2
    go_ret
    exact ⟨rfl, HB.out⟩
end Go.Proofs.Ytopjajfkncnihaa
