/-
  What the statement TitleWhole answers, by the properties of title's functions.
-/
import Derived.Test.YtopjajfkncnihaaTitC
namespace Go.Proofs.Ytopjajfkncnihaa
open Go.RowKit
set_option maxRecDepth 100000
set_option linter.unusedVariables false

theorem fit_len (l : List UInt8) : (fitT l).length ≤ 24 := by
  have h := fitT_is l
  unfold isT at h
  rw [Bool.and_eq_true, decide_eq_true_eq] at h
  exact h.2.2.1
theorem head_cnt (l : List UInt8) (n : Int) (hn : 0 ≤ n) : (headT l n).length ≤ l.length ∧ l.take (headT l n).length = headT l n ∧
    ((cntT (headT l n) : Nat) : Int) + (oddT (headT l n) : Nat) = (if n > (cntT l : Nat) + (oddT l : Nat) then ((cntT l : Nat) : Int) + (oddT l : Nat) else n) ∧
    (0 < (oddT l : Int) ∨ ((oddT l : Nat) : Int) = 0 ∧ ((oddT (headT l n) : Nat) : Int) = 0) := by
  obtain ⟨r, hr⟩ := headT_pre l n
  have e1 := cnt_odd (headT l n)
  have e2 := cnt_odd l
  rw [headT_toks, List.length_take] at e1
  refine ⟨?_, ?_, ?_, ?_⟩
  · have := congrArg List.length hr
    rw [List.length_append] at this
    omega
  · conv => lhs; rw [← hr]
    rw [hr]
    conv => lhs; arg 2; rw [← hr]
    exact List.take_left
  · split <;> omega
  · by_cases h : oddT l = 0
    · rw [odd_head l n h, h]; exact .inr ⟨rfl, rfl⟩
    · exact .inl (by omega)

set_option maxHeartbeats 4000000 in
theorem titleWhole_walk (w : World) (HC : CountTC w) (HI : IsTC w) (HF : FitTC w) (HH : HeadTC w) (l : List UInt8) (n : Int) (hl : l.length ≤ 9223372036854775807) (hn : 0 ≤ n ∧ n ≤ 255) :
    Calls Try.prog 6 #[.string (str l), .int .u8 n] w fun e w' => e = .returned (.bool true) ∧ Below w.heap.size w w' := by
  have HFew := Lib.hid (fewT_any l w hl)
  obtain ⟨m, hm⟩ : ∃ m, l.take 200 = m := ⟨_, rfl⟩
  have hml : m.length ≤ 200 := by rw [← hm, List.length_take]; omega
  rw [hm] at HFew
  have HA := Lib.hid (awakeT_any HC HI HF)
  have hfl := fit_len m
  obtain ⟨hh1, hh2, hh3, hh4⟩ := head_cnt m n hn.1
  have hab : cntT m + oddT m ≤ 200 := by rw [cnt_odd]; exact Nat.le_trans (toks_len m) hml
  have HF1 := Lib.hid fun (w' : World) hb => HF.call m w' (by omega) hb
  have HF2 := Lib.hid fun (w' : World) hb => HF.call (fitT m) w' (by omega) hb
  have HI1 := Lib.hid fun (w' : World) hb => HI.call (fitT m) w' (by omega) hb
  have HI2 := Lib.hid fun (w' : World) hb => HI.call m w' (by omega) hb
  have HH1 := Lib.hid fun (w' : World) hb => HH.call m n w' (by omega) hb
  have HC1 := Lib.hid fun (w' : World) hb => HC.call m w' (by omega) hb
  have HC2 := Lib.hid fun (w' : World) hb => HC.call (headT m n) w' (by omega) hb
  rw [fitT_twice] at HF2
  rw [fitT_is] at HI1
  have hx := str_ext m 0 (headT m n).length
  rw [List.drop_zero, hh2] at hx
  have hz1 := str_size m
  have hz2 := str_size (headT m n)
  have hfn : isT m = true → str (fitT m) = str m := fun h => by rw [fitT_name h]
  obtain ⟨a, ha⟩ : ∃ a : Int, ((cntT m : Nat) : Int) = a := ⟨_, rfl⟩
  obtain ⟨b, hb⟩ : ∃ b : Int, ((oddT m : Nat) : Int) = b := ⟨_, rfl⟩
  obtain ⟨c, hc⟩ : ∃ c : Int, ((cntT (headT m n) : Nat) : Int) = c := ⟨_, rfl⟩
  obtain ⟨d, hd⟩ : ∃ d : Int, ((oddT (headT m n) : Nat) : Int) = d := ⟨_, rfl⟩
  have hb0 : 0 ≤ a ∧ 0 ≤ b ∧ a + b ≤ 200 ∧ 0 ≤ c ∧ 0 ≤ d := by omega
  rw [ha, hb] at HC1 hh3
  rw [hc, hd] at HC2 hh3
  rw [hb, hd] at hh4
  obtain ⟨i, hi⟩ : ∃ i, isT m = i := ⟨_, rfl⟩
  obtain ⟨M, hM⟩ : ∃ M, str m = M := ⟨_, rfl⟩
  obtain ⟨F, hF⟩ : ∃ F, str (fitT m) = F := ⟨_, rfl⟩
  obtain ⟨H, hH⟩ : ∃ H, str (headT m n) = H := ⟨_, rfl⟩
  obtain ⟨p, hp⟩ : ∃ p, m.length = p := ⟨_, rfl⟩
  obtain ⟨q, hq⟩ : ∃ q, (headT m n).length = q := ⟨_, rfl⟩
  rw [hi] at HI2 hfn
  rw [hM] at HFew HF1 HI2 HH1 HC1 hx hz1 hfn
  rw [hF] at HF1 HF2 HI1 hfn
  rw [hH] at HH1 HC2 hx hz2
  rw [hp] at hz1 hh1 hml
  rw [hq] at hz2 hh1 hx
  have HFN := Lib.hid hfn
  clear hm hl hfl hh2 hab ha hb hc hd hi hM hF hH hp hq hfn HC HI HF HH
  go_enter Try.func6, Try.ntmps6
  go_wp2_with fail
  refine HFew.out.mono ?_
  rintro e w0 ⟨rfl, rfl⟩
  clear HFew
  go_wp2_with fail
  refine (HF1.out _ (Below.refl _ _)).mono ?_
  rintro e w1 ⟨rfl, hb1⟩
  have HB := Lib.hid hb1
  clear hb1 HF1
  go_wp2_with fail
  refine (HI1.out _ HB.out).mono ?_
  rintro e w2 ⟨rfl, hb⟩
  have HB := Lib.hid (HB.out.trans (hb.mono HB.out.size))
  clear hb HI1
  go_wp2_with fail
  refine (HF2.out _ HB.out).mono ?_
  rintro e w3 ⟨rfl, hb⟩
  have HB := Lib.hid (HB.out.trans (hb.mono HB.out.size))
  clear hb HF2
  go_wp2_with fail
  refine (HI2.out _ HB.out).mono ?_
  rintro e w4 ⟨rfl, hb⟩
  have HB := Lib.hid (HB.out.trans (hb.mono HB.out.size))
  clear hb HI2
  cases i with
  | true =>
    obtain rfl := HFN.out rfl
    clear HFN
    go_wp2_with fail
    refine (HH1.out _ HB.out).mono ?_
    rintro e w5 ⟨rfl, hb⟩
    have HB := Lib.hid (HB.out.trans (hb.mono HB.out.size))
    clear hb HH1
    go_wp2_with fail
    refine (HC1.out _ HB.out).mono ?_
    rintro e w6 ⟨rfl, hb⟩
    have HB := Lib.hid (HB.out.trans (hb.mono HB.out.size))
    clear hb HC1
    go_wp2_with fail
    refine (HC2.out _ HB.out).mono ?_
    rintro e w7 ⟨rfl, hb⟩
    have HB := Lib.hid (HB.out.trans (hb.mono HB.out.size))
    clear hb HC2
    by_cases hgt : n > a + b
    · rw [if_pos hgt] at hh3
      rcases hh4 with h4 | ⟨rfl, rfl⟩
      all_goals
        go_wp2_with fail
        refine (HA.out.call _).mono ?_
        rintro e w8 ⟨rfl, hb⟩
        have HB8 := Lib.hid (HB.out.trans (hb.mono HB.out.size))
        clear hb
        go_wp2
        go_ret
        exact ⟨rfl, HB8.out⟩
    · rw [if_neg hgt] at hh3
      rcases hh4 with h4 | ⟨rfl, rfl⟩
      all_goals
        go_wp2_with fail
        refine (HA.out.call _).mono ?_
        rintro e w8 ⟨rfl, hb⟩
        have HB8 := Lib.hid (HB.out.trans (hb.mono HB.out.size))
        clear hb
        go_wp2
        go_ret
        exact ⟨rfl, HB8.out⟩
  | false =>
    clear HFN
    go_wp2_with fail
    refine (HH1.out _ HB.out).mono ?_
    rintro e w5 ⟨rfl, hb⟩
    have HB := Lib.hid (HB.out.trans (hb.mono HB.out.size))
    clear hb HH1
    go_wp2_with fail
    refine (HC1.out _ HB.out).mono ?_
    rintro e w6 ⟨rfl, hb⟩
    have HB := Lib.hid (HB.out.trans (hb.mono HB.out.size))
    clear hb HC1
    go_wp2_with fail
    refine (HC2.out _ HB.out).mono ?_
    rintro e w7 ⟨rfl, hb⟩
    have HB := Lib.hid (HB.out.trans (hb.mono HB.out.size))
    clear hb HC2
    by_cases hgt : n > a + b
    · rw [if_pos hgt] at hh3
      rcases hh4 with h4 | ⟨rfl, rfl⟩
      all_goals
        go_wp2_with fail
        refine (HA.out.call _).mono ?_
        rintro e w8 ⟨rfl, hb⟩
        have HB8 := Lib.hid (HB.out.trans (hb.mono HB.out.size))
        clear hb
        go_wp2
        go_ret
        exact ⟨rfl, HB8.out⟩
    · rw [if_neg hgt] at hh3
      rcases hh4 with h4 | ⟨rfl, rfl⟩
      all_goals
        go_wp2_with fail
        refine (HA.out.call _).mono ?_
        rintro e w8 ⟨rfl, hb⟩
        have HB8 := Lib.hid (HB.out.trans (hb.mono HB.out.size))
        clear hb
        go_wp2
        go_ret
        exact ⟨rfl, HB8.out⟩
end Go.Proofs.Ytopjajfkncnihaa
