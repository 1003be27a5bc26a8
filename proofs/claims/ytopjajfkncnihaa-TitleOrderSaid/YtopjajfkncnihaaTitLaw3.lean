/-
  What the statement TitleOrder answers, by the properties of title's functions.
-/
import Derived.Test.YtopjajfkncnihaaTitC
namespace Go.Proofs.Ytopjajfkncnihaa
open Go.RowKit
set_option maxRecDepth 100000
set_option linter.unusedVariables false

theorem sgn_cases {x : Int} (h : -1 ≤ x ∧ x ≤ 1) : x = -1 ∨ x = 0 ∨ x = 1 := by omega
set_option maxHeartbeats 4000000 in
theorem titleOrder_walk (w : World) (HC : CountTC w) (HI : IsTC w) (HF : FitTC w) (HO : OrderTC w) (l k j : List UInt8) (hl : l.length ≤ 9223372036854775807) (hk : k.length ≤ 9223372036854775807) (hj : j.length ≤ 9223372036854775807) :
    Calls Try.prog 7 #[.string (str l), .string (str k), .string (str j)] w fun e w' => e = .returned (.bool true) ∧ Below w.heap.size w w' := by
  have HFew1 := Lib.hid (fewT_any l w hl)
  have HFew2 := Lib.hid (fewT_any k w hk)
  have HFew3 := Lib.hid (fewT_any j w hj)
  obtain ⟨a, ha⟩ : ∃ a, l.take 200 = a := ⟨_, rfl⟩
  obtain ⟨b, hb⟩ : ∃ b, k.take 200 = b := ⟨_, rfl⟩
  obtain ⟨c, hc⟩ : ∃ c, j.take 200 = c := ⟨_, rfl⟩
  have hal : a.length ≤ 200 := by rw [← ha, List.length_take]; omega
  have hbl : b.length ≤ 200 := by rw [← hb, List.length_take]; omega
  have hcl : c.length ≤ 200 := by rw [← hc, List.length_take]; omega
  rw [ha] at HFew1
  rw [hb] at HFew2
  rw [hc] at HFew3
  have HA := Lib.hid (awakeT_any HC HI HF)
  have HO1 := Lib.hid fun (w' : World) hb => HO.call a b w' (by omega) (by omega) hb
  have HO2 := Lib.hid fun (w' : World) hb => HO.call b c w' (by omega) (by omega) hb
  have HO3 := Lib.hid fun (w' : World) hb => HO.call a c w' (by omega) (by omega) hb
  have HO4 := Lib.hid fun (w' : World) hb => HO.call b a w' (by omega) (by omega) hb
  rw [ordT_neg b a] at HO4
  have hx := ordT_range a b
  have hy := ordT_range b c
  have hz := ordT_range a c
  have h0 := ordT_zero a b
  have ht := ordT_trans a b c
  obtain ⟨q, hq⟩ : ∃ q, ((str a).toList == (str b).toList) = q := ⟨_, rfl⟩
  have hq' : (ordT a b = 0) ↔ q = true := by rw [h0, ← hq, str_toList, str_toList, beq_iff_eq]
  obtain ⟨x, hx'⟩ : ∃ x, ordT a b = x := ⟨_, rfl⟩
  obtain ⟨y, hy'⟩ : ∃ y, ordT b c = y := ⟨_, rfl⟩
  obtain ⟨z, hz'⟩ : ∃ z, ordT a c = z := ⟨_, rfl⟩
  rw [hx'] at HO1 HO4 hx hq' ht
  rw [hy'] at HO2 hy ht
  rw [hz'] at HO3 hz ht
  obtain ⟨A, hA⟩ : ∃ A, str a = A := ⟨_, rfl⟩
  obtain ⟨B, hB⟩ : ∃ B, str b = B := ⟨_, rfl⟩
  obtain ⟨C, hC⟩ : ∃ C, str c = C := ⟨_, rfl⟩
  rw [hA] at HFew1 HO1 HO3 HO4 hq
  rw [hB] at HFew2 HO1 HO2 HO4 hq
  rw [hC] at HFew3 HO2 HO3
  have HQ := Lib.hid hq'
  have HT := Lib.hid ht
  have HX := Lib.hid hx
  have HY := Lib.hid hy
  have HZ := Lib.hid hz
  clear hl hk hj ha hb hc hal hbl hcl hx' hy' hz' h0 hA hB hC hq' ht hx hy hz HC HI HF HO
  go_enter Try.func7, Try.ntmps7
  go_wp2_with fail
  refine HFew1.out.mono ?_
  rintro e w0 ⟨rfl, rfl⟩
  clear HFew1
  go_wp2_with fail
  refine HFew2.out.mono ?_
  rintro e w0 ⟨rfl, rfl⟩
  clear HFew2
  go_wp2_with fail
  refine HFew3.out.mono ?_
  rintro e w0 ⟨rfl, rfl⟩
  clear HFew3
  go_wp2_with fail
  refine (HO1.out _ (Below.refl _ _)).mono ?_
  rintro e w1 ⟨rfl, hb1⟩
  have HB := Lib.hid hb1
  clear hb1 HO1
  go_wp2_with fail
  refine (HO2.out _ HB.out).mono ?_
  rintro e w2 ⟨rfl, hb⟩
  have HB := Lib.hid (HB.out.trans (hb.mono HB.out.size))
  clear hb HO2
  go_wp2_with fail
  refine (HO3.out _ HB.out).mono ?_
  rintro e w3 ⟨rfl, hb⟩
  have HB := Lib.hid (HB.out.trans (hb.mono HB.out.size))
  clear hb HO3
  go_wp2_with fail
  refine (HO4.out _ HB.out).mono ?_
  rintro e w4 ⟨rfl, hb⟩
  have HB := Lib.hid (HB.out.trans (hb.mono HB.out.size))
  clear hb HO4
  have HQ1 : x = 0 → q = true := fun h => HQ.out.1 h
  have HQ2 : x ≠ 0 → q = false := fun h => by
    cases q with
    | true => exact absurd (HQ.out.2 rfl) h
    | false => rfl
  rcases sgn_cases HX.out with rfl | rfl | rfl
  · obtain rfl := HQ2 (by decide)
    clear HQ1 HQ2
    have HS : ¬ (0 : Int) < -1 := by decide
    have hT1 := fun h => HT.out (by decide) h
    have HT := Lib.hid hT1
    clear hT1 HS
    by_cases hy : 0 < y
    · go_wp2_with fail
      refine (HA.out.call _).mono ?_
      rintro e w5 ⟨rfl, hb⟩
      have HB5 := Lib.hid (HB.out.trans (hb.mono HB.out.size))
      clear hb
      go_wp2
      go_ret
      exact ⟨rfl, HB5.out⟩
    · have hz : z ≤ 0 := HT.out (by omega)
      go_wp2_with fail
      refine (HA.out.call _).mono ?_
      rintro e w5 ⟨rfl, hb⟩
      have HB5 := Lib.hid (HB.out.trans (hb.mono HB.out.size))
      clear hb
      go_wp2
      go_ret
      exact ⟨rfl, HB5.out⟩
  · obtain rfl := HQ1 rfl
    clear HQ1 HQ2
    have hT1 := fun h => HT.out (by decide) h
    have HT := Lib.hid hT1
    clear hT1
    by_cases hy : 0 < y
    · go_wp2_with fail
      refine (HA.out.call _).mono ?_
      rintro e w5 ⟨rfl, hb⟩
      have HB5 := Lib.hid (HB.out.trans (hb.mono HB.out.size))
      clear hb
      go_wp2
      go_ret
      exact ⟨rfl, HB5.out⟩
    · have hz : z ≤ 0 := HT.out (by omega)
      go_wp2_with fail
      refine (HA.out.call _).mono ?_
      rintro e w5 ⟨rfl, hb⟩
      have HB5 := Lib.hid (HB.out.trans (hb.mono HB.out.size))
      clear hb
      go_wp2
      go_ret
      exact ⟨rfl, HB5.out⟩
  · obtain rfl := HQ2 (by decide)
    clear HQ1 HQ2
    go_wp2_with fail
    refine (HA.out.call _).mono ?_
    rintro e w5 ⟨rfl, hb⟩
    have HB5 := Lib.hid (HB.out.trans (hb.mono HB.out.size))
    clear hb
    go_wp2
    go_ret
    exact ⟨rfl, HB5.out⟩
end Go.Proofs.Ytopjajfkncnihaa
