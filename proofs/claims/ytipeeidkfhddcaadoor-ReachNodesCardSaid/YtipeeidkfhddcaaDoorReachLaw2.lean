/-
  What the statement ReachNodes answers, by the properties of reach's functions.
-/
import Derived.Test.YtipeeidkfhddcaaDoorReachLaw1
namespace Go.Proofs.YtipeeidkfhddcaaDoor
open Go.RowKit
set_option maxRecDepth 100000
set_option linter.unusedVariables false

set_option maxHeartbeats 1000000 in
theorem reachNodes_walk (w : World) (HPC : PathC w) (HNC : NumberC w) (HCC : CountC w) (HOC : NodeC w) (n : Int) (A : Option Addr) (m c : Nat) (l : List Int) (hl : l.length = m) (hc : m ≤ c) (hm : c ≤ maxLen) (hr : Rd w w.heap.size A (l.map iv)) (hn0 : -9223372036854775808 ≤ n ∧ n ≤ 9223372036854775807) :
    Calls Tryd.prog 4 #[.slice A m c, .int .i64 n] w fun e w' => e = .returned (.bool true) ∧ Below w.heap.size w w' := by
  have HNC := Lib.hid HNC
  have HOC := Lib.hid HOC
  have HAW := Lib.hid (awakeR_any HPC HNC.out HCC)
  obtain ⟨l', hl'⟩ : ∃ l', l.take 6 = l' := ⟨_, rfl⟩
  obtain ⟨m', hm'⟩ : ∃ m', (l.take 6).length = m' := ⟨_, rfl⟩
  have HF := Lib.hid (fewR_any w.heap.size A m m' c l w hl hm' hr hc hm)
  have hm6 : m' ≤ m := by rw [← hm', ← hl, List.length_take]; omega
  have hr' : Rd w w.heap.size A (l'.map iv) := by rw [← hl', List.map_take]; exact hr.take 6
  rw [hl'] at hm'
  have HR0 := Lib.hid hr'
  have HL := Lib.hid hm'
  have HM := Lib.hid hm
  have hc' : m' ≤ c := by omega
  have hm2 : m' ≤ 9223372036854775807 := by unfold maxLen at hm; omega
  clear hl hm hr hr' hl' hm' hm6 HPC HCC
  obtain ⟨r, hrr⟩ := isNum_ex l'
  obtain ⟨x, hx⟩ : ∃ x, valR r = x := ⟨_, rfl⟩
  obtain ⟨q, hq⟩ : ∃ q, errR r = q := ⟨_, rfl⟩
  have HRR := Lib.hid hrr
  have HX := Lib.hid hx
  have HQ := Lib.hid hq
  clear hrr hx hq
  go_enter Tryd.func4, Tryd.ntmps4
  go_wp2_with fail
  refine HF.out.mono ?_
  rintro e w0 ⟨rfl, rfl⟩
  clear HF
  go_wp2_with fail
  refine (HNC.out.call A m' c l' r x q _ HL.out hc' HM.out HR0.out HRR.out HX.out HQ.out).mono ?_
  rintro e w1 ⟨rfl, hb1⟩
  have HR0 := Lib.hid ((HR0.out.below hb1).mono hb1.size)
  have HB := Lib.hid hb1
  clear hb1
  go_wp2_with fail
  refine (refNumber8_any A m' c l' r _ HL.out hm2 HR0.out HRR.out).mono ?_
  rintro e w2 ⟨rfl, hb2⟩
  have HB := Lib.hid (HB.out.trans (hb2.mono HB.out.size))
  clear hb2 HR0
  have hz : (r = -1 ∧ x = 0 ∧ q = 4 ∧ m' = 0) ∨ (r = -1 ∧ x = 0 ∧ q = 4 ∧ 0 < m') ∨ (0 ≤ r ∧ x = r ∧ q = 0 ∧ 0 < m') := by
    rcases HRR.out with ⟨k, hk, e, hr⟩ | ⟨_, hr⟩
    · have := (nod_length k).1
      rw [e, HL.out] at this
      refine .inr (.inr ⟨by omega, ?_, ?_, this⟩)
      · rw [← HX.out, valR, if_neg (by omega)]
      · rw [← HQ.out, errR, if_neg (by omega)]
    · have hx : x = 0 := by rw [← HX.out, valR, if_pos (by omega)]
      have hq : q = 4 := by rw [← HQ.out, errR, if_pos (by omega)]
      by_cases h : m' = 0
      · exact .inl ⟨hr, hx, hq, h⟩
      · exact .inr (.inl ⟨hr, hx, hq, by omega⟩)
  have HNF : Hid (∀ w', Below w.heap.size w w' → Calls Tryd.prog 18 #[.int .i64 n] w' fun e w'' => ∃ A k c, e = .returned (.tuple #[.slice A k c, .int .i64 (errN n)]) ∧ (refN n).length = k ∧ k ≤ c ∧ c ≤ maxLen ∧ Rd w'' w''.heap.size A ((refN n).map iv) ∧ Below w'.heap.size w' w'') := fun w' hb => HOC.out.call n (refN n) (errN n) w' rfl rfl hb hn0
  have hcs := refN_cases n
  obtain ⟨L, hLL⟩ : ∃ L, refN n = L := ⟨_, rfl⟩
  obtain ⟨q2, hq2⟩ : ∃ q2, errN n = q2 := ⟨_, rfl⟩
  rw [hLL, hq2] at HNF hcs
  have HLL := Lib.hid hLL
  clear HRR HX HQ HL HM HNC HOC hc' hm2 hLL hq2
  rcases hz with ⟨rfl, rfl, rfl, rfl⟩ | ⟨rfl, rfl, rfl, hmp⟩ | ⟨hr0, rfl, rfl, hmp⟩
  all_goals
    go_wp2_with fail
    refine (HNF.out _ HB.out).mono ?_
    rintro e w3 ⟨A3, k3, c3, rfl, hl3, hk3, hm3, hr3, hb3⟩
    have HB3 := Lib.hid (HB.out.trans (hb3.mono HB.out.size))
    have HR3 := Lib.hid hr3
    have HL3 := Lib.hid hl3
    unfold maxLen at hm3
    clear hb3 hr3 HB hl3
    rcases hcs with ⟨rfl, hn0, hn1, hL1, hL2⟩ | ⟨rfl, hnn, rfl⟩
    · go_wp2_with fail
      refine (refNode8_any n _).mono ?_
      rintro e w4 ⟨v4, rfl, ⟨A4, k4, c4, rfl, hl4, hk4, hm4, hr4, -⟩, hb4⟩
      have HR3 := Lib.hid ((HR3.out.below hb4).mono hb4.size)
      have HB4 := Lib.hid (HB3.out.trans (hb4.mono HB3.out.size))
      have HR4 := Lib.hid hr4
      rw [HLL.out] at hl4 HR4
      unfold maxLen at hm4
      have hkp : 0 < k4 := by omega
      have HL4 := Lib.hid hl4
      clear hb4 hr4 hl4
      go_wp2_with fail
      refine (refSame8_any w4.heap.size w4.heap.size A3 A4 k3 c3 k4 c4 L L true _ HL3.out HL4.out (by omega) (by omega) HR3.out HR4.out (Nat.le_refl _) (Nat.le_refl _) (by simp)).mono ?_
      rintro e w5 ⟨rfl, hb5⟩
      have HB5 := Lib.hid (HB4.out.trans (hb5.mono HB4.out.size))
      clear hb5
      go_wp2_with fail
      refine (HAW.out.call _).mono ?_
      rintro e w6 ⟨rfl, hb6⟩
      have HB6 := Lib.hid (HB5.out.trans (hb6.mono HB5.out.size))
      clear hb6
      go_wp2
      go_ret
      exact ⟨rfl, HB6.out⟩
    · have HS : Hid (∀ w', Below w3.heap.size w3 w' → Calls Tryd.prog 12 #[.slice A3 k3 c3, .slice none 0 0] w' fun e w'' => e = .returned (.bool true) ∧ Below w'.heap.size w' w'') := fun w' hb => refSame8_any w3.heap.size w'.heap.size A3 none k3 c3 0 0 [] [] true w' HL3.out rfl (by omega) (by omega) (HR3.out.below hb) Rd.nil_ hb.size (Nat.le_refl _) (by simp)
      clear HL3 HR3 HLL
      rcases (show n < 0 ∨ (0 ≤ n ∧ 258 ≤ n) by omega) with hlo | ⟨hlo, hhi⟩
      all_goals
        go_wp2_with fail
        refine (HS.out _ (Below.refl _ _)).mono ?_
        rintro e w4 ⟨rfl, hb4⟩
        have HB4 := Lib.hid (HB3.out.trans (hb4.mono HB3.out.size))
        clear hb4
        go_wp2_with fail
        refine (HAW.out.call _).mono ?_
        rintro e w5 ⟨rfl, hb5⟩
        have HB5 := Lib.hid (HB4.out.trans (hb5.mono HB4.out.size))
        clear hb5
        go_wp2
        go_ret
        exact ⟨rfl, HB5.out⟩
end Go.Proofs.YtipeeidkfhddcaaDoor
