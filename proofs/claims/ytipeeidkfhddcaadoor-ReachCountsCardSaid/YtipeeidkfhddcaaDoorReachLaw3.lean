/-
  What the statements ReachCounts and ReachOn answer, by the properties of reach's functions.
-/
import Derived.Test.YtipeeidkfhddcaaDoorReachLaw1
namespace Go.Proofs.YtipeeidkfhddcaaDoor
open Go.RowKit
set_option maxRecDepth 100000
set_option linter.unusedVariables false

set_option maxHeartbeats 1000000 in
theorem reachCounts_walk (w : World) (HPC : PathC w) (HNC : NumberC w) (HCC : CountC w) (HSC : SizeC w) (n o : Int) (ho : -9223372036854775808 ≤ o ∧ o ≤ 9223372036854775807) (hn0 : -9223372036854775808 ≤ n ∧ n ≤ 9223372036854775807) :
    Calls Tryd.prog 6 #[.int .i64 n, .int .i64 o] w fun e w' => e = .returned (.bool true) ∧ Below w.heap.size w w' := by
  have HCC := Lib.hid HCC
  have HS := Lib.hid fun w' => HSC.call o w' ho.1 ho.2
  have HAW := Lib.hid (awakeR_any HPC HNC HCC.out)
  obtain ⟨x, hx⟩ : ∃ x, ndsI n = x := ⟨_, rfl⟩
  have HRC := Lib.hid fun w' => refCount8_any n w'
  rw [hx] at HRC
  have HC := Lib.hid fun w' (hb : Below w.heap.size w w') => HCC.out.call n x w' hx hb hn0
  obtain ⟨y, hy⟩ : ∃ y, (if 0 < o then (o + 127) / 128 else 0) = y := ⟨_, rfl⟩
  rw [hy] at HS
  clear HPC HNC HSC HCC hx
  have key : (0 < o ∧ (∃ z r : Int, o.tdiv 128 = z ∧ o.tmod 128 = r ∧ 0 ≤ z ∧ z ≤ 72057594037927936 ∧ ((0 < r ∧ y = z + 1) ∨ (¬ 0 < r ∧ y = z)))) ∨ (¬ 0 < o ∧ y = 0) := by
    by_cases h : 0 < o
    · refine .inl ⟨h, _, _, rfl, rfl, ?_⟩
      rw [if_pos h] at hy
      rw [Int.tdiv_eq_ediv_of_nonneg (by omega), Int.tmod_eq_emod_of_nonneg (by omega)]
      omega
    · exact .inr ⟨h, by rw [← hy, if_neg h]⟩
  clear hy
  rcases key with ⟨h0, z, r, hz, hr, hz0, hz1, ⟨hr0, rfl⟩ | ⟨hr0, rfl⟩⟩ | ⟨h0, rfl⟩
  all_goals
    go_enter Tryd.func6, Tryd.ntmps6
    go_wp2_with fail
    refine (HC.out _ (Below.refl _ _)).mono ?_
    rintro e w1 ⟨rfl, hb1⟩
    have HB1 := Lib.hid hb1
    clear hb1
    go_wp2_with fail
    refine (HRC.out _).mono ?_
    rintro e w2 ⟨rfl, hb2⟩
    have HB2 := Lib.hid (HB1.out.trans (hb2.mono HB1.out.size))
    clear hb2
    go_wp2_with fail
    refine (HS.out _).mono ?_
    rintro e w3 ⟨rfl, hb3⟩
    have HB3 := Lib.hid (HB2.out.trans (hb3.mono HB2.out.size))
    clear hb3
    go_wp2_with fail
    refine (HAW.out.call _).mono ?_
    rintro e w4 ⟨rfl, hb4⟩
    have HB4 := Lib.hid (HB3.out.trans (hb4.mono HB3.out.size))
    clear hb4
    go_wp2
    go_ret
    exact ⟨rfl, HB4.out⟩
end Go.Proofs.YtipeeidkfhddcaaDoor
