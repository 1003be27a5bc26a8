/-
  The statements' own examples of layer 3: they come out true.
-/
import Derived.Test.YtfjcclgambkieaaAddr4
namespace Go.Proofs.Ytfjcclgambkieaa
open Go.RowKit
set_option linter.unusedVariables false

theorem some_any (w : World) : Calls Try.prog 26 #[] w fun e w' => e = .returned (.agg #[.int .i64 10, .int .i64 2, .int .i64 2, .int .i64 3]) ∧ Below w.heap.size w w' := by
  go_enter Try.func26, Try.ntmps26
  go_wp2
  exact bodyPost_ret (v := .agg #[.int .i64 10, .int .i64 2, .int .i64 2, .int .i64 3]) (by simp [results, Try.results26, go_sem]) rfl ⟨rfl, (Below.refl _ _).alloc (Nat.le_refl _) _⟩
theorem Of_one (w : World) : Calls Try.prog 15 #[.agg #[.int .i64 10, .int .i64 2, .int .i64 2, .int .i64 3], .agg #[.int .i64 (-1), .int .i64 0, .int .i64 0]] w fun e w' => e = .returned (.tuple #[.int .i64 1, .int .i64 0]) ∧ Below w.heap.size w w' :=
  Of_in 10 2 2 3 (-1) 0 0 true w rfl rfl
theorem Of_two (w : World) : Calls Try.prog 15 #[.agg #[.int .i64 10, .int .i64 2, .int .i64 2, .int .i64 3], .agg #[.int .i64 0, .int .i64 0, .int .i64 0]] w fun e w' => e = .returned (.tuple #[.int .i64 161, .int .i64 0]) ∧ Below w.heap.size w w' :=
  Of_in 10 2 2 3 0 0 0 true w rfl rfl
theorem Of_three (w : World) : Calls Try.prog 15 #[.agg #[.int .i64 10, .int .i64 2, .int .i64 2, .int .i64 3], .agg #[.int .i64 1, .int .i64 2, .int .i64 15]] w fun e w' => e = .returned (.tuple #[.int .i64 256, .int .i64 0]) ∧ Below w.heap.size w w' :=
  Of_in 10 2 2 3 1 2 15 true w rfl rfl
theorem Tier_one (w : World) : Calls Try.prog 21 #[.agg #[.int .i64 10, .int .i64 2, .int .i64 2, .int .i64 3], .int .i64 128] w fun e w' => e = .returned (.int .i64 0) ∧ Below w.heap.size w w' :=
  Tier_in 10 2 2 3 128 w rfl
theorem Tier_two (w : World) : Calls Try.prog 21 #[.agg #[.int .i64 10, .int .i64 2, .int .i64 2, .int .i64 3], .int .i64 129] w fun e w' => e = .returned (.int .i64 1) ∧ Below w.heap.size w w' :=
  Tier_in 10 2 2 3 129 w rfl
theorem Tier_three (w : World) : Calls Try.prog 21 #[.agg #[.int .i64 10, .int .i64 2, .int .i64 2, .int .i64 3], .int .i64 161] w fun e w' => e = .returned (.int .i64 2) ∧ Below w.heap.size w w' :=
  Tier_in 10 2 2 3 161 w rfl
theorem Segments_one (w : World) : Calls Try.prog 12 #[.agg #[.int .i64 10, .int .i64 2, .int .i64 2, .int .i64 3]] w fun e w' => e = .returned (.int .i64 16) ∧ Below w.heap.size w w' :=
  Segments_yes 10 2 2 3 w rfl

set_option maxHeartbeats 1000000 in
theorem awake_any (w : World) : Calls Try.prog 14 #[] w fun e w' => e = .returned (.bool true) ∧ Below w.heap.size w w' := by
  go_enter Try.func14, Try.ntmps14
  go_wp2_with fail
  refine (some_any _).mono ?_
  rintro e w1 ⟨rfl, hb⟩
  have HB1 := Lib.hid hb
  clear hb
  go_wp2_with fail
  refine (Of_one _).mono ?_
  rintro e w2 ⟨rfl, hb⟩
  have HB2 := Lib.hid (HB1.out.trans (hb.mono HB1.out.size))
  clear hb HB1
  go_wp2_with fail
  refine (some_any _).mono ?_
  rintro e w3 ⟨rfl, hb⟩
  have HB3 := Lib.hid (HB2.out.trans (hb.mono HB2.out.size))
  clear hb HB2
  go_wp2_with fail
  refine (Of_two _).mono ?_
  rintro e w4 ⟨rfl, hb⟩
  have HB4 := Lib.hid (HB3.out.trans (hb.mono HB3.out.size))
  clear hb HB3
  go_wp2_with fail
  refine (some_any _).mono ?_
  rintro e w5 ⟨rfl, hb⟩
  have HB5 := Lib.hid (HB4.out.trans (hb.mono HB4.out.size))
  clear hb HB4
  go_wp2_with fail
  refine (Of_three _).mono ?_
  rintro e w6 ⟨rfl, hb⟩
  have HB6 := Lib.hid (HB5.out.trans (hb.mono HB5.out.size))
  clear hb HB5
  go_wp2_with fail
  refine (some_any _).mono ?_
  rintro e w7 ⟨rfl, hb⟩
  have HB7 := Lib.hid (HB6.out.trans (hb.mono HB6.out.size))
  clear hb HB6
  go_wp2_with fail
  refine (Tier_one _).mono ?_
  rintro e w8 ⟨rfl, hb⟩
  have HB8 := Lib.hid (HB7.out.trans (hb.mono HB7.out.size))
  clear hb HB7
  go_wp2_with fail
  refine (some_any _).mono ?_
  rintro e w9 ⟨rfl, hb⟩
  have HB9 := Lib.hid (HB8.out.trans (hb.mono HB8.out.size))
  clear hb HB8
  go_wp2_with fail
  refine (Tier_two _).mono ?_
  rintro e wa ⟨rfl, hb⟩
  have HBa := Lib.hid (HB9.out.trans (hb.mono HB9.out.size))
  clear hb HB9
  go_wp2_with fail
  refine (some_any _).mono ?_
  rintro e wb ⟨rfl, hb⟩
  have HBb := Lib.hid (HBa.out.trans (hb.mono HBa.out.size))
  clear hb HBa
  go_wp2_with fail
  refine (Tier_three _).mono ?_
  rintro e wc ⟨rfl, hb⟩
  have HBc := Lib.hid (HBb.out.trans (hb.mono HBb.out.size))
  clear hb HBb
  go_wp2_with fail
  refine (some_any _).mono ?_
  rintro e wd ⟨rfl, hb⟩
  have HBd := Lib.hid (HBc.out.trans (hb.mono HBc.out.size))
  clear hb HBc
  go_wp2_with fail
  refine (Segments_one _).mono ?_
  rintro e we ⟨rfl, hb⟩
  have HBe := Lib.hid (HBd.out.trans (hb.mono HBd.out.size))
  clear hb HBd
  go_wp2
  go_ret
  exact ⟨rfl, HBe.out⟩
end Go.Proofs.Ytfjcclgambkieaa
