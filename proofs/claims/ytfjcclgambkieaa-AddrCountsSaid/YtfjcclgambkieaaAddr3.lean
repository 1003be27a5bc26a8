/-
  What Segment, First, Tier and Of of package addr do, one contract each.
-/
import Derived.Test.YtfjcclgambkieaaAddr2
namespace Go.Proofs.Ytfjcclgambkieaa
open Go.RowKit
set_option linter.unusedVariables false

theorem Segment_bad (D L V S a : Int) (w : World) (h : mayB D L V S = false) :
    Calls Try.prog 19 #[.agg #[.int .i64 D, .int .i64 L, .int .i64 V, .int .i64 S], .int .i64 a] w fun e w' => e = .returned (.tuple #[.int .i64 0, .int .i64 1]) ∧ Below w.heap.size w w' := by
  have H := Lib.hid h
  clear h
  go_enter Try.func19, Try.ntmps19
  go_wp2_with fail
  have HB0 := Lib.hid (Below.alloc (Below.refl w.heap.size w) (Nat.le_refl _) (.cells #[.int .i64 D, .int .i64 L, .int .i64 V, .int .i64 S] 23))
  refine (May_any _ _ _ _ _ _ H.out).mono ?_
  rintro e w1 ⟨rfl, hb1⟩
  have HB1 := Lib.hid (HB0.out.trans (hb1.mono HB0.out.size))
  clear hb1 HB0
  go_wp2
  go_ret2
  exact ⟨rfl, HB1.out⟩

set_option maxHeartbeats 400000 in
theorem Segment_in (D L V S a : Int) (t : Bool) (w : World) (h : mayB D L V S = true) (ht : inB 1 (16 * segsN D V S) a = t) :
    Calls Try.prog 19 #[.agg #[.int .i64 D, .int .i64 L, .int .i64 V, .int .i64 S], .int .i64 a] w fun e w' => e = .returned (.tuple #[.int .i64 (if t then (a - 1) / 16 else 0), .int .i64 (if t then 0 else 4)]) ∧ Below w.heap.size w w' := by
  have hsa : segsA D L V S = segsN D V S := by unfold segsA; rw [h]; rfl
  have HS := Lib.hid hsa
  have H := Lib.hid h
  have HT := Lib.hid ht
  clear h ht hsa
  go_enter Try.func19, Try.ntmps19
  go_wp2_with fail
  have G0 := Lib.hid (Geo.new w 23 D L V S)
  have HB0 := Lib.hid (Below.alloc (Below.refl w.heap.size w) (Nat.le_refl _) (.cells #[.int .i64 D, .int .i64 L, .int .i64 V, .int .i64 S] 23))
  refine (May_any _ _ _ _ _ _ H.out).mono ?_
  rintro e w1 ⟨rfl, hb1⟩
  have G1 := Lib.hid (G0.out.up hb1)
  have HB1 := Lib.hid (HB0.out.trans (hb1.mono HB0.out.size))
  clear hb1 HB0 G0
  obtain ⟨c0, c1, c2, c3⟩ := G1.out
  go_wp2_with fail
  refine (Blocks_any _ _ _ _ _).mono ?_
  rintro e w2 ⟨rfl, hb2⟩
  have HB2 := Lib.hid (HB1.out.trans (hb2.mono HB1.out.size))
  clear hb2 HB1 G1 c0 c1 c2 c3
  rw [HS.out]
  go_wp2_with fail
  refine (between_any _ _ _).mono ?_
  rintro e w3 ⟨a1, b1, rfl, t1, hb3⟩
  have T1 := Lib.hid t1
  have HB3 := Lib.hid (HB2.out.trans (hb3.mono HB2.out.size))
  clear hb3 HB2 t1
  go_wp2_with fail
  refine (in_any _ _ _ _ _ _ _ T1.out HT.out).mono ?_
  rintro e w4 ⟨rfl, rfl⟩
  cases t
  · go_wp2
    go_ret2
    exact ⟨rfl, HB3.out⟩
  · obtain ⟨k1, k2⟩ := inB_yes HT.out
    have k3 := (segsN_bd H.out).2
    have k4 : a ≤ 40000 := by omega
    clear k2 k3
    go_wp2
    go_ret2
    exact ⟨rfl, HB3.out⟩

theorem First_bad (D L V S a : Int) (w : World) (h : mayB D L V S = false) :
    Calls Try.prog 20 #[.agg #[.int .i64 D, .int .i64 L, .int .i64 V, .int .i64 S], .int .i64 a] w fun e w' => e = .returned (.tuple #[.int .i64 0, .int .i64 1]) ∧ Below w.heap.size w w' := by
  have H := Lib.hid h
  clear h
  go_enter Try.func20, Try.ntmps20
  go_wp2_with fail
  have HB0 := Lib.hid (Below.alloc (Below.refl w.heap.size w) (Nat.le_refl _) (.cells #[.int .i64 D, .int .i64 L, .int .i64 V, .int .i64 S] 23))
  refine (May_any _ _ _ _ _ _ H.out).mono ?_
  rintro e w1 ⟨rfl, hb1⟩
  have HB1 := Lib.hid (HB0.out.trans (hb1.mono HB0.out.size))
  clear hb1 HB0
  go_wp2
  go_ret2
  exact ⟨rfl, HB1.out⟩

set_option maxHeartbeats 400000 in
theorem First_in (D L V S s : Int) (t : Bool) (w : World) (h : mayB D L V S = true) (ht : inB 0 (segsN D V S - 1) s = t) :
    Calls Try.prog 20 #[.agg #[.int .i64 D, .int .i64 L, .int .i64 V, .int .i64 S], .int .i64 s] w fun e w' => e = .returned (.tuple #[.int .i64 (if t then 16 * s + 1 else 0), .int .i64 (if t then 0 else 4)]) ∧ Below w.heap.size w w' := by
  have hsa : segsA D L V S = segsN D V S := by unfold segsA; rw [h]; rfl
  have HS := Lib.hid hsa
  have H := Lib.hid h
  have HT := Lib.hid ht
  obtain ⟨sb1, sb2⟩ := segsN_bd h
  clear h ht hsa
  go_enter Try.func20, Try.ntmps20
  go_wp2_with fail
  have G0 := Lib.hid (Geo.new w 23 D L V S)
  have HB0 := Lib.hid (Below.alloc (Below.refl w.heap.size w) (Nat.le_refl _) (.cells #[.int .i64 D, .int .i64 L, .int .i64 V, .int .i64 S] 23))
  refine (May_any _ _ _ _ _ _ H.out).mono ?_
  rintro e w1 ⟨rfl, hb1⟩
  have G1 := Lib.hid (G0.out.up hb1)
  have HB1 := Lib.hid (HB0.out.trans (hb1.mono HB0.out.size))
  clear hb1 HB0 G0
  obtain ⟨c0, c1, c2, c3⟩ := G1.out
  go_wp2_with fail
  refine (Segments_any _ _ _ _ _).mono ?_
  rintro e w2 ⟨rfl, hb2⟩
  have HB2 := Lib.hid (HB1.out.trans (hb2.mono HB1.out.size))
  clear hb2 HB1 G1 c0 c1 c2 c3
  rw [HS.out]
  go_wp2_with fail
  refine (between_any _ _ _).mono ?_
  rintro e w3 ⟨a1, b1, rfl, t1, hb3⟩
  have T1 := Lib.hid t1
  have HB3 := Lib.hid (HB2.out.trans (hb3.mono HB2.out.size))
  clear hb3 HB2 t1
  go_wp2_with fail
  refine (in_any _ _ _ _ _ _ _ T1.out HT.out).mono ?_
  rintro e w4 ⟨rfl, rfl⟩
  cases t
  · go_wp2
    go_ret2
    exact ⟨rfl, HB3.out⟩
  · obtain ⟨k1, k2⟩ := inB_yes HT.out
    go_wp2_with fail
    refine (firstBlock_any _ _ (by omega) (by omega)).mono ?_
    rintro e w4 ⟨rfl, rfl⟩
    go_wp2
    go_ret2
    exact ⟨rfl, HB3.out⟩

/-- the tier of an address -/
def tierI (D L V S a : Int) : Int := if inB 1 (16 * segsN D V S) a then (if (a - 1) / 16 < D - L then 0 else if (a - 1) / 16 < D then 1 else 2) else -1
theorem Tier_bad (D L V S a : Int) (w : World) (h : mayB D L V S = false) :
    Calls Try.prog 21 #[.agg #[.int .i64 D, .int .i64 L, .int .i64 V, .int .i64 S], .int .i64 a] w fun e w' => e = .returned (.int .i64 (-1)) ∧ Below w.heap.size w w' := by
  have H := Lib.hid h
  clear h
  go_enter Try.func21, Try.ntmps21
  go_wp2_with fail
  have HB0 := Lib.hid (Below.alloc (Below.refl w.heap.size w) (Nat.le_refl _) (.cells #[.int .i64 D, .int .i64 L, .int .i64 V, .int .i64 S] 23))
  refine (Segment_bad _ _ _ _ _ _ H.out).mono ?_
  rintro e w1 ⟨rfl, hb1⟩
  have HB1 := Lib.hid (HB0.out.trans (hb1.mono HB0.out.size))
  clear hb1 HB0
  go_wp2
  go_ret
  exact ⟨rfl, HB1.out⟩
set_option maxHeartbeats 400000 in
theorem Tier_in (D L V S a : Int) (w : World) (h : mayB D L V S = true) :
    Calls Try.prog 21 #[.agg #[.int .i64 D, .int .i64 L, .int .i64 V, .int .i64 S], .int .i64 a] w fun e w' => e = .returned (.int .i64 (tierI D L V S a)) ∧ Below w.heap.size w w' := by
  obtain ⟨m1, m2, m3, m4, m5, m6, m7, m8⟩ := mayB_yes h
  have H := Lib.hid h
  clear h
  go_enter Try.func21, Try.ntmps21
  go_wp2_with fail
  have G0 := Lib.hid (Geo.new w 23 D L V S)
  have HB0 := Lib.hid (Below.alloc (Below.refl w.heap.size w) (Nat.le_refl _) (.cells #[.int .i64 D, .int .i64 L, .int .i64 V, .int .i64 S] 23))
  cases ht : inB 1 (16 * segsN D V S) a
  · refine (Segment_in _ _ _ _ _ _ _ H.out ht).mono ?_
    rintro e w1 ⟨rfl, hb1⟩
    have HB1 := Lib.hid (HB0.out.trans (hb1.mono HB0.out.size))
    have HE : Hid (tierI D L V S a = -1) := by unfold tierI; rw [ht]; rfl
    clear hb1 HB0 ht
    go_wp2
    go_ret
    exact ⟨ret_int HE.out.symm, HB1.out⟩
  · refine (Segment_in _ _ _ _ _ _ _ H.out ht).mono ?_
    rintro e w1 ⟨rfl, hb1⟩
    have G1 := Lib.hid (G0.out.up hb1)
    have HB1 := Lib.hid (HB0.out.trans (hb1.mono HB0.out.size))
    have HE : Hid (tierI D L V S a = if (a - 1) / 16 < D - L then 0 else if (a - 1) / 16 < D then 1 else 2) := by unfold tierI; rw [ht]; rfl
    clear hb1 HB0 ht
    obtain ⟨c0, c1, c2, c3⟩ := G1.out
    simp only [if_true]
    generalize (a - 1) / 16 = s at *
    by_cases h1 : s < D - L
    · have HE' : Hid (tierI D L V S a = 0) := by rw [HE.out, if_pos h1]; rfl
      go_wp2
      go_ret
      exact ⟨ret_int HE'.out.symm, HB1.out⟩
    · by_cases h2 : s < D
      · have HE' : Hid (tierI D L V S a = 1) := by rw [HE.out, if_neg h1, if_pos h2]; rfl
        go_wp2
        go_ret
        exact ⟨ret_int HE'.out.symm, HB1.out⟩
      · have HE' : Hid (tierI D L V S a = 2) := by rw [HE.out, if_neg h1, if_neg h2]; rfl
        go_wp2
        go_ret
        exact ⟨ret_int HE'.out.symm, HB1.out⟩
end Go.Proofs.Ytfjcclgambkieaa
