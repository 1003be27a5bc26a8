/-
  The segment of any address, the first address of any segment, and where an address is, is as the document says, or it is refused. Conditions: none.
-/
import Derived.Test.YtfjcclgambkieaaAddrLaw4
import Derived.Test.YtfjcclgambkieaaAddrAwake
import Derived.Test.YtfjcclgambkieaaOpenAddr
import Derived.Test.YtfjcclgambkieaaRows
namespace Go.Proofs.Ytfjcclgambkieaa.addrSegments
open Go.ChangeShapes Go.WideShapes Go.ChangeAt Go.RowKit
set_option linter.unusedVariables false

set_option maxRecDepth 100000 in
set_option maxHeartbeats 2000000 in
theorem walk_bad (D L V S a g : Int) (w : World) (hm : mayB D L V S = false) :
    Calls Try.prog 5 #[.agg #[.int .i64 D, .int .i64 L, .int .i64 V, .int .i64 S], .int .i64 a, .int .i64 g] w fun e w' => e = .returned (.bool true) ∧ Below w.heap.size w w' := by
  have HM := Lib.hid hm
  clear hm
  go_enter Try.func5, Try.ntmps5
  go_wp2_with fail
  have G0 := Lib.hid (Geo.new w 23 D L V S)
  have HB0 := Lib.hid (Below.alloc (Below.refl w.heap.size w) (Nat.le_refl _) (.cells #[.int .i64 D, .int .i64 L, .int .i64 V, .int .i64 S] 23))
  with_reducible refine (Segment_bad _ _ _ _ _ _ HM.out).mono ?_
  rintro e w1 ⟨rfl, hb⟩
  have G1 := Lib.hid (G0.out.up hb)
  have HB1 := Lib.hid (HB0.out.trans (hb.mono HB0.out.size))
  clear hb HB0 G0
  obtain ⟨c0, c1, c2, c3⟩ := G1.out
  go_wp2_with fail
  with_reducible refine (First_bad _ _ _ _ _ _ HM.out).mono ?_
  rintro e w2 ⟨rfl, hb⟩
  have G2 := Lib.hid (G1.out.up hb)
  have HB2 := Lib.hid (HB1.out.trans (hb.mono HB1.out.size))
  clear hb HB1 G1 c0 c1 c2 c3
  obtain ⟨c0, c1, c2, c3⟩ := G2.out
  go_wp2_with fail
  with_reducible refine (Tier_bad _ _ _ _ _ _ HM.out).mono ?_
  rintro e w3 ⟨rfl, hb⟩
  have G3 := Lib.hid (G2.out.up hb)
  have HB3 := Lib.hid (HB2.out.trans (hb.mono HB2.out.size))
  clear hb HB2 G2 c0 c1 c2 c3
  obtain ⟨c0, c1, c2, c3⟩ := G3.out
  go_wp2_with fail
  with_reducible refine (refMay_any _ _ _ _ _ _ HM.out).mono ?_
  rintro e w4 ⟨rfl, hb⟩
  have HB4 := Lib.hid (HB3.out.trans (hb.mono HB3.out.size))
  clear hb HB3 c0 c1 c2 c3
  go_wp2_with fail
  with_reducible refine (awake_any _).mono ?_
  rintro e w5 ⟨rfl, hb⟩
  have HB5 := Lib.hid (HB4.out.trans (hb.mono HB4.out.size))
  clear hb
  go_wp2
  go_ret
  exact ⟨rfl, HB5.out⟩

set_option maxRecDepth 100000 in
set_option maxHeartbeats 4000000 in
theorem walk_may (D L V S a g : Int) (w : World) (hm : mayB D L V S = true) :
    Calls Try.prog 5 #[.agg #[.int .i64 D, .int .i64 L, .int .i64 V, .int .i64 S], .int .i64 a, .int .i64 g] w fun e w' => e = .returned (.bool true) ∧ Below w.heap.size w w' := by
  have HM := Lib.hid hm
  obtain ⟨n1, n2⟩ := segsN_bd hm
  obtain ⟨t, ht⟩ : ∃ t, inB 1 (16 * segsN D V S) a = t := ⟨_, rfl⟩
  obtain ⟨u, hu⟩ : ∃ u, inB 0 (segsN D V S - 1) g = u := ⟨_, rfl⟩
  have HT := Lib.hid ht
  have HU := Lib.hid hu
  obtain ⟨n, hn⟩ : ∃ n, segsN D V S = n := ⟨_, rfl⟩
  obtain ⟨x, hx⟩ : ∃ x, tierI D L V S a = x := ⟨_, rfl⟩
  have HX := Lib.hid hx
  rw [hn] at n1 n2 ht hu
  have HN := Lib.hid hn
  have hct : (t = false ∧ decide (a < 1) = true) ∨ (t = false ∧ decide (a < 1) = false ∧ decide (16 * n < a) = true) ∨ (t = true ∧ 1 ≤ a ∧ a ≤ 16 * n) := by
    cases t
    · by_cases h : a < 1
      · exact .inl ⟨rfl, by simpa using h⟩
      · exact .inr (.inl ⟨rfl, by simpa using h, by have := inB_no ht; simp; omega⟩)
    · exact .inr (.inr ⟨rfl, inB_yes ht⟩)
  have hcu : (u = false ∧ decide (g < 0) = true) ∨ (u = false ∧ decide (g < 0) = false ∧ decide (n ≤ g) = true) ∨ (u = true ∧ 0 ≤ g ∧ g < n) := by
    cases u
    · by_cases h : g < 0
      · exact .inl ⟨rfl, by simpa using h⟩
      · exact .inr (.inl ⟨rfl, by simpa using h, by have := inB_no hu; simp; omega⟩)
    · exact .inr (.inr ⟨rfl, by have := inB_yes hu; omega⟩)
  obtain ⟨s, hs⟩ : ∃ s, (if t = true then (a - 1) / 16 else 0) = s := ⟨_, rfl⟩
  obtain ⟨se, hse⟩ : ∃ s, (if t = true then (0 : Int) else 4) = s := ⟨_, rfl⟩
  obtain ⟨f, hf⟩ : ∃ s, (if u = true then 16 * g + 1 else 0) = s := ⟨_, rfl⟩
  obtain ⟨fe, hfe⟩ : ∃ s, (if u = true then (0 : Int) else 4) = s := ⟨_, rfl⟩
  have HS := Lib.hid hs
  have HSE := Lib.hid hse
  have HF := Lib.hid hf
  have HFE := Lib.hid hfe
  have HCT := Lib.hid hct
  have HCU := Lib.hid hcu
  clear hm ht hu hn hx hct hcu hs hse hf hfe
  go_enter Try.func5, Try.ntmps5
  go_wp2_with fail
  have G0 := Lib.hid (Geo.new w 23 D L V S)
  have HB0 := Lib.hid (Below.alloc (Below.refl w.heap.size w) (Nat.le_refl _) (.cells #[.int .i64 D, .int .i64 L, .int .i64 V, .int .i64 S] 23))
  with_reducible refine (Segment_in _ _ _ _ _ _ _ HM.out HT.out).mono ?_
  rintro e w1 ⟨rfl, hb⟩
  rw [HS.out, HSE.out]
  have G1 := Lib.hid (G0.out.up hb)
  have HB1 := Lib.hid (HB0.out.trans (hb.mono HB0.out.size))
  clear hb HB0 G0
  obtain ⟨c0, c1, c2, c3⟩ := G1.out
  go_wp2_with fail
  with_reducible refine (First_in _ _ _ _ _ _ _ HM.out HU.out).mono ?_
  rintro e w2 ⟨rfl, hb⟩
  rw [HF.out, HFE.out]
  have G2 := Lib.hid (G1.out.up hb)
  have HB2 := Lib.hid (HB1.out.trans (hb.mono HB1.out.size))
  clear hb HB1 G1 c0 c1 c2 c3
  obtain ⟨c0, c1, c2, c3⟩ := G2.out
  go_wp2_with fail
  with_reducible refine (Tier_in _ _ _ _ _ _ HM.out).mono ?_
  rintro e w3 ⟨rfl, hb⟩
  rw [HX.out]
  have G3 := Lib.hid (G2.out.up hb)
  have HB3 := Lib.hid (HB2.out.trans (hb.mono HB2.out.size))
  clear hb HB2 G2 c0 c1 c2 c3
  obtain ⟨c0, c1, c2, c3⟩ := G3.out
  go_wp2_with fail
  with_reducible refine (refMay_any _ _ _ _ _ _ HM.out).mono ?_
  rintro e w4 ⟨rfl, hb⟩
  have G4 := Lib.hid (G3.out.up hb)
  have HB4 := Lib.hid (HB3.out.trans (hb.mono HB3.out.size))
  clear hb HB3 c0 c1 c2 c3
  obtain ⟨c0, c1, c2, c3⟩ := G4.out
  go_wp2_with fail
  with_reducible refine (Count_any _ _ _ _ _ HM.out).mono ?_
  rintro e w5 ⟨rfl, hb⟩
  rw [HN.out]
  have G5 := Lib.hid (G4.out.up hb)
  have HB5 := Lib.hid (HB4.out.trans (hb.mono HB4.out.size))
  clear hb HB4 c0 c1 c2 c3
  obtain ⟨c0, c1, c2, c3⟩ := G5.out
  rcases HCT.out with ⟨rfl, t1⟩ | ⟨rfl, t1, t2⟩ | ⟨rfl, t1, t2⟩
  all_goals rcases HCU.out with ⟨rfl, k1⟩ | ⟨rfl, k1, k2⟩ | ⟨rfl, k1, k2⟩
  all_goals
    have hs := HS.out
    have hse := HSE.out
    have hf := HF.out
    have hfe := HFE.out
    simp only [Bool.false_eq_true, if_true, if_false] at hs hse hf hfe
    subst hs hse hf hfe
    go_wp2_with fail
    with_reducible refine (refTier_any _ _ _ _ _ _ HM.out).mono ?_
    rintro e w6 ⟨rfl, hb⟩
    rw [HX.out]
    have HB6 := Lib.hid (HB5.out.trans (hb.mono HB5.out.size))
    clear hb
    go_wp2_with fail
    with_reducible refine (awake_any _).mono ?_
    rintro e w7 ⟨rfl, hb⟩
    have HB7 := Lib.hid (HB6.out.trans (hb.mono HB6.out.size))
    clear hb
    go_wp2
    go_ret
    exact ⟨rfl, HB7.out⟩

theorem walk (D L V S a g : Int) (w : World) :
    Calls Try.prog 5 #[.agg #[.int .i64 D, .int .i64 L, .int .i64 V, .int .i64 S], .int .i64 a, .int .i64 g] w fun e w' => e = .returned (.bool true) ∧ Below w.heap.size w w' := by
  cases hm : mayB D L V S
  · exact walk_bad D L V S a g w hm
  · exact walk_may D L V S a g w hm

set_option maxRecDepth 100000 in
theorem lifted (os : Os) (started : os.Started) (H : Type) (enc : TypeId × Value → H) :
    ReturnsInHanded {} Try.checked os 5 .any (Rows.addrSegmentsSpec.pre6 enc Try.prog Try.f5 Rows.addrSegmentsRow.domain false) (Rows.addrSegmentsSpec.post enc Try.prog Try.f5 false true false false) := by
  refine returnsInHanded_of_change (C := Try.checked) own started (by kernel_rfl) Try.func5
    (ChangeSpec.witness6 (enc := enc) (C := Try.checked) false ⟨#[], #[.agg #[.int .i64 0, .int .i64 0, .int .i64 0, .int .i64 0], .int .i64 0, .int .i64 0], []⟩ 8 (by kernel_rfl) (by kernel_rfl) (by kernel_rfl) (by kernel_rfl)) ?_
  intro W base args ds gs before hval0 hW hcnd _
  have hval : ∀ (j : Nat) t v, Try.f5.params[j]? = some t → args[j]? = some v → Value.okWide Try.prog W .any base t v := hval0
  have hW' := hW
  obtain ⟨p, q, hA0, hV, rfl, hfz, hnd⟩ := hW
  have hA : DataW.TrodAll enc Try.prog W 0 (fun _ => true) true Try.f5.params.toList args.toList ds p := hA0
  rw [Try.params5] at hA hval
  obtain ⟨v0, vs0, d0, ds0, p0, q0, hargs, rfl, rfl, h0, r0⟩ := trodAll_cons hA
  obtain ⟨v1, vs1, d1, ds1, p1, q1, rfl, rfl, rfl, h1, r1⟩ := trodAll_cons r0
  obtain ⟨v2, vs2, d2, ds2, p2, q2, rfl, rfl, rfl, h2, r2⟩ := trodAll_cons r1
  obtain ⟨rfl, rfl, rfl⟩ := trodAll_nil r2
  obtain rfl : args = #[v0, v1, v2] := by cases args; simp_all
  obtain ⟨rfl, rfl⟩ := trodVars_none hV
  have lt0 : ∀ x ∈ p0, x.block < W.heap.size := by obtain ⟨m, hm⟩ := h0; exact DataW.trod_lt m _ _ _ hm
  obtain ⟨y0_0, y0_1, y0_2, y0_3, rfl⟩ := geo_in (hval 0 23 v0 rfl rfl) h0
  obtain ⟨x1, rfl, rfl, rfl, wx1⟩ := open_int Try.underlying3 (hval 1 3 v1 rfl rfl) h1
  have hx1 := bounds_i64 wx1
  obtain ⟨x2, rfl, rfl, rfl, wx2⟩ := open_int Try.underlying3 (hval 2 3 v2 rfl rfl) h2
  have hx2 := bounds_i64 wx2
  clear hA0 hval0
  refine (walk y0_0 y0_1 y0_2 y0_3 x1 x2 W).mono fun e W' ⟨he, bel⟩ => ?_
  subst he
  exact ⟨_, rfl, _, _, _, [], _, [], hW', trodAll_mk1 (shut_bool Try.underlying4 _), (trodAll_cons_mk (Below.trod laidOut (by kernel_rfl) (of_decide_eq_true (by kernel_rfl)) h0 bel lt0) (trodAll_cons_mk (shut_int Try.underlying3 wx1) (trodAll_cons_mk (shut_int Try.underlying3 wx2) trodAll_mk0))), rfl, bel.frame _, fun h => by cases h⟩

theorem over : Rows.addrSegmentsRow.holds Try.pinned (OpenSpec.ofChange Rows.addrSegmentsSpec) :=
  OpenClaim.holds_of_wide 5 Try.f5 rfl rfl rfl rfl rfl rfl rfl ⟨rfl, rfl, rfl, rfl, rfl⟩ rfl rfl rfl rfl rfl (by kernel_rfl) Try.func5 (by kernel_rfl)
    (of_decide_eq_true (by kernel_rfl)) (by unfold Func.isWrapper; first | (rw [if_pos (by decide +kernel)]; kernel_rfl) | (rw [if_neg (by decide +kernel)]; exact ⟨rfl, rfl⟩))
    (fun os started H enc _ => lifted os started H enc)

theorem proved : Rows.AddrSegmentsSaid := over
#print axioms proved
end Go.Proofs.Ytfjcclgambkieaa.addrSegments
