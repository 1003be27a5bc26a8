/-
  Each address is one of the 16 from its segment's first one on, in that order. Conditions: none.
-/
import Derived.Test.YtfjcclgambkieaaAddrLaw
import Derived.Test.YtfjcclgambkieaaAddrAwake
import Derived.Test.YtfjcclgambkieaaOpenAddr
import Derived.Test.YtfjcclgambkieaaRows
namespace Go.Proofs.Ytfjcclgambkieaa.addrWithin
open Go.ChangeShapes Go.WideShapes Go.ChangeAt Go.RowKit
set_option linter.unusedVariables false

set_option maxRecDepth 100000 in
set_option maxHeartbeats 2000000 in
theorem walk (D L V S u : Int) (w : World) (u0 : 0 ≤ u) (u1 : u ≤ 65535) :
    Calls Try.prog 8 #[.agg #[.int .i64 D, .int .i64 L, .int .i64 V, .int .i64 S], .int .u16 u] w fun e w' => e = .returned (.bool true) ∧ Below w.heap.size w w' := by
  obtain ⟨n, hn⟩ : ∃ n, segsA D L V S = n := ⟨_, rfl⟩
  have HN := Lib.hid hn
  cases hm : mayB D L V S
  · obtain rfl : n = 0 := by rw [← hn, segsA, hm]; rfl
    have HM := Lib.hid hm
    clear hm hn
    go_enter Try.func8, Try.ntmps8
    go_wp2_with fail
    have G0 := Lib.hid (Geo.new w 23 D L V S)
    have HB0 := Lib.hid (Below.alloc (Below.refl w.heap.size w) (Nat.le_refl _) (.cells #[.int .i64 D, .int .i64 L, .int .i64 V, .int .i64 S] 23))
    refine (Blocks_any _ _ _ _ _).mono ?_
    rintro e w1 ⟨rfl, hb1⟩
    rw [HN.out]
    have G1 := Lib.hid (G0.out.up hb1)
    have HB1 := Lib.hid (HB0.out.trans (hb1.mono HB0.out.size))
    clear hb1 HB0 G0
    obtain ⟨c0, c1, c2, c3⟩ := G1.out
    go_wp2_with fail
    refine (refMay_any _ _ _ _ _ _ HM.out).mono ?_
    rintro e w2 ⟨rfl, hb2⟩
    have HB2 := Lib.hid (HB1.out.trans (hb2.mono HB1.out.size))
    clear hb2
    go_wp2_with fail
    refine (awake_any _).mono ?_
    rintro e w3 ⟨rfl, hb3⟩
    have HB3 := Lib.hid (HB2.out.trans (hb3.mono HB2.out.size))
    clear hb3
    go_wp2
    go_ret
    exact ⟨rfl, HB3.out⟩
  · have hs : segsN D V S = n := by rw [← hn, segsA, hm]; rfl
    have HS := Lib.hid hs
    have hsb := segsN_bd hm
    rw [hs] at hsb
    obtain ⟨n1, n2⟩ := hsb
    obtain ⟨r, hr⟩ : ∃ r, u % (16 * n) = r := ⟨_, rfl⟩
    have r0 : 0 ≤ r := by rw [← hr]; exact Int.emod_nonneg _ (by omega)
    have r1 : r < 16 * n := by rw [← hr]; exact Int.emod_lt_of_pos _ (by omega)
    have r3 : r ≤ 40000 := by omega
    have HR := Lib.hid hr
    have e0 : 0 ≤ u % (16 * n) := by rw [hr]; exact r0
    have e1 : u % (16 * n) ≤ 40000 := by rw [hr]; exact r3
    have hin : inB 1 (16 * segsN D V S) (1 + r) = true := by rw [hs]; exact inB_mk (by omega) (by omega)
    have HIN := Lib.hid hin
    have HM := Lib.hid hm
    obtain ⟨s, hsr⟩ : ∃ s, (1 + r - 1) / 16 = s := ⟨_, rfl⟩
    obtain ⟨o, ho⟩ : ∃ o, (1 + r - 1) % 16 = o := ⟨_, rfl⟩
    have hin2 : inB 0 (segsN D V S - 1) s = true := by rw [hs]; exact inB_mk (by omega) (by omega)
    have HIN2 := Lib.hid hin2
    have o0 : 0 ≤ o := by omega
    have o1 : o < 16 := by omega
    have ho2 : 1 + r - (16 * s + 1) = o := by omega
    have s0 : 0 ≤ s := by omega
    have s1 : s ≤ 4096 := by omega
    have HO2 := Lib.hid ho2
    have HSR := Lib.hid hsr
    have HO := Lib.hid ho
    have hq := IntWalk.i64_in (1 + r - (16 * s + 1)) (by omega)
    rw [ho2] at hq
    clear hm hn hs hin hin2 hsr ho ho2 r1
    obtain ⟨v, hv⟩ : ∃ v, volI D S s = v := ⟨_, rfl⟩
    obtain ⟨g, hg⟩ : ∃ g, segI D S s = g := ⟨_, rfl⟩
    have HV := Lib.hid hv
    have HG := Lib.hid hg
    clear hr hv hg
    go_enter Try.func8, Try.ntmps8
    go_wp2_with fail
    have G0 := Lib.hid (Geo.new w 23 D L V S)
    have HB0 := Lib.hid (Below.alloc (Below.refl w.heap.size w) (Nat.le_refl _) (.cells #[.int .i64 D, .int .i64 L, .int .i64 V, .int .i64 S] 23))
    refine (Blocks_any _ _ _ _ _).mono ?_
    rintro e w1 ⟨rfl, hb1⟩
    rw [HN.out]
    have G1 := Lib.hid (G0.out.up hb1)
    have HB1 := Lib.hid (HB0.out.trans (hb1.mono HB0.out.size))
    clear hb1 HB0 G0
    obtain ⟨c0, c1, c2, c3⟩ := G1.out
    go_wp2_with fail
    rw [HR.out]
    with_reducible refine (Segment_in _ _ _ _ _ _ _ HM.out HIN.out).mono ?_
    rintro e w2 ⟨rfl, hb2⟩
    simp only [if_true]
    rw [HSR.out]
    have G2 := Lib.hid (G1.out.up hb2)
    have HB2 := Lib.hid (HB1.out.trans (hb2.mono HB1.out.size))
    clear hb2 c0 c1 c2 c3
    obtain ⟨c0, c1, c2, c3⟩ := G2.out
    go_wp2_with fail
    with_reducible refine (First_in _ _ _ _ _ _ _ HM.out HIN2.out).mono ?_
    rintro e w3 ⟨rfl, hb3⟩
    simp only [if_true]
    have G3 := Lib.hid (G2.out.up hb3)
    have HB3 := Lib.hid (HB2.out.trans (hb3.mono HB2.out.size))
    clear hb3 c0 c1 c2 c3
    obtain ⟨c0, c1, c2, c3⟩ := G3.out
    go_wp2_with fail
    refine (Where_in _ _ _ _ _ _ _ HM.out HIN.out).mono ?_
    rintro e w4 ⟨rfl, hb4⟩
    simp only [if_true]
    rw [HSR.out, HO.out, HV.out, HG.out]
    have HB4 := Lib.hid (HB3.out.trans (hb4.mono HB3.out.size))
    have hs4 := HB4.out.size
    clear hb4 c0 c1 c2 c3
    go_wp2_with fail
    refine (awake_any _).mono ?_
    rintro e w5 ⟨rfl, hb5⟩
    have HB5 : Hid (Below w.heap.size w w5) := (HB4.out.alloc hs4 _).trans (hb5.mono (by simp; omega))
    clear hb5
    go_wp2
    go_ret
    exact ⟨rfl, HB5.out⟩

set_option maxRecDepth 100000 in
theorem lifted (os : Os) (started : os.Started) (H : Type) (enc : TypeId × Value → H) :
    ReturnsInHanded {} Try.checked os 8 .any (Rows.addrWithinSpec.pre6 enc Try.prog Try.f8 Rows.addrWithinRow.domain false) (Rows.addrWithinSpec.post enc Try.prog Try.f8 false true false false) := by
  refine returnsInHanded_of_change (C := Try.checked) own started (by kernel_rfl) Try.func8
    (ChangeSpec.witness6 (enc := enc) (C := Try.checked) false ⟨#[], #[.agg #[.int .i64 0, .int .i64 0, .int .i64 0, .int .i64 0], .int .u16 0], []⟩ 8 (by kernel_rfl) (by kernel_rfl) (by kernel_rfl) (by kernel_rfl)) ?_
  intro W base args ds gs before hval0 hW hcnd _
  have hval : ∀ (j : Nat) t v, Try.f8.params[j]? = some t → args[j]? = some v → Value.okWide Try.prog W .any base t v := hval0
  have hW' := hW
  obtain ⟨p, q, hA0, hV, rfl, hfz, hnd⟩ := hW
  have hA : DataW.TrodAll enc Try.prog W 0 (fun _ => true) true Try.f8.params.toList args.toList ds p := hA0
  rw [Try.params8] at hA hval
  obtain ⟨v0, vs0, d0, ds0, p0, q0, hargs, rfl, rfl, h0, r0⟩ := trodAll_cons hA
  obtain ⟨v1, vs1, d1, ds1, p1, q1, rfl, rfl, rfl, h1, r1⟩ := trodAll_cons r0
  obtain ⟨rfl, rfl, rfl⟩ := trodAll_nil r1
  obtain rfl : args = #[v0, v1] := by cases args; simp_all
  obtain ⟨rfl, rfl⟩ := trodVars_none hV
  have lt0 : ∀ x ∈ p0, x.block < W.heap.size := by obtain ⟨m, hm⟩ := h0; exact DataW.trod_lt m _ _ _ hm
  obtain ⟨y0_0, y0_1, y0_2, y0_3, rfl⟩ := geo_in (hval 0 23 v0 rfl rfl) h0
  obtain ⟨x1, rfl, rfl, rfl, wx1⟩ := open_int Try.underlying41 (hval 1 41 v1 rfl rfl) h1
  have hx1 := bounds_u16 wx1
  clear hA0 hval0
  refine (walk y0_0 y0_1 y0_2 y0_3 x1 W hx1.1 hx1.2).mono fun e W' ⟨he, bel⟩ => ?_
  subst he
  exact ⟨_, rfl, _, _, _, [], _, [], hW', trodAll_mk1 (shut_bool Try.underlying4 _), (trodAll_cons_mk (Below.trod laidOut (by kernel_rfl) (of_decide_eq_true (by kernel_rfl)) h0 bel lt0) (trodAll_cons_mk (shut_int Try.underlying41 wx1) trodAll_mk0)), rfl, bel.frame _, fun h => by cases h⟩

theorem over : Rows.addrWithinRow.holds Try.pinned (OpenSpec.ofChange Rows.addrWithinSpec) :=
  OpenClaim.holds_of_wide 8 Try.f8 rfl rfl rfl rfl rfl rfl rfl ⟨rfl, rfl, rfl, rfl, rfl⟩ rfl rfl rfl rfl rfl (by kernel_rfl) Try.func8 (by kernel_rfl)
    (of_decide_eq_true (by kernel_rfl)) (by unfold Func.isWrapper; first | (rw [if_pos (by decide +kernel)]; kernel_rfl) | (rw [if_neg (by decide +kernel)]; exact ⟨rfl, rfl⟩))
    (fun os started H enc _ => lifted os started H enc)

theorem proved : Rows.AddrWithinSaid := over
#print axioms proved
end Go.Proofs.Ytfjcclgambkieaa.addrWithin
