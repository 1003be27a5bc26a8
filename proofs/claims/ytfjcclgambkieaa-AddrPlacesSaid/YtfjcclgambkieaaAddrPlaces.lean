/-
  The address of any place, and the place of any address, in any geometry, is the document's, or it is refused with its error. Conditions: none.
-/
import Derived.Test.YtfjcclgambkieaaAddrLaw2
import Derived.Test.YtfjcclgambkieaaAddrLaw3
import Derived.Test.YtfjcclgambkieaaAddrAwake
import Derived.Test.YtfjcclgambkieaaOpenAddr
import Derived.Test.YtfjcclgambkieaaRows
namespace Go.Proofs.Ytfjcclgambkieaa.addrPlaces
open Go.ChangeShapes Go.WideShapes Go.ChangeAt Go.RowKit
set_option linter.unusedVariables false

theorem addr_pos {D L V S v s o : Int} (hm : mayB D L V S = true) (h : placeB D V S v s o = true) : 0 < addrI D S v s o ∧ addrI D S v s o ≤ 40000 := by
  rw [placeB, Bool.and_eq_true, Bool.and_eq_true] at h
  have h1 := first_lt hm h.1.1 h.1.2
  have h2 := inB_yes h.2
  have h3 := segsN_bd hm
  unfold addrI
  omega

set_option maxRecDepth 100000 in
set_option maxHeartbeats 2000000 in
theorem walk_bad (D L V S v s o a : Int) (w : World) (hm : mayB D L V S = false) :
    Calls Try.prog 4 #[.agg #[.int .i64 D, .int .i64 L, .int .i64 V, .int .i64 S], .agg #[.int .i64 v, .int .i64 s, .int .i64 o], .int .i64 a] w fun e w' => e = .returned (.bool true) ∧ Below w.heap.size w w' := by
  have HM := Lib.hid hm
  clear hm
  go_enter Try.func4, Try.ntmps4
  go_wp2_with fail
  have G0 := Lib.hid ((Geo.new w 23 D L V S).up (Below.alloc (Below.refl _ _) (Nat.le_refl _) (.cells #[.int .i64 v, .int .i64 s, .int .i64 o] 28)))
  have HB0 := Lib.hid (Below.alloc (Below.alloc (Below.refl w.heap.size w) (Nat.le_refl _) (.cells #[.int .i64 D, .int .i64 L, .int .i64 V, .int .i64 S] 23)) (by simp) (.cells #[.int .i64 v, .int .i64 s, .int .i64 o] 28))
  with_reducible refine (Of_bad _ _ _ _ _ _ _ _ HM.out).mono ?_
  rintro e w1 ⟨rfl, hb⟩
  have G1 := Lib.hid (G0.out.up hb)
  have HB1 := Lib.hid (HB0.out.trans (hb.mono HB0.out.size))
  clear hb HB0 G0
  obtain ⟨c0, c1, c2, c3⟩ := G1.out
  go_wp2_with fail
  with_reducible refine (Where_bad _ _ _ _ _ _ HM.out).mono ?_
  rintro e w2 ⟨rfl, hb⟩
  have G2 := Lib.hid (G1.out.up hb)
  have HB2 := Lib.hid (HB1.out.trans (hb.mono HB1.out.size))
  have hs2 := HB2.out.size
  clear hb HB1 G1 c0 c1 c2 c3
  obtain ⟨c0, c1, c2, c3⟩ := G2.out
  have hl2 := World.block_lt_of_cell? w2 _ c0
  go_wp2_with fail
  with_reducible refine (refMay_any _ _ _ _ _ _ HM.out).mono ?_
  rintro e w3 ⟨rfl, hb⟩
  have HB3 : Hid (Below w.heap.size w w3) := (HB2.out.alloc hs2 _).trans (hb.mono (by simp; omega))
  have P3 := Lib.hid ((Plc.new w2 28 0 0 0).up hb)
  clear hb c0 c1 c2 c3
  obtain ⟨d0, d1, d2⟩ := P3.out
  go_wp2_with fail
  with_reducible refine (awake_any _).mono ?_
  rintro e w4 ⟨rfl, hb⟩
  have HB4 := Lib.hid (HB3.out.trans (hb.mono HB3.out.size))
  clear hb
  go_wp2
  go_ret
  exact ⟨rfl, HB4.out⟩

theorem refOf_any (D L V S v s o : Int) (t : Bool) (w : World) (h : mayB D L V S = true) (ht : placeB D V S v s o = t) :
    Calls Try.prog 17 #[.agg #[.int .i64 D, .int .i64 L, .int .i64 V, .int .i64 S], .agg #[.int .i64 v, .int .i64 s, .int .i64 o]] w fun e w' => e = .returned (.int .i64 (if t then addrI D S v s o else 0)) ∧ Below w.heap.size w w' := by
  cases t
  · exact refOf_no D L V S v s o w h ht
  · exact refOf_yes D L V S v s o w h ht

set_option maxRecDepth 100000 in
set_option maxHeartbeats 4000000 in
theorem walk_may (D L V S v s o a : Int) (w : World) (hm : mayB D L V S = true) :
    Calls Try.prog 4 #[.agg #[.int .i64 D, .int .i64 L, .int .i64 V, .int .i64 S], .agg #[.int .i64 v, .int .i64 s, .int .i64 o], .int .i64 a] w fun e w' => e = .returned (.bool true) ∧ Below w.heap.size w w' := by
  have HM := Lib.hid hm
  obtain ⟨t, ht⟩ : ∃ t, placeB D V S v s o = t := ⟨_, rfl⟩
  obtain ⟨u, hu⟩ : ∃ u, inB 1 (16 * segsN D V S) a = u := ⟨_, rfl⟩
  have HT := Lib.hid ht
  have HU := Lib.hid hu
  obtain ⟨x, hx⟩ : ∃ x, (if t = true then addrI D S v s o else 0) = x := ⟨_, rfl⟩
  obtain ⟨xe, hxe⟩ : ∃ s, (if t = true then (0 : Int) else 4) = s := ⟨_, rfl⟩
  obtain ⟨y0, hy0⟩ : ∃ y, (if u = true then volI D S ((a - 1) / 16) else 0) = y := ⟨_, rfl⟩
  obtain ⟨y1, hy1⟩ : ∃ y, (if u = true then segI D S ((a - 1) / 16) else 0) = y := ⟨_, rfl⟩
  obtain ⟨y2, hy2⟩ : ∃ y, (if u = true then (a - 1) % 16 else 0) = y := ⟨_, rfl⟩
  obtain ⟨ye, hye⟩ : ∃ y, (if u = true then (0 : Int) else 4) = y := ⟨_, rfl⟩
  have hct : (t = false ∧ x = 0 ∧ xe = 4) ∨ (t = true ∧ 0 < x ∧ x ≤ 40000 ∧ xe = 0) := by
    cases t
    · exact .inl ⟨rfl, hx.symm, hxe.symm⟩
    · have := addr_pos hm ht
      simp only [if_true] at hx
      rw [hx] at this
      exact .inr ⟨rfl, this.1, this.2, hxe.symm⟩
  have hcu : (u = false ∧ ye = 4) ∨ (u = true ∧ ye = 0) := by
    cases u
    · exact .inl ⟨rfl, hye.symm⟩
    · exact .inr ⟨rfl, hye.symm⟩
  have HX := Lib.hid hx
  have HXE := Lib.hid hxe
  have HY0 := Lib.hid hy0
  have HY1 := Lib.hid hy1
  have HY2 := Lib.hid hy2
  have HYE := Lib.hid hye
  have HCT := Lib.hid hct
  have HCU := Lib.hid hcu
  clear hm ht hu hx hxe hy0 hy1 hy2 hye hct hcu
  go_enter Try.func4, Try.ntmps4
  go_wp2_with fail
  have G0 := Lib.hid ((Geo.new w 23 D L V S).up (Below.alloc (Below.refl _ _) (Nat.le_refl _) (.cells #[.int .i64 v, .int .i64 s, .int .i64 o] 28)))
  have P0 := Lib.hid (Plc.new (w.alloc (.cells #[.int .i64 D, .int .i64 L, .int .i64 V, .int .i64 S] 23)) 28 v s o)
  rw [World.alloc_size'] at P0
  have HB0 := Lib.hid (Below.alloc (Below.alloc (Below.refl w.heap.size w) (Nat.le_refl _) (.cells #[.int .i64 D, .int .i64 L, .int .i64 V, .int .i64 S] 23)) (by simp) (.cells #[.int .i64 v, .int .i64 s, .int .i64 o] 28))
  with_reducible refine (Of_in _ _ _ _ _ _ _ _ _ HM.out HT.out).mono ?_
  rintro e w1 ⟨rfl, hb⟩
  rw [HX.out, HXE.out]
  have G1 := Lib.hid (G0.out.up hb)
  have P1 := Lib.hid (P0.out.up hb)
  have HB1 := Lib.hid (HB0.out.trans (hb.mono HB0.out.size))
  clear hb HB0 G0 P0
  obtain ⟨c0, c1, c2, c3⟩ := G1.out
  go_wp2_with fail
  with_reducible refine (Where_in _ _ _ _ _ _ _ HM.out HU.out).mono ?_
  rintro e w2 ⟨rfl, hb⟩
  rw [HY0.out, HY1.out, HY2.out, HYE.out]
  have G2 := Lib.hid (G1.out.up hb)
  have P2 := Lib.hid (P1.out.up hb)
  have HB2 := Lib.hid (HB1.out.trans (hb.mono HB1.out.size))
  have hs2 := HB2.out.size
  clear hb HB1 G1 P1 c0 c1 c2 c3
  obtain ⟨c0, c1, c2, c3⟩ := G2.out
  have hl2 := World.block_lt_of_cell? w2 _ c0
  go_wp2_with fail
  with_reducible refine (refMay_any _ _ _ _ _ _ HM.out).mono ?_
  rintro e w3 ⟨rfl, hb⟩
  have hb' : Below w2.heap.size w2 w3 := ((Below.refl _ w2).alloc (Nat.le_refl _) _).trans (hb.mono (by simp))
  have HB3 : Hid (Below w.heap.size w w3) := HB2.out.trans (hb'.mono hs2)
  have R3 := Lib.hid ((Plc.new w2 28 y0 y1 y2).up hb)
  have G3 := Lib.hid (G2.out.up hb')
  have P3 := Lib.hid (P2.out.up hb')
  clear hb hb' c0 c1 c2 c3 G2 P2 HB2
  obtain ⟨c0, c1, c2, c3⟩ := G3.out
  obtain ⟨d0, d1, d2⟩ := P3.out
  go_wp2_with fail
  with_reducible refine (refOf_any _ _ _ _ _ _ _ _ _ HM.out HT.out).mono ?_
  rintro e w4 ⟨rfl, hb⟩
  rw [HX.out]
  have R4 := Lib.hid (R3.out.up hb)
  have G4 := Lib.hid (G3.out.up hb)
  have HB4 := Lib.hid (HB3.out.trans (hb.mono HB3.out.size))
  clear hb c0 c1 c2 c3 d0 d1 d2 G3 P3 R3 HB3
  obtain ⟨c0, c1, c2, c3⟩ := G4.out
  go_wp2_with fail
  with_reducible refine (refWhere_any _ _ _ _ _ _ _ HM.out HU.out).mono ?_
  rintro e w5 ⟨rfl, hb⟩
  rw [HY0.out, HY1.out, HY2.out]
  have R5 := Lib.hid (R4.out.up hb)
  have HB5 := Lib.hid (HB4.out.trans (hb.mono HB4.out.size))
  have hs5 := HB5.out.size
  clear hb c0 c1 c2 c3 G4 R4 HB4
  obtain ⟨d0, d1, d2⟩ := R5.out
  have hl5 := World.block_lt_of_cell? w5 _ d0
  rcases HCT.out with ⟨rfl, rfl, rfl⟩ | ⟨rfl, x0, x1, rfl⟩
  all_goals rcases HCU.out with ⟨rfl, rfl⟩ | ⟨rfl, rfl⟩
  all_goals
    go_wp2_with fail
    with_reducible refine (awake_any _).mono ?_
    rintro e w6 ⟨rfl, hb⟩
    have HB6 : Hid (Below w.heap.size w w6) := (HB5.out.alloc hs5 _).trans (hb.mono (by simp; omega))
    clear hb
    go_wp2
    go_ret
    exact ⟨rfl, HB6.out⟩

theorem walk (D L V S v s o a : Int) (w : World) :
    Calls Try.prog 4 #[.agg #[.int .i64 D, .int .i64 L, .int .i64 V, .int .i64 S], .agg #[.int .i64 v, .int .i64 s, .int .i64 o], .int .i64 a] w fun e w' => e = .returned (.bool true) ∧ Below w.heap.size w w' := by
  cases hm : mayB D L V S
  · exact walk_bad D L V S v s o a w hm
  · exact walk_may D L V S v s o a w hm

set_option maxRecDepth 100000 in
theorem lifted (os : Os) (started : os.Started) (H : Type) (enc : TypeId × Value → H) :
    ReturnsInHanded {} Try.checked os 4 .any (Rows.addrPlacesSpec.pre6 enc Try.prog Try.f4 Rows.addrPlacesRow.domain false) (Rows.addrPlacesSpec.post enc Try.prog Try.f4 false true false false) := by
  refine returnsInHanded_of_change (C := Try.checked) own started (by kernel_rfl) Try.func4
    (ChangeSpec.witness6 (enc := enc) (C := Try.checked) false ⟨#[], #[.agg #[.int .i64 0, .int .i64 0, .int .i64 0, .int .i64 0], .agg #[.int .i64 0, .int .i64 0, .int .i64 0], .int .i64 0], []⟩ 8 (by kernel_rfl) (by kernel_rfl) (by kernel_rfl) (by kernel_rfl)) ?_
  intro W base args ds gs before hval0 hW hcnd _
  have hval : ∀ (j : Nat) t v, Try.f4.params[j]? = some t → args[j]? = some v → Value.okWide Try.prog W .any base t v := hval0
  have hW' := hW
  obtain ⟨p, q, hA0, hV, rfl, hfz, hnd⟩ := hW
  have hA : DataW.TrodAll enc Try.prog W 0 (fun _ => true) true Try.f4.params.toList args.toList ds p := hA0
  rw [Try.params4] at hA hval
  obtain ⟨v0, vs0, d0, ds0, p0, q0, hargs, rfl, rfl, h0, r0⟩ := trodAll_cons hA
  obtain ⟨v1, vs1, d1, ds1, p1, q1, rfl, rfl, rfl, h1, r1⟩ := trodAll_cons r0
  obtain ⟨v2, vs2, d2, ds2, p2, q2, rfl, rfl, rfl, h2, r2⟩ := trodAll_cons r1
  obtain ⟨rfl, rfl, rfl⟩ := trodAll_nil r2
  obtain rfl : args = #[v0, v1, v2] := by cases args; simp_all
  obtain ⟨rfl, rfl⟩ := trodVars_none hV
  have lt0 : ∀ x ∈ p0, x.block < W.heap.size := by obtain ⟨m, hm⟩ := h0; exact DataW.trod_lt m _ _ _ hm
  obtain ⟨y0_0, y0_1, y0_2, y0_3, rfl⟩ := geo_in (hval 0 23 v0 rfl rfl) h0
  have lt1 : ∀ x ∈ p1, x.block < W.heap.size := by obtain ⟨m, hm⟩ := h1; exact DataW.trod_lt m _ _ _ hm
  obtain ⟨y1_0, y1_1, y1_2, rfl⟩ := place_in (hval 1 28 v1 rfl rfl) h1
  obtain ⟨x2, rfl, rfl, rfl, wx2⟩ := open_int Try.underlying3 (hval 2 3 v2 rfl rfl) h2
  have hx2 := bounds_i64 wx2
  clear hA0 hval0
  refine (walk y0_0 y0_1 y0_2 y0_3 y1_0 y1_1 y1_2 x2 W).mono fun e W' ⟨he, bel⟩ => ?_
  subst he
  exact ⟨_, rfl, _, _, _, [], _, [], hW', trodAll_mk1 (shut_bool Try.underlying4 _), (trodAll_cons_mk (Below.trod laidOut (by kernel_rfl) (of_decide_eq_true (by kernel_rfl)) h0 bel lt0) (trodAll_cons_mk (Below.trod laidOut (by kernel_rfl) (of_decide_eq_true (by kernel_rfl)) h1 bel lt1) (trodAll_cons_mk (shut_int Try.underlying3 wx2) trodAll_mk0))), rfl, bel.frame _, fun h => by cases h⟩

theorem over : Rows.addrPlacesRow.holds Try.pinned (OpenSpec.ofChange Rows.addrPlacesSpec) :=
  OpenClaim.holds_of_wide 4 Try.f4 rfl rfl rfl rfl rfl rfl rfl ⟨rfl, rfl, rfl, rfl, rfl⟩ rfl rfl rfl rfl rfl (by kernel_rfl) Try.func4 (by kernel_rfl)
    (of_decide_eq_true (by kernel_rfl)) (by unfold Func.isWrapper; first | (rw [if_pos (by decide +kernel)]; kernel_rfl) | (rw [if_neg (by decide +kernel)]; exact ⟨rfl, rfl⟩))
    (fun os started H enc _ => lifted os started H enc)

theorem proved : Rows.AddrPlacesSaid := over
#print axioms proved
end Go.Proofs.Ytfjcclgambkieaa.addrPlaces
