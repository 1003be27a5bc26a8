/-
  Whether any blocks are whole in any part, and the part that is made of any, is as the document says, or it is refused. Conditions: crc.halves holds what its text lays, tied to the program.
-/
import Derived.Test.YtjibjojnkieliaaDoorSumAwake
import Derived.Test.YtjibjojnkieliaaDoorCrcTab
import Derived.Test.YtjibjojnkieliaaDoorOpenPart
import Derived.Test.YtjibjojnkieliaaDoorRegTail
import Derived.Test.YtjibjojnkieliaaDoorCards
import Derived.Test.YtjibjojnkieliaaDoorTie
import Derived.SevenTiedAt
import Derived.Deep.RegionHeld3
import Derived.BigQuiet
namespace Go.Proofs.YtjibjojnkieliaaDoor.summaryWholes
open Go.ChangeShapes Go.WideShapes Go.ChangeAt Go.RowKit
set_option linter.unusedVariables false

theorem parts_up {w w' : World} {A : Option Addr} {ps : List Part} (h : PartsIn w w.heap.size A ps) (hb : Below w.heap.size w w') : PartsIn w' w'.heap.size A ps :=
  ⟨(h.1.below hb).mono hb.size, fun p hp => ⟨((h.2 p hp).1.below hb).mono hb.size, (h.2 p hp).2⟩⟩
theorem ofP_as (s x : Int) (f : Bool) (L : List En) (qs : List Part) : ofR (ofOk s x f L qs) s x f (withSums L (octs qs)) = ofP s x f L qs := rfl
theorem ofOk_iff (s x : Int) (f : Bool) (L : List En) (qs : List Part) : ofOk s x f L qs = true ↔ ptOk ⟨s, x, f, L⟩ = true ∧ Pair L (octs qs) := by
  rw [ofOk, Bool.and_eq_true, pair_iff L qs _ _ rfl rfl]
def slotW3 (i : Nat) : Nat := 19 + i
def waitW3 : Nat → List Nat
  | 2 => [0, 1]
  | 5 => [3, 4]
  | 6 => [2, 5]
  | _ => []
def leaveW3 (s x : Int) (f : Bool) (A : Option Addr) (m c : Nat) (A1 A2 : Option Addr) (k1 c1 c2 : Nat) (t : Bool) : Nat → Value → World → Prop
  | 0, v, _ => v = .agg #[.int .i64 s, .int .i64 x, .bool f, .slice A m c]
  | 1, v, _ => v = .slice A1 k1 c1
  | 2, v, _ => v = .bool t
  | 3, v, _ => v = .agg #[.int .i64 s, .int .i64 x, .bool f, .slice A m c]
  | 4, v, _ => v = .slice A2 k1 c2
  | 5, v, _ => v = .bool t
  | _, _, _ => True

set_option maxRecDepth 100000 in
set_option maxHeartbeats 4000000 in
theorem cut (s x : Int) (f : Bool) (A : Option Addr) (n m c : Nat) (L : List En) (A' : Option Addr) (n' c' : Nat) (ps : List Part) (w : World) (hl : L.length = m) (hm : m ≤ 20) (hr : Rd w w.heap.size A (ensV L)) (ht : Tab w)
    (hp : PartsIn w w.heap.size A' ps) (hpl : ps.length = n') (hpc : n' ≤ c') (hpm : c' ≤ maxLen)
    (hfew : ∀ w', Below w.heap.size w w' → Calls Tryd.prog 8 #[.slice A n c] w' fun e w'' => e = .returned (.slice A m c) ∧ w' = w'') :
    Calls Tryd.prog 5 #[ptV s x f A n c, .slice A' n' c'] w fun e w' => e = .returned (.bool true) ∧ Below w.heap.size w w' := by
  unfold ptV
  have HFEW := Lib.hid hfew
  have HL := Lib.hid hl
  have HR := Lib.hid hr
  have HT := Lib.hid ht
  have HP := Lib.hid hp
  have HPL := Lib.hid hpl
  have HPC := Lib.hid (And.intro hpc hpm)
  have K0 := Bk.new w 24 #[.int .i64 s, .int .i64 x, .bool f, .slice A n c]
  have HB0 := Lib.hid ((Below.refl w.heap.size w).alloc (Nat.le_refl _) (.cells #[.int .i64 s, .int .i64 x, .bool f, .slice A n c] 24))
  obtain ⟨j0, j1, j2, j3, f0, f1, f2, f3⟩ := ent_cells K0
  have K1 := Lib.hid (ent3 K0 (.slice A m c))
  clear hfew hl hr ht hp hpl hpc hpm
  go_enter Tryd.func5, Tryd.ntmps5
  go_wp2_with fail
  refine (HFEW.out _ HB0.out).mono ?_
  rintro e w1 ⟨rfl, hw1⟩
  have K1' := K1.out
  have HB1 : Hid (Below w.heap.size w (w1.setCell ⟨w.heap.size, 3, none⟩ (.slice A m c))) := by rw [← hw1]; exact HB0.out.setCell (p := ⟨w.heap.size, 3, none⟩) (Nat.le_refl _) _
  rw [hw1] at j0 j1 j2 j3 f0 f1 f2 f3 K1'
  have HW1 := Lib.hid hw1
  clear hw1 K0 K1
  have HK1 := Lib.hid K1'
  obtain ⟨d0, d1, d2, d3, -⟩ := ent_cells K1'
  clear K1'
  obtain ⟨w2, hw2⟩ : ∃ w2, w1.setCell ⟨w.heap.size, 3, none⟩ (.slice A m c) = w2 := ⟨_, rfl⟩
  rw [hw2] at HB1 HK1 d0 d1 d2 d3
  have hw2 := Lib.hid hw2
  go_wp2_with fail
  first | rw [hw2.out] | skip
  refine (blocks_any A' n' c' ps w2 HPL.out HPC.out.1 HPC.out.2 (parts_up HP.out HB1.out)).mono ?_
  clear j0 j1 j2 j3 f0 f1 f2 f3 d0 d1 d2 d3
  rintro e w3 ⟨A1, A2, c1, c2, rfl, hp1, hp2, hb3⟩
  have hk20 := cutL_length ps
  have hk130 := cutL_lens ps
  obtain ⟨qs, hqs⟩ : ∃ qs, cutL ps = qs := ⟨_, rfl⟩
  rw [hqs] at hp1 hp2 hk20 hk130 ⊢
  obtain ⟨k1, hk1⟩ : ∃ k1, qs.length = k1 := ⟨_, rfl⟩
  have HK20 : Hid (k1 ≤ 20) := by rw [← hk1]; exact hk20
  rw [hk1]
  have HK130 := Lib.hid hk130
  have HQL := Lib.hid hk1
  have HOL : Hid ((octs qs).length = k1) := by show _ = _; rw [octs, List.length_map, hk1]
  have HP1 := Lib.hid hp1
  have HP2 := Lib.hid hp2
  have HB3 := Lib.hid (HB1.out.trans (hb3.mono HB1.out.size))
  have HK3 := Lib.hid (HK1.out.below hb3 HK1.out.lt)
  have HKP : Hid (∀ w', Below w3.heap.size w3 w' → Bk w' w.heap.size 24 #[.int .i64 s, .int .i64 x, .bool f, .slice A m c]) := fun w' hb => HK3.out.below hb HK3.out.lt
  have hk20 := HK20.out
  obtain ⟨t, htt⟩ : ∃ t : Bool, t = true ↔ WholeP ⟨s, x, f, L⟩ (octs qs) := by classical exact ⟨decide (WholeP ⟨s, x, f, L⟩ (octs qs)), by simp⟩
  have HWH : Hid (∀ w', Below w3.heap.size w3 w' → Calls Tryd.prog 18 #[.agg #[.int .i64 s, .int .i64 x, .bool f, .slice A m c], .slice A1 k1 c1] w' fun e w'' => e = .returned (.bool t) ∧ Below w'.heap.size w' w'') := fun w' hb => by
    have hbb := HB3.out.trans (hb.mono HB3.out.size)
    have h := sumWhole_any s x f A A1 m c k1 c1 L qs t w' HL.out hk1 (by omega) (by omega) ((HR.out.below hbb).mono hbb.size) (parts_up HP1.out hb) (HT.out.up hbb) htt
    unfold ptV at h
    exact h
  have HRW : Hid (∀ w', Below w3.heap.size w3 w' → Calls Tryd.prog 19 #[.agg #[.int .i64 s, .int .i64 x, .bool f, .slice A m c], .slice A2 k1 c2] w' fun e w'' => e = .returned (.bool t) ∧ Below w'.heap.size w' w'') := fun w' hb => by
    have hbb := HB3.out.trans (hb.mono HB3.out.size)
    have h := refWhole_any s x f A A2 m c k1 c2 L (octs qs) t w' HL.out HOL.out (by omega) (by omega) ((HR.out.below hbb).mono hbb.size) ((HP2.out.below hb).mono hb.size) (fun b hb => by have := HK130.out b hb; omega) htt
    unfold ptV at h
    exact h
  obtain ⟨u, hu⟩ : ∃ u, ofOk s x f L qs = u := ⟨_, rfl⟩
  have HU := Lib.hid hu
  obtain ⟨P, hP⟩ : ∃ P, ofP s x f L qs = P := ⟨_, rfl⟩
  have HPP := Lib.hid hP
  have hui := ofOk_iff s x f L qs
  rw [hu] at hui
  have HUI := Lib.hid hui
  clear hb3 hp1 hp2 hqs hk1 hk130 htt hu hP hui
  go_upto_region 3 with fail
  refine wp_region_tail (by kernel_rfl) 6 71 slotW3 waitW3 (leaveW3 s x f A m c A1 A2 k1 c1 c2 t) rfl
    (by kernel_rfl) (fun i v w w' _ _ h => by unfold leaveW3 at *; split at h <;> exact h) ?_ ?_
  · intro i hi
    match i, hi with
    | 0, _ =>
      intro o ho a wc hk hb hd K hK
      cases ho
      have e0 := hk.rest 2 (.pointer (some ⟨w.heap.size, 0, none⟩)) (by omega) (by kernel_rfl) rfl
      rw [Array.getD_eq_getD_getElem?] at e0
      obtain ⟨d0, d1, d2, d3, -⟩ := ent_cells (HKP.out _ hb)
      go_simp
      exact hK _ _ (Below.refl _ _) rfl
    | 1, _ =>
      intro o ho a wc hk hb hd K hK
      cases ho
      have e0 := hk.rest 1 (.slice A1 k1 c1) (by omega) (by kernel_rfl) rfl
      rw [Array.getD_eq_getD_getElem?] at e0
      go_simp
      exact hK _ _ (Below.refl _ _) rfl
    | 2, _ =>
      intro o ho a wc hk hb hd K hK
      cases ho
      have e0 := hd 0 (by simp [waitW3])
      have e1 := hd 1 (by simp [waitW3])
      simp only [leaveW3, slotW3, Nat.reduceAdd, Array.getD_eq_getD_getElem?] at e0 e1
      go_simp
      refine (HWH.out _ hb).mono ?_
      rintro e w9 ⟨rfl, hb9⟩
      exact hK _ _ hb9 rfl
    | 3, _ =>
      intro o ho a wc hk hb hd K hK
      cases ho
      have e0 := hk.rest 2 (.pointer (some ⟨w.heap.size, 0, none⟩)) (by omega) (by kernel_rfl) rfl
      rw [Array.getD_eq_getD_getElem?] at e0
      obtain ⟨d0, d1, d2, d3, -⟩ := ent_cells (HKP.out _ hb)
      go_simp
      exact hK _ _ (Below.refl _ _) rfl
    | 4, _ =>
      intro o ho a wc hk hb hd K hK
      cases ho
      have e0 := hk.rest 5 (.slice A2 k1 c2) (by omega) (by kernel_rfl) rfl
      rw [Array.getD_eq_getD_getElem?] at e0
      go_simp
      exact hK _ _ (Below.refl _ _) rfl
    | 5, _ =>
      intro o ho a wc hk hb hd K hK
      cases ho
      have e0 := hd 3 (by simp [waitW3])
      have e1 := hd 4 (by simp [waitW3])
      simp only [leaveW3, slotW3, Nat.reduceAdd, Array.getD_eq_getD_getElem?] at e0 e1
      go_simp
      refine (HRW.out _ hb).mono ?_
      rintro e w9 ⟨rfl, hb9⟩
      exact hK _ _ hb9 rfl
    | _ + 6, h => exact absurd h (by omega)
  · intro vals w5 hb hR
    have v0 := hR 0 (by omega)
    have v1 := hR 1 (by omega)
    have v2 := hR 2 (by omega)
    have v3 := hR 3 (by omega)
    have v4 := hR 4 (by omega)
    have v5 := hR 5 (by omega)
    simp only [leaveW3] at v0 v1 v2 v3 v4 v5
    clear hR
    simp only [putAll, slotW3, Nat.reduceAdd, List.setIfInBounds_toArray, List.set_cons_zero, List.set_cons_succ, List.drop_succ_cons, List.drop_zero, v0, v1, v2, v3, v4, v5]
    clear v0 v1 v2 v3 v4 v5
    have HB5 := Lib.hid (HB3.out.trans (hb.mono HB3.out.size))
    have HB35 := Lib.hid hb
    clear hb
    have HOF := sumOf_any s x f A A1 m c k1 c1 L qs w5 HL.out HQL.out (by omega) (by omega) ((HR.out.below HB5.out).mono HB5.out.size) (parts_up HP1.out HB35.out) (HT.out.up HB5.out)
    rw [HPP.out] at HOF
    obtain ⟨q, hq⟩ : ∃ q, ofQ s x f L qs = q := ⟨_, rfl⟩
    have HQ : Hid ((u = true → q = 0) ∧ (u = false → q = 1)) := by
      show _ ∧ _
      rw [← hq, ofQ, HU.out]
      exact ⟨fun h => by rw [h]; rfl, fun h => by rw [h]; rfl⟩
    rw [hq] at HOF
    clear hq
    obtain ⟨⟨Ps, Px, Pf, Pl⟩, rfl⟩ : ∃ Q, Q = P := ⟨_, rfl⟩
    obtain ⟨d0, d1, d2, d3, -⟩ := ent_cells (HKP.out _ HB35.out)
    go_wp2_with fail
    refine HOF.mono ?_
    rintro e w6 ⟨v, rfl, ⟨B1, e1, rfl, he1, hm1, hr1⟩, hb6⟩
    unfold ptV
    simp only at hr1 he1 ⊢
    clear d0 d1 d2 d3 HOF
    have HX1 := Lib.hid (And.intro he1 hm1)
    have HR1 := Lib.hid hr1
    have KX := Lib.hid (Bk.new w6 24 #[.int .i64 Ps, .int .i64 Px, .bool Pf, .slice B1 Pl.length e1])
    have HBX := Lib.hid ((Below.refl w6.heap.size w6).alloc (Nat.le_refl _) (.cells #[.int .i64 Ps, .int .i64 Px, .bool Pf, .slice B1 Pl.length e1] 24))
    have HB37 := Lib.hid (HB35.out.trans ((hb6.mono HB35.out.size).trans (HBX.out.mono (by have := HB35.out.size; have := hb6.size; omega))))
    have HB7 := Lib.hid (HB3.out.trans (HB37.out.mono HB3.out.size))
    clear hb6 hr1 he1 hm1
    have HRO := refOf_any s x f A A2 m c k1 c2 L (octs qs) u _ HL.out HOL.out (by omega) (by omega) ((HR.out.below HB7.out).mono HB7.out.size) ((HP2.out.below HB37.out).mono HB37.out.size) (fun b hb => by have := HK130.out b hb; omega) HUI.out
    have HPU : Hid (ofR u s x f (withSums L (octs qs)) = ⟨Ps, Px, Pf, Pl⟩) := by show _ = _; rw [← HPP.out, ← HU.out, ofP_as]
    rw [HPU.out] at HRO
    obtain ⟨d0, d1, d2, d3, -⟩ := ent_cells (HKP.out _ HB37.out)
    go_wp2_with fail
    refine HRO.mono ?_
    rintro e w8 ⟨v, rfl, ⟨B2, e2, rfl, he2, hm2, hr2⟩, hb8⟩
    unfold ptV
    simp only at hr2 he2 ⊢
    clear d0 d1 d2 d3 HRO
    have HR2 := Lib.hid hr2
    have KY := Lib.hid (Bk.new w8 24 #[.int .i64 Ps, .int .i64 Px, .bool Pf, .slice B2 Pl.length e2])
    have HBY := Lib.hid ((Below.refl w8.heap.size w8).alloc (Nat.le_refl _) (.cells #[.int .i64 Ps, .int .i64 Px, .bool Pf, .slice B2 Pl.length e2] 24))
    have KX := Lib.hid ((KX.out.below hb8 KX.out.lt).alloc (.cells #[.int .i64 Ps, .int .i64 Px, .bool Pf, .slice B2 Pl.length e2] 24))
    have HB79 := Lib.hid (hb8.trans (HBY.out.mono hb8.size))
    have HB9 := Lib.hid (HB7.out.trans (HB79.out.mono HB7.out.size))
    clear hb8 hr2 he2 hm2
    have HSM := refSame_any Ps Px Pf B1 Pl.length e1 Pl Ps Px Pf B2 Pl.length e2 Pl true _ rfl rfl (by have h1 : Pl.length ≤ e1 := HX1.out.1; have h2 : e1 ≤ maxLen := HX1.out.2; unfold maxLen at h2; omega) (by have h1 : Pl.length ≤ e1 := HX1.out.1; have h2 : e1 ≤ maxLen := HX1.out.2; unfold maxLen at h2; omega) ((HR1.out.below (HBX.out.trans (HB79.out.mono HBX.out.size))).mono (HBX.out.trans (HB79.out.mono HBX.out.size)).size) ((HR2.out.below HBY.out).mono HBY.out.size) ⟨fun _ => rfl, fun _ => rfl⟩
    unfold ptV at HSM
    obtain ⟨c0, c1', c2', c3, -⟩ := ent_cells KX.out
    obtain ⟨d0, d1, d2, d3, -⟩ := ent_cells KY.out
    cases u
    case' false => obtain rfl : q = 1 := HQ.out.2 rfl
    case' true => obtain rfl : q = 0 := HQ.out.1 rfl
    all_goals
      go_wp2_with fail
      refine HSM.mono ?_
      rintro e wx ⟨rfl, hbx⟩
      have HBZ := Lib.hid (HB9.out.trans (hbx.mono HB9.out.size))
      clear hbx
      go_wp2_with fail
      refine (awake_any _ (HT.out.up HBZ.out)).mono ?_
      rintro e wy ⟨rfl, hby⟩
      have HBQ := Lib.hid (HBZ.out.trans (hby.mono HBZ.out.size))
      clear hby
      go_wp2
      go_ret
      exact ⟨rfl, HBQ.out⟩

theorem walk (s x : Int) (f : Bool) (A : Option Addr) (c : Nat) (l : List En) (A' : Option Addr) (c' : Nat) (ps : List Part) (w : World) (h : EntsAt w A c l) (hc' : ps.length ≤ c') (hm' : c' ≤ maxLen) (hp : PartsIn w w.heap.size A' ps) (ht : Tab w) :
    Calls Tryd.prog 5 #[ptV s x f A l.length c, .slice A' ps.length c'] w fun e w' => e = .returned (.bool true) ∧ Below w.heap.size w w' := by
  obtain ⟨hc, hcm, hr, hs⟩ := h
  exact cut s x f A _ (l.take 20).length c (l.take 20) A' _ c' ps w rfl (by rw [List.length_take]; omega) (by rw [ensV_take]; exact hr.take _) ht hp rfl hc' hm' (fun w' hb => fewEn_any w.heap.size A _ c l w' rfl (hr.below hb) hc hcm)

set_option maxRecDepth 100000 in
theorem lifted (os : Os) (started : os.Started) (H : Type) (enc : TypeId × Value → H) :
    ReturnsInHanded {} Tryd.checked os 5 .any (fun w args => (Rows.summaryWholesSpec.pre enc Tryd.prog Tryd.f5 [] false w args ∧ laidMetH Tryd.prog laidHalves w) ∧ sizedMet enc Tryd.prog Tryd.f5 (OpenSpec.ofChange Rows.summaryWholesSpec) false w args) (Rows.summaryWholesSpec.post enc Tryd.prog Tryd.f5 false true false false) := by
  refine returnsInHanded_of_change_and (C := Tryd.checked) (X := fun w _ => laidMetH Tryd.prog laidHalves w) (fun _ _ _ hh h => h.of_heap hh) own started (by kernel_rfl) Tryd.func5
    (ChangeSpec.witness_shaped (enc := enc) (C := Tryd.checked) (os := os) (X := fun w _ => laidMetH Tryd.prog laidHalves w) false (World.doorLaid Tryd.prog 400 os) #[.agg #[.int .i64 0, .int .i64 0, .bool false, .slice none 0 0], .slice none 0 0] 8 rfl (World.shaped_of_RefB (by kernel_rfl) (by kernel_rfl)) (by kernel_rfl) (by kernel_rfl) (by kernel_rfl) (door_met os _)) ?_
  intro W base args ds gs before hval0 hW _ _ hL _
  have hTab := tab_of_laid hL
  have hval : ∀ (j : Nat) t v, Tryd.f5.params[j]? = some t → args[j]? = some v → Value.okWide Tryd.prog W .any base t v := hval0
  have hW' := hW
  obtain ⟨p, q, hA0, hV, rfl, hfz, hnd⟩ := hW
  have hA : DataW.TrodAll enc Tryd.prog W 0 (fun _ => true) true Tryd.f5.params.toList args.toList ds p := hA0
  rw [Tryd.params5] at hA hval
  obtain ⟨v0, vs0, d0, ds0, p0, q0, hargs, rfl, rfl, h0, r0⟩ := trodAll_cons hA
  obtain ⟨v1, vs1, d1, ds1, p1, q1, rfl, rfl, rfl, h1, r1⟩ := trodAll_cons r0
  obtain ⟨rfl, rfl, rfl⟩ := trodAll_nil r1
  obtain rfl : args = #[v0, v1] := by cases args; simp_all
  obtain ⟨rfl, rfl⟩ := trodVars_none hV
  have lt0 : ∀ x ∈ p0, x.block < W.heap.size := by obtain ⟨m, hm⟩ := h0; exact DataW.trod_lt m _ _ _ hm
  obtain ⟨y0_0, y0_1, y0_2, y0_3, y0_4, y0_5, hb0, rfl⟩ := part_in (hval 0 24 v0 rfl rfl) h0
  obtain ⟨a1, len1, cap1, rfl⟩ := okWide_slice Tryd.underlying39 (hval 1 39 v1 rfl rfl)
  have lt1 : ∀ x ∈ p1, x.block < W.heap.size := by obtain ⟨m, hm⟩ := h1; exact DataW.trod_lt m _ _ _ hm
  obtain ⟨x1, rfl, hc1, hm1, hr1⟩ := rows_in Tryd.underlying39 Tryd.underlying26 Tryd.underlying5 (by kernel_rfl) (by kernel_rfl) h1
  clear hA0 hval0
  refine (walk y0_0 y0_1 y0_2 y0_3 y0_4 y0_5 a1 cap1 x1 W hb0 hc1 hm1 hr1 hTab).mono fun e W' ⟨he, bel⟩ => ?_
  subst he
  exact ⟨_, rfl, _, _, _, [], _, [], hW', trodAll_mk1 (shut_bool Tryd.underlying4 _), (trodAll_cons_mk (Below.trod laidOut (by kernel_rfl) (of_decide_eq_true (by kernel_rfl)) h0 bel lt0) (trodAll_cons_mk (Below.trod laidOut (by kernel_rfl) (of_decide_eq_true (by kernel_rfl)) h1 bel lt1) trodAll_mk0)), rfl, bel.frame _, fun h => by cases h⟩

theorem over : Rows.summaryWholesRow.holds Tryd.pinned (OpenSpec.ofChange Rows.summaryWholesSpec) :=
  OpenClaim.holds_of_wide 5 Tryd.f5 rfl rfl rfl rfl rfl rfl rfl ⟨rfl, rfl, rfl, rfl, rfl⟩ rfl rfl rfl rfl rfl (by kernel_rfl) Tryd.func5 (by kernel_rfl)
    (of_decide_eq_true (by kernel_rfl)) (by unfold Func.isWrapper; first | (rw [if_pos (by decide +kernel)]; kernel_rfl) | (rw [if_neg (by decide +kernel)]; exact ⟨rfl, rfl⟩))
    (fun os started H enc _ => lifted os started H enc)

theorem proved : Rows.SummaryWholesCardSaid :=
  Claim7.holds_tied_plain_at .later [] [.data] true _ false
    over (fun _ h => by cases h) (by kernel_rfl) (fun _ h => by cases h) summaryWholes_row_tie rfl ⟨rfl, rfl⟩ (by kernel_rfl) rfl
    (fun f fn hf hfn => by
      obtain rfl : f = 5 := Option.some.inj ((show Tryd.prog.funcNamed "haymow/haymowlaw06.SummaryWholes" = some 5 by kernel_rfl).symm.trans hf) |>.symm
      obtain rfl : fn = Tryd.f5 := (Option.some.inj (Tryd.func5.symm.trans hfn)).symm
      exact ⟨by kernel_rfl, fun j t ht => by
        rw [Tryd.params5] at ht
        have hm : t ∈ [24, 39] := by simpa using Array.mem_of_getElem? ht
        have hall : ([24, 39].all fun u => !Tryd.prog.wantsStandIn u) = true := by kernel_rfl
        exact (show Tryd.prog.wantsStandIn t = false by simpa using List.all_eq_true.1 hall t hm)⟩)
    (by kernel_rfl)
#print axioms proved
end Go.Proofs.YtjibjojnkieliaaDoor.summaryWholes
