/-
  The label of any volume is the document's block, or refused, and is read as it was; read as a superblock it is refused. Conditions: crc.halves holds what its text lays, tied to the program.
-/
import Derived.Test.YthneomligbkmgaaDoorLabelAwake
import Derived.Test.YthneomligbkmgaaDoorRef05b
import Derived.Test.YthneomligbkmgaaDoorCrcTab
import Derived.Test.YthneomligbkmgaaDoorOpenAddr
import Derived.Test.YthneomligbkmgaaDoorCards
import Derived.Test.YthneomligbkmgaaDoorTie
import Derived.SevenTiedAt
import Derived.Deep.RegionHeld3
import Derived.BigQuiet
namespace Go.Proofs.YthneomligbkmgaaDoor.labelVolumes
open Go.ChangeShapes Go.WideShapes Go.ChangeAt Go.RowKit
set_option linter.unusedVariables false

theorem walk_bad (v g : Int) (w : World) (hm : labB v g = false) (ht : Tab w) :
    Calls Tryd.prog 4 #[.int .i64 v, .int .i64 g] w fun e w' => e = .returned (.bool true) ∧ Below w.heap.size w w' := by
  have HM := Lib.hid hm
  have HT := Lib.hid ht
  clear hm ht
  go_enter Tryd.func4, Tryd.ntmps4
  go_wp2_with fail
  refine (Label_no v g _ HM.out).mono ?_
  rintro e w1 ⟨rfl, rfl⟩
  go_wp2_with fail
  refine (refMayL_any v g false _ HM.out).mono ?_
  rintro e w2 ⟨rfl, rfl⟩
  go_wp2_with fail
  refine (awake_any _ HT.out).mono ?_
  rintro e w3 ⟨rfl, hb3⟩
  have HB3 := Lib.hid hb3
  clear hb3
  go_wp2
  go_ret
  exact ⟨rfl, HB3.out⟩

theorem labelG_label {v g : Int} (h : labB v g = true) (n : Nat) : labelG (labelB v g) n = (n : Int) := by unfold labelG; rw [labelQ_label h]; rfl
theorem superG_label {v g : Int} (h : labB v g = true) (n : Nat) : superG (labelB v g) n = 0 := by unfold superG; rw [superQ_label h]; rfl

set_option maxRecDepth 100000 in
set_option maxHeartbeats 4000000 in
theorem walk_may (v n : Nat) (w : World) (hm : labB v n = true) (ht : Tab w) :
    Calls Tryd.prog 4 #[.int .i64 (v : Nat), .int .i64 (n : Nat)] w fun e w' => e = .returned (.bool true) ∧ Below w.heap.size w w' := by
  have HREF : Hid (∀ w', Calls Tryd.prog 15 #[.int .i64 (v : Nat), .int .i64 (n : Nat)] w' fun e w'' => e = .returned (.string (str (labelB v n))) ∧ Below w'.heap.size w' w'') := fun w' => by
    obtain ⟨m1, m2, m3, m4⟩ := labB_yes hm
    exact refLabel_any v n w' (by omega) (by omega)
  have HM := Lib.hid hm
  have HT := Lib.hid ht
  clear hm ht
  go_enter Tryd.func4, Tryd.ntmps4
  go_wp2_with fail
  refine (Label_yes v n _ HM.out HT.out).mono ?_
  rintro e w1 ⟨g, rfl, hg, hbk, hb1⟩
  have K1 := Lib.hid hbk
  have HB1 := Lib.hid hb1
  clear hb1 hbk
  go_wp2_with fail
  refine (refMayL_any v n true _ HM.out).mono ?_
  rintro e w2 ⟨rfl, rfl⟩
  go_wp2_with fail
  refine (ReadLabel_any w1.heap.size (some ⟨g, 0, none⟩) 128 128 (labelB v n) 0 v n w1 (labelB_length _ _) (by simpa using Rd.bk K1.out) (Nat.le_refl _) (Nat.le_refl _) (by unfold maxLen; omega) (labelQ_label HM.out)
    ((labelG_label HM.out _).trans (label_nums HM.out).2.1) ((labelG_label HM.out _).trans (label_nums HM.out).2.2) (HT.out.up HB1.out)).mono ?_
  rintro e w3 ⟨rfl, hb3⟩
  have K3 := Lib.hid (K1.out.below hb3 K1.out.lt)
  have HB3 := Lib.hid (HB1.out.trans (hb3.mono HB1.out.size))
  clear hb3 K1 HB1
  go_wp2_with fail
  refine (ReadSuper_any w3.heap.size (some ⟨g, 0, none⟩) 128 128 (labelB v n) 3 0 0 0 0 w3 (labelB_length _ _) (by simpa using Rd.bk K3.out) (Nat.le_refl _) (Nat.le_refl _) (by unfold maxLen; omega) (superQ_label HM.out)
    (superG_label HM.out _) (superG_label HM.out _) (superG_label HM.out _) (superG_label HM.out _) (HT.out.up HB3.out)).mono ?_
  rintro e w5 ⟨rfl, hb5⟩
  have K5 := Lib.hid ((K3.out.below hb5 K3.out.lt).alloc (.cells #[.int .i64 0, .int .i64 0, .int .i64 0, .int .i64 0] 23))
  have HB5 := Lib.hid (HB3.out.trans (hb5.mono HB3.out.size))
  obtain ⟨w4, hw4⟩ : ∃ w4, w5.alloc (.cells #[.int .i64 0, .int .i64 0, .int .i64 0, .int .i64 0] 23) = w4 := ⟨_, rfl⟩
  have HB4 : Hid (Below w.heap.size w w4) := by rw [← hw4]; exact HB5.out.alloc HB5.out.size _
  rw [hw4] at K5
  have HK : Hid (∀ w', Below w4.heap.size w4 w' → (convert 24 9 (.slice (some ⟨g, 0, none⟩) 128 128)).run Tryd.prog w' = .ok (.string (str (labelB v n))) w') := fun w' hb =>
    run_conv 24 5 9 Tryd.underlying24 Tryd.underlying5 under_strA 128 128 (labelB_length _ _) (by simpa using Rd.bk (K5.out.below hb K5.out.lt))
  have HREF4 : Hid (∀ w', Below w4.heap.size w4 w' → Calls Tryd.prog 15 #[.int .i64 (v : Nat), .int .i64 (n : Nat)] w' fun e w'' => e = .returned (.string (str (labelB v n))) ∧ Below w4.heap.size w4 w'') := fun w' hb =>
    (HREF.out w').mono fun e w'' ⟨he, hb'⟩ => ⟨he, hb.trans (hb'.mono hb.size)⟩
  have HAW : Hid (∀ w', Below w4.heap.size w4 w' → Calls Tryd.prog 9 #[] w' fun e w'' => e = .returned (.bool true) ∧ Below w4.heap.size w4 w'') := fun w' hb =>
    (awake_any w' ((HT.out.up HB4.out).up hb)).mono fun e w'' ⟨he, hb'⟩ => ⟨he, hb.trans (hb'.mono hb.size)⟩
  obtain ⟨Z, hZ⟩ : ∃ Z, Z = str (labelB v n) := ⟨_, rfl⟩
  rw [← hZ] at HK HREF4
  have HZ := Lib.hid hZ
  have hb0 : Below w4.heap.size w4 w4.drew := (Below.refl _ _).drew
  have HW4 := Lib.hid hw4
  clear hZ hb5 hw4
  go_wp2_with fail
  rw [HW4.out]
  clear HW4
  go_region_held3 (fun w' => (convert 24 9 (.slice (some ⟨g, 0, none⟩) 128 128)).run Tryd.prog w' = .ok (.string Z) w')
    (exact HK.out _ (by assumption))
    (first
      | (go_at_call 15; (with_reducible refine (HREF4.out _ (by assumption)).mono ?_); rintro e w6 ⟨rfl, hbw⟩)
      | (go_at_call 9; (with_reducible refine (HAW.out _ (by assumption)).mono ?_); rintro e w6 ⟨rfl, hbw⟩))
  all_goals go_wp2
  all_goals go_ret
  all_goals exact ⟨rfl, HB4.out.trans (Below.mono (by assumption) HB4.out.size)⟩

theorem walk (V G : Int) (w : World) (ht : Tab w) :
    Calls Tryd.prog 4 #[.int .i64 V, .int .i64 G] w fun e w' => e = .returned (.bool true) ∧ Below w.heap.size w w' := by
  cases hm : labB V G
  · exact walk_bad V G w hm ht
  · obtain ⟨h1, h2, h3, h4⟩ := labB_yes hm
    obtain ⟨v, rfl⟩ := Int.eq_ofNat_of_zero_le (show 0 ≤ V by omega)
    obtain ⟨n, rfl⟩ := Int.eq_ofNat_of_zero_le (show 0 ≤ G by omega)
    exact walk_may v n w hm ht

set_option maxRecDepth 100000 in
theorem lifted (os : Os) (started : os.Started) (H : Type) (enc : TypeId × Value → H) :
    ReturnsInHanded {} Tryd.checked os 4 .any (fun w args => (Rows.labelVolumesSpec.pre enc Tryd.prog Tryd.f4 [] false w args ∧ laidMetH Tryd.prog laidHalves w) ∧ sizedMet enc Tryd.prog Tryd.f4 (OpenSpec.ofChange Rows.labelVolumesSpec) false w args) (Rows.labelVolumesSpec.post enc Tryd.prog Tryd.f4 false true false false) := by
  refine returnsInHanded_of_change_and (C := Tryd.checked) (X := fun w _ => laidMetH Tryd.prog laidHalves w) (fun _ _ _ hh h => h.of_heap hh) own started (by kernel_rfl) Tryd.func4
    (ChangeSpec.witness_shaped (enc := enc) (C := Tryd.checked) (os := os) (X := fun w _ => laidMetH Tryd.prog laidHalves w) false (World.doorLaid Tryd.prog 400 os) #[.int .i64 0, .int .i64 0] 8 rfl (World.shaped_of_RefB (by kernel_rfl) (by kernel_rfl)) (by kernel_rfl) (by kernel_rfl) (by kernel_rfl) (door_met os _)) ?_
  intro W base args ds gs before hval0 hW _ _ hL _
  have hTab := tab_of_laid hL
  have hval : ∀ (j : Nat) t v, Tryd.f4.params[j]? = some t → args[j]? = some v → Value.okWide Tryd.prog W .any base t v := hval0
  have hW' := hW
  obtain ⟨p, q, hA0, hV, rfl, hfz, hnd⟩ := hW
  have hA : DataW.TrodAll enc Tryd.prog W 0 (fun _ => true) true Tryd.f4.params.toList args.toList ds p := hA0
  rw [Tryd.params4] at hA hval
  obtain ⟨v0, vs0, d0, ds0, p0, q0, hargs, rfl, rfl, h0, r0⟩ := trodAll_cons hA
  obtain ⟨v1, vs1, d1, ds1, p1, q1, rfl, rfl, rfl, h1, r1⟩ := trodAll_cons r0
  obtain ⟨rfl, rfl, rfl⟩ := trodAll_nil r1
  obtain rfl : args = #[v0, v1] := by cases args; simp_all
  obtain ⟨rfl, rfl⟩ := trodVars_none hV
  obtain ⟨x0, rfl, rfl, rfl, wx0⟩ := open_int Tryd.underlying3 (hval 0 3 v0 rfl rfl) h0
  have hx0 := bounds_i64 wx0
  obtain ⟨x1, rfl, rfl, rfl, wx1⟩ := open_int Tryd.underlying3 (hval 1 3 v1 rfl rfl) h1
  have hx1 := bounds_i64 wx1
  clear hA0 hval0
  refine (walk x0 x1 W hTab).mono fun e W' ⟨he, bel⟩ => ?_
  subst he
  exact ⟨_, rfl, _, _, _, [], _, [], hW', trodAll_mk1 (shut_bool Tryd.underlying4 _), (trodAll_cons_mk (shut_int Tryd.underlying3 wx0) (trodAll_cons_mk (shut_int Tryd.underlying3 wx1) trodAll_mk0)), rfl, bel.frame _, fun h => by cases h⟩

theorem over : Rows.labelVolumesRow.holds Tryd.pinned (OpenSpec.ofChange Rows.labelVolumesSpec) :=
  OpenClaim.holds_of_wide 4 Tryd.f4 rfl rfl rfl rfl rfl rfl rfl ⟨rfl, rfl, rfl, rfl, rfl⟩ rfl rfl rfl rfl rfl (by kernel_rfl) Tryd.func4 (by kernel_rfl)
    (of_decide_eq_true (by kernel_rfl)) (by unfold Func.isWrapper; first | (rw [if_pos (by decide +kernel)]; kernel_rfl) | (rw [if_neg (by decide +kernel)]; exact ⟨rfl, rfl⟩))
    (fun os started H enc _ => lifted os started H enc)

theorem proved : Rows.LabelVolumesCardSaid :=
  Claim7.holds_tied_plain_at .later [] [.data] true _ false
    over (fun _ h => by cases h) (by kernel_rfl) (fun _ h => by cases h) labelVolumes_row_tie rfl ⟨rfl, rfl⟩ (by kernel_rfl) rfl
    (fun f fn hf hfn => by
      obtain rfl : f = 4 := Option.some.inj ((show Tryd.prog.funcNamed "haymow/haymowlaw05.LabelVolumes" = some 4 by kernel_rfl).symm.trans hf) |>.symm
      obtain rfl : fn = Tryd.f4 := (Option.some.inj (Tryd.func4.symm.trans hfn)).symm
      exact ⟨by kernel_rfl, fun j t ht => by
        rw [Tryd.params4] at ht
        have hm : t ∈ [3, 3] := by simpa using Array.mem_of_getElem? ht
        have hall : ([3, 3].all fun u => !Tryd.prog.wantsStandIn u) = true := by kernel_rfl
        exact (show Tryd.prog.wantsStandIn t = false by simpa using List.all_eq_true.1 hall t hm)⟩)
    (by kernel_rfl)
#print axioms proved
end Go.Proofs.YthneomligbkmgaaDoor.labelVolumes
