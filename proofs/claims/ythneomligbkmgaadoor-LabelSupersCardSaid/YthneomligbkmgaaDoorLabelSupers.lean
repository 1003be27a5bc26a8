/-
  The super of any geometry is the document's block, or refused, and is read as it was; read as a label it is refused. Conditions: crc.halves holds what its text lays, tied to the program.
-/
import Derived.Test.YthneomligbkmgaaDoorLabelAwake
import Derived.Test.YthneomligbkmgaaDoorRef05b
import Derived.Test.YthneomligbkmgaaDoorCrcTab
import Derived.Test.YthneomligbkmgaaDoorOpenAddr
import Derived.Test.YthneomligbkmgaaDoorCards
import Derived.Test.YthneomligbkmgaaDoorTie
import Derived.SevenTiedAt
import Derived.Deep.RegionHeld3
import Derived.BigQuiet
namespace Go.Proofs.YthneomligbkmgaaDoor.labelSupers
open Go.ChangeShapes Go.WideShapes Go.ChangeAt Go.RowKit
set_option linter.unusedVariables false

theorem walk_bad (D L V S : Int) (w : World) (hm : mayB D L V S = false) (ht : Tab w) :
    Calls Tryd.prog 3 #[.agg #[.int .i64 D, .int .i64 L, .int .i64 V, .int .i64 S]] w fun e w' => e = .returned (.bool true) ∧ Below w.heap.size w w' := by
  have HM := Lib.hid hm
  have HT := Lib.hid ht
  clear hm ht
  go_enter Tryd.func3, Tryd.ntmps3
  go_wp2_with fail
  have HB0 := Lib.hid (Below.alloc (Below.refl w.heap.size w) (Nat.le_refl _) (.cells #[.int .i64 D, .int .i64 L, .int .i64 V, .int .i64 S] 23))
  have G0 := Lib.hid (Bk.new w 23 #[.int .i64 D, .int .i64 L, .int .i64 V, .int .i64 S])
  refine (Super_no D L V S _ HM.out).mono ?_
  rintro e w1 ⟨rfl, hb1⟩
  have G1 := Lib.hid (G0.out.below hb1 G0.out.lt)
  have HB1 := Lib.hid (HB0.out.trans (hb1.mono HB0.out.size))
  clear hb1
  obtain ⟨c0, c1, c2, c3, -⟩ := four_cells G1.out
  go_wp2_with fail
  refine (refMay_any D L V S false _ HM.out).mono ?_
  rintro e w2 ⟨rfl, hb2⟩
  have HB2 := Lib.hid (HB1.out.trans (hb2.mono HB1.out.size))
  clear hb2
  go_wp2_with fail
  refine (awake_any _ (HT.out.up HB2.out)).mono ?_
  rintro e w3 ⟨rfl, hb3⟩
  have HB3 := Lib.hid (HB2.out.trans (hb3.mono HB2.out.size))
  clear hb3
  go_wp2
  go_ret
  exact ⟨rfl, HB3.out⟩

theorem superG_super {D L V S : Int} (h : mayB D L V S = true) (n : Nat) : superG (superB D L V S) n = (n : Int) := by unfold superG; rw [superQ_super h]; rfl
theorem labelG_super {D L V S : Int} (h : mayB D L V S = true) (n : Nat) : labelG (superB D L V S) n = 0 := by unfold labelG; rw [labelQ_super h]; rfl

set_option maxRecDepth 100000 in
set_option maxHeartbeats 4000000 in
theorem walk_may (d l v s : Nat) (w : World) (hm : mayB d l v s = true) (ht : Tab w) :
    Calls Tryd.prog 3 #[.agg #[.int .i64 (d : Nat), .int .i64 (l : Nat), .int .i64 (v : Nat), .int .i64 (s : Nat)]] w fun e w' => e = .returned (.bool true) ∧ Below w.heap.size w w' := by
  obtain ⟨m1, m2, m3, m4, m5, m6, m7, m8⟩ := mayB_yes hm
  have HREF : Hid (∀ w', Calls Tryd.prog 12 #[.agg #[.int .i64 (d : Nat), .int .i64 (l : Nat), .int .i64 (v : Nat), .int .i64 (s : Nat)]] w' fun e w'' => e = .returned (.string (str (superB d l v s))) ∧ Below w'.heap.size w' w'') := fun w' => refSuper_any d l v s w' (by omega) (by omega) (by omega) (by omega)
  have HM := Lib.hid hm
  have HT := Lib.hid ht
  clear hm ht m1 m2 m3 m4 m5 m6 m7 m8
  go_enter Tryd.func3, Tryd.ntmps3
  go_wp2_with fail
  have HB0 := Lib.hid (Below.alloc (Below.refl w.heap.size w) (Nat.le_refl _) (.cells #[.int .i64 (d : Int), .int .i64 (l : Int), .int .i64 (v : Int), .int .i64 (s : Int)] 23))
  have G0 := Lib.hid (Bk.new w 23 #[.int .i64 (d : Int), .int .i64 (l : Int), .int .i64 (v : Int), .int .i64 (s : Int)])
  refine (Super_yes d l v s _ HM.out (HT.out.up HB0.out)).mono ?_
  rintro e w1 ⟨g, rfl, hg, hbk, hb1⟩
  have G1 := Lib.hid (G0.out.below hb1 G0.out.lt)
  have K1 := Lib.hid hbk
  have HB1 := Lib.hid (HB0.out.trans (hb1.mono HB0.out.size))
  clear hb1 hbk G0 HB0
  obtain ⟨c0, c1, c2, c3, -⟩ := four_cells G1.out
  go_wp2_with fail
  refine (refMay_any d l v s true _ HM.out).mono ?_
  rintro e w2 ⟨rfl, hb2⟩
  have G2 := Lib.hid (G1.out.below hb2 G1.out.lt)
  have K2 := Lib.hid (K1.out.below hb2 K1.out.lt)
  have HB2 := Lib.hid (HB1.out.trans (hb2.mono HB1.out.size))
  clear hb2 G1 K1 HB1 c0 c1 c2 c3
  go_wp2_with fail
  refine (ReadSuper_any w2.heap.size (some ⟨g, 0, none⟩) 128 128 (superB d l v s) 0 d l v s w2 (superB_length _ _ _ _) (by simpa using Rd.bk K2.out) (Nat.le_refl _) (Nat.le_refl _) (by unfold maxLen; omega) (superQ_super HM.out)
    ((superG_super HM.out _).trans (super_nums HM.out).2.1) ((superG_super HM.out _).trans (super_nums HM.out).2.2.1) ((superG_super HM.out _).trans (super_nums HM.out).2.2.2.1) ((superG_super HM.out _).trans (super_nums HM.out).2.2.2.2) (HT.out.up HB2.out)).mono ?_
  rintro e w3 ⟨rfl, hb3⟩
  have G3 := Lib.hid ((G2.out.below hb3 G2.out.lt).alloc (.cells #[.int .i64 (d : Int), .int .i64 (l : Int), .int .i64 (v : Int), .int .i64 (s : Int)] 23))
  have X3 := Lib.hid (Bk.new w3 23 #[.int .i64 (d : Int), .int .i64 (l : Int), .int .i64 (v : Int), .int .i64 (s : Int)])
  have K3 := Lib.hid ((K2.out.below hb3 K2.out.lt).alloc (.cells #[.int .i64 (d : Int), .int .i64 (l : Int), .int .i64 (v : Int), .int .i64 (s : Int)] 23))
  have HB3 := Lib.hid ((HB2.out.trans (hb3.mono HB2.out.size)))
  have HB3 := Lib.hid (HB3.out.alloc HB3.out.size (.cells #[.int .i64 (d : Int), .int .i64 (l : Int), .int .i64 (v : Int), .int .i64 (s : Int)] 23))
  clear hb3 G2 K2 HB2
  go_wp2_with fail
  refine (ReadLabel_any (w3.heap.size + 1) (some ⟨g, 0, none⟩) 128 128 (superB d l v s) 3 0 0 _ (superB_length _ _ _ _) (by have := Rd.bk K3.out; rw [World.alloc_size'] at this; simpa using this) (by simp) (Nat.le_refl _) (by unfold maxLen; omega) (labelQ_super HM.out) (labelG_super HM.out _) (labelG_super HM.out _) (HT.out.up HB3.out)).mono ?_
  rintro e w4 ⟨rfl, hb4⟩
  have G4 := Lib.hid (G3.out.below hb4 G3.out.lt)
  have X4 := Lib.hid (X3.out.below hb4 X3.out.lt)
  have K4 := Lib.hid (K3.out.below hb4 K3.out.lt)
  have HB4 := Lib.hid (HB3.out.trans (hb4.mono HB3.out.size))
  clear hb4 G3 X3 K3 HB3
  have HK : Hid (∀ w', Below w4.heap.size w4 w' → (convert 24 9 (.slice (some ⟨g, 0, none⟩) 128 128)).run Tryd.prog w' = .ok (.string (str (superB d l v s))) w'
      ∧ w'.cell? ⟨w.heap.size, 0, none⟩ = some (.int .i64 (d : Int)) ∧ w'.cell? ⟨w.heap.size, 1, none⟩ = some (.int .i64 (l : Int)) ∧ w'.cell? ⟨w.heap.size, 2, none⟩ = some (.int .i64 (v : Int)) ∧ w'.cell? ⟨w.heap.size, 3, none⟩ = some (.int .i64 (s : Int))
      ∧ w'.cell? ⟨w3.heap.size, 0, none⟩ = some (.int .i64 (d : Int)) ∧ w'.cell? ⟨w3.heap.size, 1, none⟩ = some (.int .i64 (l : Int)) ∧ w'.cell? ⟨w3.heap.size, 2, none⟩ = some (.int .i64 (v : Int)) ∧ w'.cell? ⟨w3.heap.size, 3, none⟩ = some (.int .i64 (s : Int))) := fun w' hb => by
    obtain ⟨c0, c1, c2, c3, -⟩ := four_cells (G4.out.below hb G4.out.lt)
    obtain ⟨d0, d1, d2, d3, -⟩ := four_cells (X4.out.below hb X4.out.lt)
    exact ⟨run_conv 24 5 9 Tryd.underlying24 Tryd.underlying5 under_strA 128 128 (superB_length _ _ _ _) (by simpa using Rd.bk (K4.out.below hb K4.out.lt)), c0, c1, c2, c3, d0, d1, d2, d3⟩
  have HREF4 : Hid (∀ w', Below w4.heap.size w4 w' → Calls Tryd.prog 12 #[.agg #[.int .i64 (d : Nat), .int .i64 (l : Nat), .int .i64 (v : Nat), .int .i64 (s : Nat)]] w' fun e w'' => e = .returned (.string (str (superB d l v s))) ∧ Below w4.heap.size w4 w'') := fun w' hb =>
    (HREF.out w').mono fun e w'' ⟨he, hb'⟩ => ⟨he, hb.trans (hb'.mono hb.size)⟩
  have HAW : Hid (∀ w', Below w4.heap.size w4 w' → Calls Tryd.prog 9 #[] w' fun e w'' => e = .returned (.bool true) ∧ Below w4.heap.size w4 w'') := fun w' hb =>
    (awake_any w' ((HT.out.up HB4.out).up hb)).mono fun e w'' ⟨he, hb'⟩ => ⟨he, hb.trans (hb'.mono hb.size)⟩
  obtain ⟨Z, hZ⟩ : ∃ Z, Z = str (superB d l v s) := ⟨_, rfl⟩
  rw [← hZ] at HK HREF4
  have HZ := Lib.hid hZ
  have hb0 : Below w4.heap.size w4 w4.drew := (Below.refl _ _).drew
  clear hZ
  go_wp2_with fail
  go_region_held3 (fun w' => (convert 24 9 (.slice (some ⟨g, 0, none⟩) 128 128)).run Tryd.prog w' = .ok (.string Z) w'
      ∧ w'.cell? ⟨w.heap.size, 0, none⟩ = some (.int .i64 (d : Int)) ∧ w'.cell? ⟨w.heap.size, 1, none⟩ = some (.int .i64 (l : Int)) ∧ w'.cell? ⟨w.heap.size, 2, none⟩ = some (.int .i64 (v : Int)) ∧ w'.cell? ⟨w.heap.size, 3, none⟩ = some (.int .i64 (s : Int))
      ∧ w'.cell? ⟨w3.heap.size, 0, none⟩ = some (.int .i64 (d : Int)) ∧ w'.cell? ⟨w3.heap.size, 1, none⟩ = some (.int .i64 (l : Int)) ∧ w'.cell? ⟨w3.heap.size, 2, none⟩ = some (.int .i64 (v : Int)) ∧ w'.cell? ⟨w3.heap.size, 3, none⟩ = some (.int .i64 (s : Int)))
    (exact HK.out _ (by assumption))
    (first
      | (go_at_call 12; (with_reducible refine (HREF4.out _ (by assumption)).mono ?_); rintro e w5 ⟨rfl, hbw⟩)
      | (go_at_call 9; (with_reducible refine (HAW.out _ (by assumption)).mono ?_); rintro e w5 ⟨rfl, hbw⟩))
  all_goals go_wp2
  all_goals go_ret
  all_goals exact ⟨rfl, HB4.out.trans (Below.mono (by assumption) HB4.out.size)⟩

theorem walk (D L V S : Int) (w : World) (ht : Tab w) :
    Calls Tryd.prog 3 #[.agg #[.int .i64 D, .int .i64 L, .int .i64 V, .int .i64 S]] w fun e w' => e = .returned (.bool true) ∧ Below w.heap.size w w' := by
  cases hm : mayB D L V S
  · exact walk_bad D L V S w hm ht
  · obtain ⟨h1, h2, h3, h4, h5, h6, h7, h8⟩ := mayB_yes hm
    obtain ⟨d, rfl⟩ := Int.eq_ofNat_of_zero_le (show 0 ≤ D by omega)
    obtain ⟨l, rfl⟩ := Int.eq_ofNat_of_zero_le (show 0 ≤ L by omega)
    obtain ⟨v, rfl⟩ := Int.eq_ofNat_of_zero_le (show 0 ≤ V by omega)
    obtain ⟨s, rfl⟩ := Int.eq_ofNat_of_zero_le (show 0 ≤ S by omega)
    exact walk_may d l v s w hm ht

set_option maxRecDepth 100000 in
theorem lifted (os : Os) (started : os.Started) (H : Type) (enc : TypeId × Value → H) :
    ReturnsInHanded {} Tryd.checked os 3 .any (fun w args => (Rows.labelSupersSpec.pre enc Tryd.prog Tryd.f3 [] false w args ∧ laidMetH Tryd.prog laidHalves w) ∧ sizedMet enc Tryd.prog Tryd.f3 (OpenSpec.ofChange Rows.labelSupersSpec) false w args) (Rows.labelSupersSpec.post enc Tryd.prog Tryd.f3 false true false false) := by
  refine returnsInHanded_of_change_and (C := Tryd.checked) (X := fun w _ => laidMetH Tryd.prog laidHalves w) (fun _ _ _ hh h => h.of_heap hh) own started (by kernel_rfl) Tryd.func3
    (ChangeSpec.witness_shaped (enc := enc) (C := Tryd.checked) (os := os) (X := fun w _ => laidMetH Tryd.prog laidHalves w) false (World.doorLaid Tryd.prog 400 os) #[.agg #[.int .i64 0, .int .i64 0, .int .i64 0, .int .i64 0]] 8 rfl (World.shaped_of_RefB (by kernel_rfl) (by kernel_rfl)) (by kernel_rfl) (by kernel_rfl) (by kernel_rfl) (door_met os _)) ?_
  intro W base args ds gs before hval0 hW _ _ hL _
  have hTab := tab_of_laid hL
  have hval : ∀ (j : Nat) t v, Tryd.f3.params[j]? = some t → args[j]? = some v → Value.okWide Tryd.prog W .any base t v := hval0
  have hW' := hW
  obtain ⟨p, q, hA0, hV, rfl, hfz, hnd⟩ := hW
  have hA : DataW.TrodAll enc Tryd.prog W 0 (fun _ => true) true Tryd.f3.params.toList args.toList ds p := hA0
  rw [Tryd.params3] at hA hval
  obtain ⟨v0, vs0, d0, ds0, p0, q0, hargs, rfl, rfl, h0, r0⟩ := trodAll_cons hA
  obtain ⟨rfl, rfl, rfl⟩ := trodAll_nil r0
  obtain rfl : args = #[v0] := by cases args; simp_all
  obtain ⟨rfl, rfl⟩ := trodVars_none hV
  have lt0 : ∀ x ∈ p0, x.block < W.heap.size := by obtain ⟨m, hm⟩ := h0; exact DataW.trod_lt m _ _ _ hm
  obtain ⟨y0_0, y0_1, y0_2, y0_3, rfl⟩ := geo_in (hval 0 23 v0 rfl rfl) h0
  clear hA0 hval0
  refine (walk y0_0 y0_1 y0_2 y0_3 W hTab).mono fun e W' ⟨he, bel⟩ => ?_
  subst he
  exact ⟨_, rfl, _, _, _, [], _, [], hW', trodAll_mk1 (shut_bool Tryd.underlying4 _), (trodAll_cons_mk (Below.trod laidOut (by kernel_rfl) (of_decide_eq_true (by kernel_rfl)) h0 bel lt0) trodAll_mk0), rfl, bel.frame _, fun h => by cases h⟩

theorem over : Rows.labelSupersRow.holds Tryd.pinned (OpenSpec.ofChange Rows.labelSupersSpec) :=
  OpenClaim.holds_of_wide 3 Tryd.f3 rfl rfl rfl rfl rfl rfl rfl ⟨rfl, rfl, rfl, rfl, rfl⟩ rfl rfl rfl rfl rfl (by kernel_rfl) Tryd.func3 (by kernel_rfl)
    (of_decide_eq_true (by kernel_rfl)) (by unfold Func.isWrapper; first | (rw [if_pos (by decide +kernel)]; kernel_rfl) | (rw [if_neg (by decide +kernel)]; exact ⟨rfl, rfl⟩))
    (fun os started H enc _ => lifted os started H enc)

theorem proved : Rows.LabelSupersCardSaid :=
  Claim7.holds_tied_plain_at .later [] [.data] true _ false
    over (fun _ h => by cases h) (by kernel_rfl) (fun _ h => by cases h) labelSupers_row_tie rfl ⟨rfl, rfl⟩ (by kernel_rfl) rfl
    (fun f fn hf hfn => by
      obtain rfl : f = 3 := Option.some.inj ((show Tryd.prog.funcNamed "haymow/haymowlaw05.LabelSupers" = some 3 by kernel_rfl).symm.trans hf) |>.symm
      obtain rfl : fn = Tryd.f3 := (Option.some.inj (Tryd.func3.symm.trans hfn)).symm
      exact ⟨by kernel_rfl, fun j t ht => by
        rw [Tryd.params3] at ht
        have hm : t ∈ [23] := by simpa using Array.mem_of_getElem? ht
        have hall : ([23].all fun u => !Tryd.prog.wantsStandIn u) = true := by kernel_rfl
        exact (show Tryd.prog.wantsStandIn t = false by simpa using List.all_eq_true.1 hall t hm)⟩)
    (by kernel_rfl)
#print axioms proved
end Go.Proofs.YthneomligbkmgaaDoor.labelSupers
