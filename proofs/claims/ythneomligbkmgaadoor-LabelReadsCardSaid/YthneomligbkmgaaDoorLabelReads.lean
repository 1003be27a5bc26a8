/-
  Whatever octets there are, label.ReadSuper and label.ReadLabel answer the document's geometry and label, or refuse them with its error. Conditions: crc.halves holds what its text lays, tied to the program.
-/
import Derived.Test.YthneomligbkmgaaDoorLabelAwake
import Derived.Test.YthneomligbkmgaaDoorRef05b
import Derived.Test.YthneomligbkmgaaDoorCrcTab
import Derived.Test.YthneomligbkmgaaDoorOpenAddr
import Derived.Test.YthneomligbkmgaaDoorCards
import Derived.Test.YthneomligbkmgaaDoorTie
import Derived.SevenTiedAt
import Derived.Deep.RegionHeld3
import Derived.BigQuiet
namespace Go.Proofs.YthneomligbkmgaaDoor.labelReads
open Go.ChangeShapes Go.WideShapes Go.ChangeAt Go.RowKit
set_option linter.unusedVariables false

set_option maxRecDepth 100000 in
set_option maxHeartbeats 2000000 in
theorem cut (A : Option Addr) (n l c : Nat) (bs : List UInt8) (w : World) (hn : bs.length = n) (hnc : n ≤ c) (hcm : c ≤ maxLen) (hr : Rd w w.heap.size A (bs.map bv)) (ht : Tab w)
    (hfew : Calls Tryd.prog 16 #[.slice A l c] w fun e w' => e = .returned (.slice A n c) ∧ w = w') :
    Calls Tryd.prog 5 #[.slice A l c] w fun e w' => e = .returned (.bool true) ∧ Below w.heap.size w w' := by
  have HFEW := Lib.hid hfew
  have HN := Lib.hid hn
  have HR := Lib.hid hr
  have HT := Lib.hid ht
  have HC : Hid (∀ w', Below w.heap.size w w' → (convert 24 9 (.slice A n c)).run Tryd.prog w' = .ok (.string (str bs)) w') := fun w' hb =>
    run_conv 24 5 9 Tryd.underlying24 Tryd.underlying5 under_strA n c hn (hr.below hb)
  have HM : Hid (bs.length ≤ 9223372036854775807) := by show _ ≤ _; unfold maxLen at hcm; omega
  obtain ⟨q, hq⟩ : ∃ q, superQ bs = q := ⟨_, rfl⟩
  obtain ⟨D, hD⟩ : ∃ D, superG bs (dN bs) = D := ⟨_, rfl⟩
  obtain ⟨L, hL⟩ : ∃ D, superG bs (lN bs) = D := ⟨_, rfl⟩
  obtain ⟨V, hV⟩ : ∃ D, superG bs (vN bs) = D := ⟨_, rfl⟩
  obtain ⟨S, hS⟩ : ∃ D, superG bs (sN bs) = D := ⟨_, rfl⟩
  obtain ⟨p, hp⟩ : ∃ q, labelQ bs = q := ⟨_, rfl⟩
  obtain ⟨v, hv⟩ : ∃ D, labelG bs (volN bs) = D := ⟨_, rfl⟩
  obtain ⟨k, hk⟩ : ∃ D, labelG bs (genN bs) = D := ⟨_, rfl⟩
  have HS : Hid (superQ bs = q ∧ superG bs (dN bs) = D ∧ superG bs (lN bs) = L ∧ superG bs (vN bs) = V ∧ superG bs (sN bs) = S) := ⟨hq, hD, hL, hV, hS⟩
  have HL : Hid (labelQ bs = p ∧ labelG bs (volN bs) = v ∧ labelG bs (genN bs) = k) := ⟨hp, hv, hk⟩
  clear hfew hn hr ht hq hD hL hV hS hp hv hk
  go_enter Tryd.func5, Tryd.ntmps5
  go_wp2_with fail
  refine HFEW.out.mono ?_
  rintro e w1 ⟨rfl, rfl⟩
  go_wp2_with fail
  refine (ReadSuper_any w.heap.size A n c bs q D L V S w HN.out HR.out (Nat.le_refl _) hnc hcm HS.out.1 HS.out.2.1 HS.out.2.2.1 HS.out.2.2.2.1 HS.out.2.2.2.2 HT.out).mono ?_
  rintro e w1 ⟨rfl, hb1⟩
  have G2 := Lib.hid (Bk.new w1 23 #[.int .i64 D, .int .i64 L, .int .i64 V, .int .i64 S])
  have HB2 := Lib.hid (hb1.alloc hb1.size (.cells #[.int .i64 D, .int .i64 L, .int .i64 V, .int .i64 S] 23))
  have hc2 := HC.out _ HB2.out
  clear hb1
  go_wp2_with fail
  refine (refReadSuper_any bs q D L V S _ HM.out HS.out.1 HS.out.2.1 HS.out.2.2.1 HS.out.2.2.2.1 HS.out.2.2.2.2).mono ?_
  rintro e w3 ⟨rfl, hb3⟩
  have G3 := Lib.hid (Bk.new w3 23 #[.int .i64 D, .int .i64 L, .int .i64 V, .int .i64 S])
  have HB3 := Lib.hid (HB2.out.trans (hb3.mono HB2.out.size))
  have G2 := Lib.hid ((G2.out.below hb3 G2.out.lt).alloc (.cells #[.int .i64 D, .int .i64 L, .int .i64 V, .int .i64 S] 23))
  have HB4 := Lib.hid (HB3.out.alloc HB3.out.size (.cells #[.int .i64 D, .int .i64 L, .int .i64 V, .int .i64 S] 23))
  clear hb3 hc2
  go_wp2_with fail
  refine (ReadLabel_any w.heap.size A n c bs p v k _ HN.out (HR.out.below HB4.out) HB4.out.size hnc hcm HL.out.1 HL.out.2.1 HL.out.2.2 (HT.out.up HB4.out)).mono ?_
  rintro e w5 ⟨rfl, hb5⟩
  have HB5 := Lib.hid (HB4.out.trans (hb5.mono HB4.out.size))
  have G2 := Lib.hid (G2.out.below hb5 G2.out.lt)
  have G3 := Lib.hid (G3.out.below hb5 G3.out.lt)
  have hc5 := HC.out _ HB5.out
  clear hb5
  go_wp2_with fail
  refine (refReadLabel_any bs p v k _ HM.out HL.out.1 HL.out.2.1 HL.out.2.2).mono ?_
  rintro e w6 ⟨rfl, hb6⟩
  have HB6 := Lib.hid (HB5.out.trans (hb6.mono HB5.out.size))
  have G2 := Lib.hid (G2.out.below hb6 G2.out.lt)
  have G3 := Lib.hid (G3.out.below hb6 G3.out.lt)
  clear hb6 hc5
  obtain ⟨c0, c1, c2, c3, -⟩ := four_cells G2.out
  obtain ⟨d0, d1, d2, d3, -⟩ := four_cells G3.out
  go_wp2_with fail
  refine (awake_any _ (HT.out.up HB6.out)).mono ?_
  rintro e w7 ⟨rfl, hb7⟩
  have HB7 := Lib.hid (HB6.out.trans (hb7.mono HB6.out.size))
  clear hb7
  go_wp2
  go_ret
  exact ⟨rfl, HB7.out⟩
theorem walk (A : Option Addr) (c : Nat) (bs : List UInt8) (w : World) (hr : Rd w w.heap.size A (bs.map bv)) (hc : bs.length ≤ c) (hcm : c ≤ maxLen) (ht : Tab w) :
    Calls Tryd.prog 5 #[.slice A bs.length c] w fun e w' => e = .returned (.bool true) ∧ Below w.heap.size w w' := by
  have hfew := few_any w.heap.size A c bs w hr hc hcm
  have hR : Rd w w.heap.size A ((bs.take 200).map bv) := by rw [List.map_take]; exact hr.take 200
  have hl := List.length_take (i := 200) (l := bs)
  exact cut A _ bs.length c (bs.take 200) w rfl (by omega) hcm hR ht hfew

set_option maxRecDepth 100000 in
theorem lifted (os : Os) (started : os.Started) (H : Type) (enc : TypeId × Value → H) :
    ReturnsInHanded {} Tryd.checked os 5 .any (fun w args => (Rows.labelReadsSpec.pre enc Tryd.prog Tryd.f5 [] false w args ∧ laidMetH Tryd.prog laidHalves w) ∧ sizedMet enc Tryd.prog Tryd.f5 (OpenSpec.ofChange Rows.labelReadsSpec) false w args) (Rows.labelReadsSpec.post enc Tryd.prog Tryd.f5 false true false false) := by
  refine returnsInHanded_of_change_and (C := Tryd.checked) (X := fun w _ => laidMetH Tryd.prog laidHalves w) (fun _ _ _ hh h => h.of_heap hh) own started (by kernel_rfl) Tryd.func5
    (ChangeSpec.witness_shaped (enc := enc) (C := Tryd.checked) (os := os) (X := fun w _ => laidMetH Tryd.prog laidHalves w) false (World.doorLaid Tryd.prog 400 os) #[.slice none 0 0] 8 rfl (World.shaped_of_RefB (by kernel_rfl) (by kernel_rfl)) (by kernel_rfl) (by kernel_rfl) (by kernel_rfl) (door_met os _)) ?_
  intro W base args ds gs before hval0 hW _ _ hL _
  have hTab := tab_of_laid hL
  have hval : ∀ (j : Nat) t v, Tryd.f5.params[j]? = some t → args[j]? = some v → Value.okWide Tryd.prog W .any base t v := hval0
  have hW' := hW
  obtain ⟨p, q, hA0, hV, rfl, hfz, hnd⟩ := hW
  have hA : DataW.TrodAll enc Tryd.prog W 0 (fun _ => true) true Tryd.f5.params.toList args.toList ds p := hA0
  rw [Tryd.params5] at hA hval
  obtain ⟨v0, vs0, d0, ds0, p0, q0, hargs, rfl, rfl, h0, r0⟩ := trodAll_cons hA
  obtain ⟨rfl, rfl, rfl⟩ := trodAll_nil r0
  obtain rfl : args = #[v0] := by cases args; simp_all
  obtain ⟨rfl, rfl⟩ := trodVars_none hV
  obtain ⟨a0, len0, cap0, rfl⟩ := okWide_slice Tryd.underlying24 (hval 0 24 v0 rfl rfl)
  have lt0 : ∀ x ∈ p0, x.block < W.heap.size := by obtain ⟨m, hm⟩ := h0; exact DataW.trod_lt m _ _ _ hm
  obtain ⟨x0, rfl, hc0, hm0, hr0⟩ := bytes_in Tryd.underlying24 Tryd.underlying5 (by kernel_rfl) h0
  clear hA0 hval0
  refine (walk a0 cap0 x0 W hr0 hc0 hm0 hTab).mono fun e W' ⟨he, bel⟩ => ?_
  subst he
  exact ⟨_, rfl, _, _, _, [], _, [], hW', trodAll_mk1 (shut_bool Tryd.underlying4 _), (trodAll_cons_mk (Below.trod laidOut (by kernel_rfl) (of_decide_eq_true (by kernel_rfl)) h0 bel lt0) trodAll_mk0), rfl, bel.frame _, fun h => by cases h⟩

theorem over : Rows.labelReadsRow.holds Tryd.pinned (OpenSpec.ofChange Rows.labelReadsSpec) :=
  OpenClaim.holds_of_wide 5 Tryd.f5 rfl rfl rfl rfl rfl rfl rfl ⟨rfl, rfl, rfl, rfl, rfl⟩ rfl rfl rfl rfl rfl (by kernel_rfl) Tryd.func5 (by kernel_rfl)
    (of_decide_eq_true (by kernel_rfl)) (by unfold Func.isWrapper; first | (rw [if_pos (by decide +kernel)]; kernel_rfl) | (rw [if_neg (by decide +kernel)]; exact ⟨rfl, rfl⟩))
    (fun os started H enc _ => lifted os started H enc)

theorem proved : Rows.LabelReadsCardSaid :=
  Claim7.holds_tied_plain_at .later [] [.data] true _ false
    over (fun _ h => by cases h) (by kernel_rfl) (fun _ h => by cases h) labelReads_row_tie rfl ⟨rfl, rfl⟩ (by kernel_rfl) rfl
    (fun f fn hf hfn => by
      obtain rfl : f = 5 := Option.some.inj ((show Tryd.prog.funcNamed "haymow/haymowlaw05.LabelReads" = some 5 by kernel_rfl).symm.trans hf) |>.symm
      obtain rfl : fn = Tryd.f5 := (Option.some.inj (Tryd.func5.symm.trans hfn)).symm
      exact ⟨by kernel_rfl, fun j t ht => by
        rw [Tryd.params5] at ht
        have hm : t ∈ [24] := by simpa using Array.mem_of_getElem? ht
        have hall : ([24].all fun u => !Tryd.prog.wantsStandIn u) = true := by kernel_rfl
        exact (show Tryd.prog.wantsStandIn t = false by simpa using List.all_eq_true.1 hall t hm)⟩)
    (by kernel_rfl)
#print axioms proved
end Go.Proofs.YthneomligbkmgaaDoor.labelReads
