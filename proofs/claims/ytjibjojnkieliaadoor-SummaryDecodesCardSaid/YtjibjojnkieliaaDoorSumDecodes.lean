/-
  Whatever octets there are, summary.Decode answers the document's part, or refuses them with its error. Conditions: crc.halves holds what its text lays, tied to the program.
-/
import Derived.Test.YtjibjojnkieliaaDoorSumAwake
import Derived.Test.YtjibjojnkieliaaDoorCrcTab
import Derived.Test.YtjibjojnkieliaaDoorOpenPart
import Derived.Test.YtjibjojnkieliaaDoorCards
import Derived.Test.YtjibjojnkieliaaDoorTie
import Derived.SevenTiedAt
import Derived.Deep.RegionHeld3
import Derived.BigQuiet
namespace Go.Proofs.YtjibjojnkieliaaDoor.summaryDecodes
open Go.ChangeShapes Go.WideShapes Go.ChangeAt Go.RowKit
set_option linter.unusedVariables false

set_option maxRecDepth 100000 in
set_option maxHeartbeats 2000000 in
theorem cut (A : Option Addr) (n0 n c : Nat) (bs : List UInt8) (w : World) (hn : bs.length = n) (hnc : n ≤ c) (hcm : c ≤ maxLen) (hr : Rd w w.heap.size A (bs.map bv)) (ht : Tab w)
    (hcut : (n0 ≤ 200 ∧ n0 = n) ∨ (200 < n0 ∧ n = 200 ∧ (∃ b o, A = some ⟨b, o, none⟩) ∧ n0 ≤ c)) :
    Calls Tryd.prog 4 #[.slice A n0 c] w fun e w' => e = .returned (.bool true) ∧ Below w.heap.size w w' := by
  have HN := Lib.hid hn
  have HR := Lib.hid hr
  have HT := Lib.hid ht
  have HC : Hid (∀ w', Below w.heap.size w w' → (convert 26 9 (.slice A n c)).run Tryd.prog w' = .ok (.string (str bs)) w') := fun w' hb =>
    run_conv 26 5 9 Tryd.underlying26 Tryd.underlying5 under_strC n c hn (hr.below hb)
  obtain ⟨q, hq⟩ : ∃ q, decQ bs = q := ⟨_, rfl⟩
  obtain ⟨P, hP⟩ : ∃ P, decR bs = P := ⟨_, rfl⟩
  obtain ⟨⟨s, x, f, l⟩, rfl⟩ : ∃ Q, Q = P := ⟨_, rfl⟩
  have HDE : Hid (∀ w', Below w.heap.size w w' → Calls Tryd.prog 13 #[.slice A n c] w' fun e w'' => ∃ v, e = .returned (.tuple #[v, .int .i64 q]) ∧ PtAt w'' v ⟨s, x, f, l⟩ ∧ Below w'.heap.size w' w'') := fun w' hb => by
    have h := sumDecode_any w.heap.size A n c bs w' hn (hr.below hb) hb.size hnc hcm (ht.up hb)
    rw [hq, hP] at h
    exact h
  have HRD : Hid (∀ w', Calls Tryd.prog 16 #[.string (str bs)] w' fun e w'' => ∃ v, e = .returned (.tuple #[v, .int .i64 q]) ∧ PtAt w'' v ⟨s, x, f, l⟩ ∧ Below w'.heap.size w' w'') := fun w' => by
    have h := refDecode_any bs w' (by unfold maxLen at hcm; omega)
    rw [hq, hP] at h
    exact h
  unfold maxLen at hcm
  clear hn hr ht hq hP
  rcases hcut with ⟨h1, rfl⟩ | ⟨h1, rfl, ⟨b0, o0, rfl⟩, h2⟩
  case' inl => have hno : ¬ (200 : Int) < (n0 : Int) := by omega
  case' inr => have hyes : (200 : Int) < (n0 : Int) := by omega
  all_goals
    go_enter Tryd.func4, Tryd.ntmps4
    go_wp2_with fail
    refine (HDE.out _ (Below.refl _ _)).mono ?_
    rintro e w1 ⟨v, rfl, ⟨A1, c1, rfl, hc1, hm1, hr1⟩, hb1⟩
    unfold ptV
    simp only
    have HB1 := Lib.hid hb1
    have HR1 := Lib.hid hr1
    have HX1 := Lib.hid (And.intro hc1 hm1)
    have KX := Lib.hid (Bk.new w1 24 #[.int .i64 s, .int .i64 x, .bool f, .slice A1 l.length c1])
    have HB2 := Lib.hid (hb1.alloc hb1.size (.cells #[.int .i64 s, .int .i64 x, .bool f, .slice A1 l.length c1] 24))
    have HB12 := Lib.hid ((Below.refl w1.heap.size w1).alloc (Nat.le_refl _) (.cells #[.int .i64 s, .int .i64 x, .bool f, .slice A1 l.length c1] 24))
    have hcv := HC.out _ HB2.out
    clear hb1 hr1 hc1 hm1
    go_wp2_with fail
    refine (HRD.out _).mono ?_
    rintro e w3 ⟨v, rfl, ⟨A3, c3, rfl, hc3, hm3, hr3⟩, hb3⟩
    unfold ptV
    simp only
    have HR3 := Lib.hid hr3
    have HB13 := Lib.hid (HB12.out.trans (hb3.mono HB12.out.size))
    have KX := Lib.hid ((KX.out.below hb3 KX.out.lt).alloc (.cells #[.int .i64 s, .int .i64 x, .bool f, .slice A3 l.length c3] 24))
    have KY := Lib.hid (Bk.new w3 24 #[.int .i64 s, .int .i64 x, .bool f, .slice A3 l.length c3])
    have HB34 := Lib.hid ((Below.refl w3.heap.size w3).alloc (Nat.le_refl _) (.cells #[.int .i64 s, .int .i64 x, .bool f, .slice A3 l.length c3] 24))
    have HB14 := Lib.hid (HB13.out.trans (HB34.out.mono HB13.out.size))
    have HB4 := Lib.hid (HB1.out.trans (HB14.out.mono HB1.out.size))
    have HLM : Hid (l.length ≤ 9223372036854775807) := by show _ ≤ _; have h1 := HX1.out.1; have h2 := HX1.out.2; unfold maxLen at h2; omega
    clear hb3 hc3 hm3 hr3 hcv
    obtain ⟨c0, c1', c2, c3', -⟩ := ent_cells KX.out
    obtain ⟨d0, d1, d2, d3, -⟩ := ent_cells KY.out
    go_wp2_with fail
    have HSM := refSame_any s x f A1 l.length c1 l s x f A3 l.length c3 l true _ rfl rfl HLM.out HLM.out ((HR1.out.below HB14.out).mono HB14.out.size) ((HR3.out.below HB34.out).mono HB34.out.size) ⟨fun _ => rfl, fun _ => rfl⟩
    unfold ptV at HSM
    refine HSM.mono ?_
    rintro e w5 ⟨rfl, hb5⟩
    have HB5 := Lib.hid (HB4.out.trans (hb5.mono HB4.out.size))
    clear hb5 HSM
    go_wp2_with fail
    refine (awake_any _ (HT.out.up HB5.out)).mono ?_
    rintro e w7 ⟨rfl, hb7⟩
    have HB7 := Lib.hid (HB5.out.trans (hb7.mono HB5.out.size))
    clear hb7
    go_wp2
    go_ret
    exact ⟨rfl, HB7.out⟩
theorem walk (A : Option Addr) (c : Nat) (bs : List UInt8) (w : World) (hr : Rd w w.heap.size A (bs.map bv)) (hc : bs.length ≤ c) (hcm : c ≤ maxLen) (ht : Tab w) :
    Calls Tryd.prog 4 #[.slice A bs.length c] w fun e w' => e = .returned (.bool true) ∧ Below w.heap.size w w' := by
  have hR : Rd w w.heap.size A ((bs.take 200).map bv) := by rw [List.map_take]; exact hr.take 200
  have hl := List.length_take (i := 200) (l := bs)
  refine cut A bs.length _ c (bs.take 200) w rfl (by omega) hcm hR ht ?_
  by_cases h : bs.length ≤ 200
  · exact .inl ⟨h, by omega⟩
  · obtain ⟨b, o, rfl, _, _⟩ := hr.plain (by simp; omega)
    exact .inr ⟨by omega, by omega, ⟨b, o, rfl⟩, hc⟩

set_option maxRecDepth 100000 in
theorem lifted (os : Os) (started : os.Started) (H : Type) (enc : TypeId × Value → H) :
    ReturnsInHanded {} Tryd.checked os 4 .any (fun w args => (Rows.summaryDecodesSpec.pre enc Tryd.prog Tryd.f4 [] false w args ∧ laidMetH Tryd.prog laidHalves w) ∧ sizedMet enc Tryd.prog Tryd.f4 (OpenSpec.ofChange Rows.summaryDecodesSpec) false w args) (Rows.summaryDecodesSpec.post enc Tryd.prog Tryd.f4 false true false false) := by
  refine returnsInHanded_of_change_and (C := Tryd.checked) (X := fun w _ => laidMetH Tryd.prog laidHalves w) (fun _ _ _ hh h => h.of_heap hh) own started (by kernel_rfl) Tryd.func4
    (ChangeSpec.witness_shaped (enc := enc) (C := Tryd.checked) (os := os) (X := fun w _ => laidMetH Tryd.prog laidHalves w) false (World.doorLaid Tryd.prog 400 os) #[.slice none 0 0] 8 rfl (World.shaped_of_RefB (by kernel_rfl) (by kernel_rfl)) (by kernel_rfl) (by kernel_rfl) (by kernel_rfl) (door_met os _)) ?_
  intro W base args ds gs before hval0 hW _ _ hL _
  have hTab := tab_of_laid hL
  have hval : ∀ (j : Nat) t v, Tryd.f4.params[j]? = some t → args[j]? = some v → Value.okWide Tryd.prog W .any base t v := hval0
  have hW' := hW
  obtain ⟨p, q, hA0, hV, rfl, hfz, hnd⟩ := hW
  have hA : DataW.TrodAll enc Tryd.prog W 0 (fun _ => true) true Tryd.f4.params.toList args.toList ds p := hA0
  rw [Tryd.params4] at hA hval
  obtain ⟨v0, vs0, d0, ds0, p0, q0, hargs, rfl, rfl, h0, r0⟩ := trodAll_cons hA
  obtain ⟨rfl, rfl, rfl⟩ := trodAll_nil r0
  obtain rfl : args = #[v0] := by cases args; simp_all
  obtain ⟨rfl, rfl⟩ := trodVars_none hV
  obtain ⟨a0, len0, cap0, rfl⟩ := okWide_slice Tryd.underlying26 (hval 0 26 v0 rfl rfl)
  have lt0 : ∀ x ∈ p0, x.block < W.heap.size := by obtain ⟨m, hm⟩ := h0; exact DataW.trod_lt m _ _ _ hm
  obtain ⟨x0, rfl, hc0, hm0, hr0⟩ := bytes_in Tryd.underlying26 Tryd.underlying5 (by kernel_rfl) h0
  clear hA0 hval0
  refine (walk a0 cap0 x0 W hr0 hc0 hm0 hTab).mono fun e W' ⟨he, bel⟩ => ?_
  subst he
  exact ⟨_, rfl, _, _, _, [], _, [], hW', trodAll_mk1 (shut_bool Tryd.underlying4 _), (trodAll_cons_mk (Below.trod laidOut (by kernel_rfl) (of_decide_eq_true (by kernel_rfl)) h0 bel lt0) trodAll_mk0), rfl, bel.frame _, fun h => by cases h⟩

theorem over : Rows.summaryDecodesRow.holds Tryd.pinned (OpenSpec.ofChange Rows.summaryDecodesSpec) :=
  OpenClaim.holds_of_wide 4 Tryd.f4 rfl rfl rfl rfl rfl rfl rfl ⟨rfl, rfl, rfl, rfl, rfl⟩ rfl rfl rfl rfl rfl (by kernel_rfl) Tryd.func4 (by kernel_rfl)
    (of_decide_eq_true (by kernel_rfl)) (by unfold Func.isWrapper; first | (rw [if_pos (by decide +kernel)]; kernel_rfl) | (rw [if_neg (by decide +kernel)]; exact ⟨rfl, rfl⟩))
    (fun os started H enc _ => lifted os started H enc)

theorem proved : Rows.SummaryDecodesCardSaid :=
  Claim7.holds_tied_plain_at .later [] [.data] true _ false
    over (fun _ h => by cases h) (by kernel_rfl) (fun _ h => by cases h) summaryDecodes_row_tie rfl ⟨rfl, rfl⟩ (by kernel_rfl) rfl
    (fun f fn hf hfn => by
      obtain rfl : f = 4 := Option.some.inj ((show Tryd.prog.funcNamed "haymow/haymowlaw06.SummaryDecodes" = some 4 by kernel_rfl).symm.trans hf) |>.symm
      obtain rfl : fn = Tryd.f4 := (Option.some.inj (Tryd.func4.symm.trans hfn)).symm
      exact ⟨by kernel_rfl, fun j t ht => by
        rw [Tryd.params4] at ht
        have hm : t ∈ [26] := by simpa using Array.mem_of_getElem? ht
        have hall : ([26].all fun u => !Tryd.prog.wantsStandIn u) = true := by kernel_rfl
        exact (show Tryd.prog.wantsStandIn t = false by simpa using List.all_eq_true.1 hall t hm)⟩)
    (by kernel_rfl)
#print axioms proved
end Go.Proofs.YtjibjojnkieliaaDoor.summaryDecodes
