/-
  Whatever octets are sealed, crc.Seal answers the document's block, or refuses; and what was handed in stays. Conditions: crc.halves holds what its text lays, tied to the program.
-/
import Derived.Test.YtngbkeaonkocmaaDoorCrcAwake
import Derived.Test.YtngbkeaonkocmaaDoorCrcTab
import Derived.Test.YtngbkeaonkocmaaDoorOpen
import Derived.Test.YtngbkeaonkocmaaDoorCards
import Derived.Test.YtngbkeaonkocmaaDoorTie
import Derived.SevenTiedAt
import Derived.Deep.RegionHeld3
namespace Go.Proofs.YtngbkeaonkocmaaDoor.crcSeals
open Go.ChangeShapes Go.WideShapes Go.ChangeAt Go.RowKit
set_option linter.unusedVariables false

set_option maxRecDepth 100000 in
set_option maxHeartbeats 4000000 in
theorem cut (A : Option Addr) (n l c : Nat) (bs : List UInt8) (w : World) (hn : bs.length = n) (hnc : n ≤ c) (hcm : c ≤ 9223372036854775807) (hr : Rd w w.heap.size A (bs.map bv)) (ht : Tab w)
    (hfew : Calls Tryd.prog 8 #[.slice A l c] w fun e w' => e = .returned (.slice A n c) ∧ w = w') :
    Calls Tryd.prog 4 #[.slice A l c] w fun e w' => e = .returned (.bool true) ∧ Below w.heap.size w w' := by
  have HFEW := Lib.hid hfew
  have HCONV : Hid (∀ w', Below w.heap.size w w' → (convert 23 9 (.slice A n c)).run Tryd.prog w' = .ok (.string (str bs)) w') := fun w' hb =>
    run_conv 23 5 9 Tryd.underlying23 Tryd.underlying5 under_str n c hn (hr.below hb)
  have HAW : Hid (∀ w', Below w.heap.size w w' → Calls Tryd.prog 13 #[] w' fun e w'' => e = .returned (.bool true) ∧ Below w.heap.size w w'') := fun w' hb =>
    (awake_any w' (ht.up hb)).mono fun e w'' ⟨he, hb'⟩ => ⟨he, hb.trans (hb'.mono hb.size)⟩
  have HN := Lib.hid hn
  have HR := Lib.hid hr
  have HT := Lib.hid ht
  have hcv := HCONV.out w (Below.refl _ _)
  clear hfew hr ht
  by_cases h124 : 124 < n
  · have h' : (124 : Int) < (n : Int) := by omega
    clear hn
    go_enter Tryd.func4, Tryd.ntmps4
    go_wp2_with fail
    refine HFEW.out.mono ?_
    rintro e w1 ⟨rfl, hw1⟩
    obtain rfl := hw1
    go_wp2_with fail
    refine (Seal_full n A c _ h124).mono ?_
    rintro e w1 ⟨rfl, hw1⟩
    obtain rfl := hw1
    go_wp2_with fail
    refine (HAW.out _ (Below.refl _ _)).mono ?_
    rintro e w1 ⟨rfl, hb1⟩
    go_wp2
    go_ret
    exact ⟨rfl, hb1⟩
  · have h' : ¬ (124 : Int) < (n : Int) := by omega
    have hle : bs.length ≤ 124 := by omega
    have HL := Lib.hid hle
    have HREF : Hid (∀ B w', B ≤ w'.heap.size → Calls Tryd.prog 15 #[.string (str bs)] w' fun e w'' => e = .returned (.string (str (sealB bs))) ∧ Below B w' w'') := fun B w' hB =>
      (refSeal_any bs w' hle).mono fun e w'' ⟨he, hb'⟩ => ⟨he, hb'.mono hB⟩
    clear hn hle
    go_enter Tryd.func4, Tryd.ntmps4
    go_wp2_with fail
    refine HFEW.out.mono ?_
    rintro e w1 ⟨rfl, hw1⟩
    obtain rfl := hw1
    go_wp2_with fail
    have hseal := Seal_any _ A c bs _ HR.out (Nat.le_refl _) HL.out HT.out
    rw [HN.out] at hseal
    refine hseal.mono ?_
    rintro e w1 ⟨g, rfl, hg, hbk, hb⟩
    have HB1 := Lib.hid hb
    have hcv1 := HCONV.out _ hb
    have hX : Rd w1 w1.heap.size (some ⟨g, 0, none⟩) ((sealB bs).map bv) := by simpa using Rd.bk hbk
    have HCX : Hid (∀ w', Below w1.heap.size w1 w' → (convert 23 9 (.slice (some ⟨g, 0, none⟩) 128 128)).run Tryd.prog w' = .ok (.string (str (sealB bs))) w') := fun w' hb =>
      run_conv 23 5 9 Tryd.underlying23 Tryd.underlying5 under_str 128 128 (sealB_length bs HL.out) (hX.below hb)
    have HREF1 : Hid (∀ w', Below w1.heap.size w1 w' → Calls Tryd.prog 15 #[.string (str bs)] w' fun e w'' => e = .returned (.string (str (sealB bs))) ∧ Below w1.heap.size w1 w'') := fun w' hb =>
      (HREF.out _ w' hb.size).mono fun e w'' ⟨he, hb'⟩ => ⟨he, hb.trans hb'⟩
    have HHELD : Hid (∀ w', Below w1.heap.size w1 w' → Calls Tryd.prog 16 #[.slice (some ⟨g, 0, none⟩) 128 128] w' fun e w'' => e = .returned (.bool true) ∧ Below w1.heap.size w1 w'') := fun w' hbw =>
      (Held_any _ _ 128 128 (sealB bs) true w' (hX.below hbw) hbw.size (sealB_length bs HL.out) (Nat.le_refl _) (heldB_seal bs HL.out) ((HT.out.up HB1.out).up hbw)).mono fun e w'' ⟨he, hb'⟩ => ⟨he, hbw.trans (hb'.mono hbw.size)⟩
    have HAW1 : Hid (∀ w', Below w1.heap.size w1 w' → Calls Tryd.prog 13 #[] w' fun e w'' => e = .returned (.bool true) ∧ Below w1.heap.size w1 w'') := fun w' hbw =>
      (awake_any w' ((HT.out.up HB1.out).up hbw)).mono fun e w'' ⟨he, hb'⟩ => ⟨he, hbw.trans (hb'.mono hbw.size)⟩
    obtain ⟨S, hS⟩ : ∃ S, S = str (sealB bs) := ⟨_, rfl⟩
    rw [← hS] at HCX HREF1
    have HS := Lib.hid hS
    have hb0 : Below w1.heap.size w1 w1.drew := (Below.refl _ _).drew
    clear hbk hb hS hX
    go_wp2
    go_region_held3 (fun w' => (convert 23 9 (.slice (some ⟨g, 0, none⟩) 128 128)).run Tryd.prog w' = .ok (.string S) w') (exact HCX.out _ (by assumption))
      (first
        | (go_at_call 16; (with_reducible refine (HHELD.out _ (by assumption)).mono ?_); rintro e w3 ⟨rfl, hbw⟩)
        | (go_at_call 15; (with_reducible refine (HREF1.out _ (by assumption)).mono ?_); rintro e w3 ⟨rfl, hbw⟩)
        | (go_at_call 13; (with_reducible refine (HAW1.out _ (by assumption)).mono ?_); rintro e w3 ⟨rfl, hbw⟩))
    go_wp2
    go_ret
    exact ⟨rfl, HB1.out.trans (Below.mono (by assumption) HB1.out.size)⟩
theorem walk (A : Option Addr) (c : Nat) (bs : List UInt8) (w : World) (hr : Rd w w.heap.size A (bs.map bv)) (hc : bs.length ≤ c) (hcm : c ≤ maxLen) (ht : Tab w) :
    Calls Tryd.prog 4 #[.slice A bs.length c] w fun e w' => e = .returned (.bool true) ∧ Below w.heap.size w w' := by
  have hfew := few_any w.heap.size A c bs w hr hc hcm
  unfold maxLen at hcm
  have hR : Rd w w.heap.size A ((bs.take 300).map bv) := by rw [List.map_take]; exact hr.take 300
  have hl := List.length_take (i := 300) (l := bs)
  exact cut A _ bs.length c (bs.take 300) w rfl (by omega) hcm hR ht hfew

set_option maxRecDepth 100000 in
theorem lifted (os : Os) (started : os.Started) (H : Type) (enc : TypeId × Value → H) :
    ReturnsInHanded {} Tryd.checked os 4 .any (fun w args => (Rows.crcSealsSpec.pre enc Tryd.prog Tryd.f4 [] false w args ∧ laidMetH Tryd.prog laidHalves w) ∧ sizedMet enc Tryd.prog Tryd.f4 (OpenSpec.ofChange Rows.crcSealsSpec) false w args) (Rows.crcSealsSpec.post enc Tryd.prog Tryd.f4 false true false false) := by
  refine returnsInHanded_of_change_and (C := Tryd.checked) (X := fun w _ => laidMetH Tryd.prog laidHalves w) (fun _ _ _ hh h => h.of_heap hh) own started (by kernel_rfl) Tryd.func4
    (ChangeSpec.witness_shaped (enc := enc) (C := Tryd.checked) (os := os) (X := fun w _ => laidMetH Tryd.prog laidHalves w) false (World.doorLaid Tryd.prog 400 os) #[.slice none 0 0] 8 rfl (World.shaped_of_RefB (by kernel_rfl) (by kernel_rfl)) (by kernel_rfl) (by kernel_rfl) (by kernel_rfl) (door_met os _)) ?_
  intro W base args ds gs before hval0 hW _ _ hL _
  have hTab := tab_of_laid hL
  have hval : ∀ (j : Nat) t v, Tryd.f4.params[j]? = some t → args[j]? = some v → Value.okWide Tryd.prog W .any base t v := hval0
  have hW' := hW
  obtain ⟨p, q, hA0, hV, rfl, hfz, hnd⟩ := hW
  have hA : DataW.TrodAll enc Tryd.prog W 0 (fun _ => true) true Tryd.f4.params.toList args.toList ds p := hA0
  rw [Tryd.params4] at hA hval
  obtain ⟨v0, vs0, d0, ds0, p0, q0, hargs, rfl, rfl, h0, r0⟩ := trodAll_cons hA
  obtain ⟨rfl, rfl, rfl⟩ := trodAll_nil r0
  obtain rfl : args = #[v0] := by cases args; simp_all
  obtain ⟨rfl, rfl⟩ := trodVars_none hV
  obtain ⟨a0, len0, cap0, rfl⟩ := okWide_slice Tryd.underlying23 (hval 0 23 v0 rfl rfl)
  have lt0 : ∀ x ∈ p0, x.block < W.heap.size := by obtain ⟨m, hm⟩ := h0; exact DataW.trod_lt m _ _ _ hm
  obtain ⟨x0, rfl, hc0, hm0, hr0⟩ := bytes_in Tryd.underlying23 Tryd.underlying5 (by kernel_rfl) h0
  clear hA0 hval0
  refine (walk a0 cap0 x0 W hr0 hc0 hm0 hTab).mono fun e W' ⟨he, bel⟩ => ?_
  subst he
  exact ⟨_, rfl, _, _, _, [], _, [], hW', trodAll_mk1 (shut_bool Tryd.underlying4 _), (trodAll_cons_mk (Below.trod laidOut (by kernel_rfl) (of_decide_eq_true (by kernel_rfl)) h0 bel lt0) trodAll_mk0), rfl, bel.frame _, fun h => by cases h⟩

theorem over : Rows.crcSealsRow.holds Tryd.pinned (OpenSpec.ofChange Rows.crcSealsSpec) :=
  OpenClaim.holds_of_wide 4 Tryd.f4 rfl rfl rfl rfl rfl rfl rfl ⟨rfl, rfl, rfl, rfl, rfl⟩ rfl rfl rfl rfl rfl (by kernel_rfl) Tryd.func4 (by kernel_rfl)
    (of_decide_eq_true (by kernel_rfl)) (by unfold Func.isWrapper; first | (rw [if_pos (by decide +kernel)]; kernel_rfl) | (rw [if_neg (by decide +kernel)]; exact ⟨rfl, rfl⟩))
    (fun os started H enc _ => lifted os started H enc)

theorem proved : Rows.CrcSealsCardSaid :=
  Claim7.holds_tied_plain_at .later [] [.data] true _ false
    over (fun _ h => by cases h) (by kernel_rfl) (fun _ h => by cases h) crcSeals_row_tie rfl ⟨rfl, rfl⟩ (by kernel_rfl) rfl
    (fun f fn hf hfn => by
      obtain rfl : f = 4 := Option.some.inj ((show Tryd.prog.funcNamed "haymow/haymowlaw02.CrcSeals" = some 4 by kernel_rfl).symm.trans hf) |>.symm
      obtain rfl : fn = Tryd.f4 := (Option.some.inj (Tryd.func4.symm.trans hfn)).symm
      exact ⟨by kernel_rfl, fun j t ht => by
        rw [Tryd.params4] at ht
        have hm : t ∈ [23] := by simpa using Array.mem_of_getElem? ht
        have hall : ([23].all fun u => !Tryd.prog.wantsStandIn u) = true := by kernel_rfl
        exact (show Tryd.prog.wantsStandIn t = false by simpa using List.all_eq_true.1 hall t hm)⟩)
    (by kernel_rfl)
#print axioms proved
end Go.Proofs.YtngbkeaonkocmaaDoor.crcSeals
