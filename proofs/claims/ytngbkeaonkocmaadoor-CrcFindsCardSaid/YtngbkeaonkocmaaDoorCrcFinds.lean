/-
  A sealed block with one up to 32 bits beside one another turned over is none. Conditions: crc.halves holds what its text lays, tied to the program.
-/
import Derived.Test.YtngbkeaonkocmaaDoorCrcAwake
import Derived.Test.YtngbkeaonkocmaaDoorCrcBits
import Derived.Test.YtngbkeaonkocmaaDoorCrcTab
import Derived.Test.YtngbkeaonkocmaaDoorOpen
import Derived.Test.YtngbkeaonkocmaaDoorCards
import Derived.Test.YtngbkeaonkocmaaDoorTie
import Derived.SevenTiedAt
namespace Go.Proofs.YtngbkeaonkocmaaDoor.crcFinds
open Go.ChangeShapes Go.WideShapes Go.ChangeAt Go.RowKit
set_option linter.unusedVariables false

set_option maxRecDepth 100000 in
set_option maxHeartbeats 4000000 in
theorem cut (A : Option Addr) (n l c m : Nat) (at_ turn : Int) (bs : List UInt8) (w : World) (hm : bs.length = m) (hcut : 124 < n ∧ m = 124 ∨ n ≤ 124 ∧ n = m) (hnc : n ≤ c) (hcm : c ≤ 9223372036854775807) (hr : Rd w w.heap.size A (bs.map bv)) (ht : Tab w)
    (hat : 0 ≤ at_ ∧ at_ ≤ 18446744073709551615) (htu : 0 ≤ turn ∧ turn ≤ 4294967295)
    (hfew : Calls Tryd.prog 8 #[.slice A l c] w fun e w' => e = .returned (.slice A n c) ∧ w = w') :
    Calls Tryd.prog 6 #[.slice A l c, .int .u64 at_, .int .u32 turn] w fun e w' => e = .returned (.bool true) ∧ Below w.heap.size w w' := by
  have HFEW := Lib.hid hfew
  have HT := Lib.hid ht
  have hle : bs.length ≤ 124 := by omega
  have HLE := Lib.hid hle
  have hseal := Seal_any _ A c bs w hr (Nat.le_refl _) hle ht
  rw [hm] at hseal
  have HSEAL := Lib.hid hseal
  obtain ⟨ha1, ha2⟩ := hat
  obtain ⟨ht1, ht2⟩ := htu
  clear hfew hr ht hm hle hseal
  rcases hcut with ⟨hn, rfl⟩ | ⟨hn, rfl⟩
  all_goals
    go_enter Tryd.func6, Tryd.ntmps6
    go_wp2_with fail
    refine HFEW.out.mono ?_
    rintro e w1 ⟨rfl, hw1⟩
    obtain rfl := hw1
    go_wp2_with fail
    with_reducible refine HSEAL.out.mono ?_
    rintro e w1 ⟨g, rfl, hg, hbk, hb⟩
    have HB1 := Lib.hid hb
    have HBK := Lib.hid hbk
    have HL8 := Lib.hid (sealB_length bs HLE.out)
    have HHELD : Hid (heldB (sealB bs) = true) := heldB_seal bs HLE.out
    obtain ⟨x0, hx0⟩ : ∃ x0, x0 = sealB bs := ⟨_, rfl⟩
    rw [← hx0] at HBK HL8 HHELD
    have hX : Rd w1 w1.heap.size (some ⟨g, 0, none⟩) (x0.map bv) := by simpa using Rd.bk HBK.out
    have HC : Hid (Calls Tryd.prog 16 #[.slice (some ⟨g, 0, none⟩) 128 128] w1 fun e w'' => e = .returned (.bool true) ∧ Below w1.heap.size w1 w'') :=
      Held_any _ _ 128 128 x0 true w1 hX (Nat.le_refl _) HL8.out (Nat.le_refl _) HHELD.out (HT.out.up HB1.out)
    clear hb hbk hx0 hX
    go_wp2_with fail
    with_reducible refine HC.out.mono ?_
    rintro e w2 ⟨rfl, hb2⟩
    have HB2 := Lib.hid (HB1.out.trans (hb2.mono HB1.out.size))
    have hgl := HBK.out.lt
    have HBK2 := Lib.hid (HBK.out.below hb2 hgl)
    clear hb2
    by_cases h0 : turn = 0
    · subst h0
      go_wp2_with fail
      refine (awake_any _ (HT.out.up HB2.out)).mono ?_
      rintro e w3 ⟨rfl, hb3⟩
      go_wp2
      go_ret
      exact ⟨rfl, HB2.out.trans (hb3.mono HB2.out.size)⟩
    · have hz : (turn == 0) = false := by simpa using h0
      obtain ⟨t, rfl⟩ := Int.eq_ofNat_of_zero_le ht1
      have htl : t < 4294967296 := by omega
      have ht0 : t ≠ 0 := by omega
      obtain ⟨k, hk⟩ : ∃ k : Nat, (k : Int) = at_ % 993 := ⟨(at_ % 993).toNat, by omega⟩
      have hk992 : k ≤ 992 := by omega
      obtain ⟨wd, hwd⟩ : ∃ wd : Nat, wd = t * 2 ^ (k % 8) := ⟨_, rfl⟩
      have hwl : wd < 549755813888 := by
        have h8 : k % 8 ≤ 7 := by omega
        have : 2 ^ (k % 8) ≤ 2 ^ 7 := Nat.pow_le_pow_right (by omega) h8
        have h3 : t * 2 ^ (k % 8) ≤ t * 2 ^ 7 := Nat.mul_le_mul_left _ this
        have h5 : (2 : Nat) ^ 7 = 128 := by decide
        omega
      have HW : Hid (IntKind.u64.wrap ((t : Int) * 2 ^ (at_ % 993 % 8).toNat) = (wd : Int)) := by
        show _ = _
        rw [← hk, show ((k : Int) % 8).toNat = k % 8 from by omega, hwd]
        rw [show (t : Int) * 2 ^ (k % 8) = ((t * 2 ^ (k % 8) : Nat) : Int) by simp, ← hwd]
        simp [IntKind.wrap, IntKind.bits, IntKind.signed]
        omega
      have HWD := Lib.hid hwd
      have HK := Lib.hid hk
      have HT0 := Lib.hid ht0
      clear hwd hk ht0
      go_wp2_with fail
      rw [HW.out, ← HK.out]
      go_loopw [11] (fun i wr => ∃ (j : Nat) (x : List UInt8), j ≤ 5 ∧ k / 8 + j ≤ 128 ∧ i = .int .u64 (j : Int) ∧ Hid (x.length = 128) ∧ Hid (leN x = leN x0 ^^^ (2 ^ (8 * (k / 8)) * (wd % 2 ^ (8 * j)))) ∧ Hid (Bk wr g 5 (x.map bv).toArray) ∧ Hid (Below w.heap.size w wr)) (fun i _ => 5 - (intOf i).toNat)
      case atStart => exact ⟨0, x0, by omega, by omega, rfl, HL8, by simp [Hid, Nat.mod_one], HBK2, HB2⟩
      case round =>
        obtain ⟨j, x, hj, hkj, rfl, HLX, HLE2, HBk, HBw⟩ := hrel
        by_cases hgo : j < 5 ∧ k / 8 + j < 128
        · obtain ⟨hj5, hj128⟩ := hgo
          obtain ⟨y, hy⟩ : ∃ y, x[k / 8 + j]? = some y := ⟨_, List.getElem?_eq_getElem (by rw [HLX.out]; exact hj128)⟩
          obtain ⟨b, hb⟩ : ∃ b : UInt8, b = UInt8.ofNat (wd / 2 ^ (8 * j)) := ⟨_, rfl⟩
          have hbn : b.toNat = wd / 2 ^ (8 * j) % 256 := by rw [hb, UInt8.toNat_ofNat']
          have HTS := Lib.hid (turn_step x _ wd j (k / 8) y b hy hbn HLE2.out)
          have hcy : wr.cell? ⟨g, k / 8 + j, none⟩ = some (.int .u8 (y.toNat : Int)) := by
            rw [HBk.out.cell]; simp [hy, bv]
          have hfr := HBk.out.free (k / 8 + j)
          have HXY := Lib.hid (u8_xor_nat y.toNat b.toNat y.toNat_lt b.toNat_lt)
          have HBI : Hid ((wd : Int) / 2 ^ (8 * j) % 256 = (b.toNat : Int)) := by rw [hbn]; simp [Hid]
          have hj' : (j : Int) < 5 := by omega
          have hj2 : (k : Int) / 8 + (j : Int) < 128 := by omega
          have HB' := Lib.hid hb
          have HYY := Lib.hid hy
          clear hb hbn hy
          have hy8 := y.toNat_lt
          have hsz := HBw.out.size
          go_wp2_with fail
          go_roundw
          case rel =>
            refine ⟨j + 1, x.set (k / 8 + j) (y ^^^ b), by omega, by omega, by go_num, ?_, HTS.out, ?_, HBw.out.setCell hg _⟩
            · show _ = _; rw [List.length_set]; exact HLX.out
            · have h := HBk.out.set_ (k / 8 + j) (bv (y ^^^ b))
              have e : (x.map bv).toArray.setIfInBounds (k / 8 + j) (bv (y ^^^ b)) = ((x.set (k / 8 + j) (y ^^^ b)).map bv).toArray := by simp [List.map_set]
              rw [e] at h
              rw [HBI.out, HXY.out, ← UInt8.toNat_xor]
              exact h
          case measure => simp [intOf]; omega
        · have hfin : j = 5 ∨ (k / 8 + j = 128 ∧ j ≤ 5) := by omega
          have hall := turn_all t k j htl hk992 hfin
          rw [← HWD.out] at hall
          have hbad : heldB x = false := burst x0 x t k HL8.out HLX.out HHELD.out htl HT0.out hk992 (by rw [HLE2.out, hall])
          have hX : Rd wr wr.heap.size (some ⟨g, 0, none⟩) (x.map bv) := by simpa using Rd.bk HBk.out
          have HC2 : Hid (Calls Tryd.prog 16 #[.slice (some ⟨g, 0, none⟩) 128 128] wr fun e w'' => e = .returned (.bool false) ∧ Below wr.heap.size wr w'') :=
            Held_any _ _ 128 128 x false wr hX (Nat.le_refl _) HLX.out (Nat.le_refl _) hbad (HT.out.up HBw.out)
          have hout : (((j : Int) < 5 ∧ decide ((k : Int) / 8 + (j : Int) < 128) = false) ∨ decide ((j : Int) < 5) = false) := by
            by_cases h : j < 5
            · exact .inl ⟨by omega, by simp; omega⟩
            · exact .inr (by simp; omega)
          clear hall hbad hX hfin hgo
          rcases hout with ⟨ho1, ho2⟩ | ho1
          all_goals
            go_wp2_with fail
            with_reducible refine HC2.out.mono ?_
            rintro e w3 ⟨rfl, hb3⟩
            have HB3 := Lib.hid (HBw.out.trans (hb3.mono HBw.out.size))
            clear hb3
            go_wp2_with fail
            refine (awake_any _ (HT.out.up HB3.out)).mono ?_
            rintro e w4 ⟨rfl, hb4⟩
            go_wp2
            go_ret
            exact ⟨rfl, HB3.out.trans (hb4.mono HB3.out.size)⟩

theorem walk (A : Option Addr) (c : Nat) (at_ turn : Int) (bs : List UInt8) (w : World) (hr : Rd w w.heap.size A (bs.map bv)) (hc : bs.length ≤ c) (hcm : c ≤ maxLen) (hat : 0 ≤ at_ ∧ at_ ≤ 18446744073709551615) (htu : 0 ≤ turn ∧ turn ≤ 4294967295) (ht : Tab w) :
    Calls Tryd.prog 6 #[.slice A bs.length c, .int .u64 at_, .int .u32 turn] w fun e w' => e = .returned (.bool true) ∧ Below w.heap.size w w' := by
  have hfew := few_any w.heap.size A c bs w hr hc hcm
  unfold maxLen at hcm
  have hR : Rd w w.heap.size A ((bs.take 124).map bv) := by rw [List.map_take]; exact hr.take 124
  have hl := List.length_take (i := 300) (l := bs)
  have hl2 := List.length_take (i := 124) (l := bs)
  exact cut A _ bs.length c (bs.take 124).length at_ turn (bs.take 124) w rfl (by omega) (by omega) hcm hR ht hat htu hfew

set_option maxRecDepth 100000 in
theorem lifted (os : Os) (started : os.Started) (H : Type) (enc : TypeId × Value → H) :
    ReturnsInHanded {} Tryd.checked os 6 .any (fun w args => (Rows.crcFindsSpec.pre enc Tryd.prog Tryd.f6 [] false w args ∧ laidMetH Tryd.prog laidHalves w) ∧ sizedMet enc Tryd.prog Tryd.f6 (OpenSpec.ofChange Rows.crcFindsSpec) false w args) (Rows.crcFindsSpec.post enc Tryd.prog Tryd.f6 false true false false) := by
  refine returnsInHanded_of_change_and (C := Tryd.checked) (X := fun w _ => laidMetH Tryd.prog laidHalves w) (fun _ _ _ hh h => h.of_heap hh) own started (by kernel_rfl) Tryd.func6
    (ChangeSpec.witness_shaped (enc := enc) (C := Tryd.checked) (os := os) (X := fun w _ => laidMetH Tryd.prog laidHalves w) false (World.doorLaid Tryd.prog 400 os) #[.slice none 0 0, .int .u64 0, .int .u32 0] 8 rfl (World.shaped_of_RefB (by kernel_rfl) (by kernel_rfl)) (by kernel_rfl) (by kernel_rfl) (by kernel_rfl) (door_met os _)) ?_
  intro W base args ds gs before hval0 hW _ _ hL _
  have hTab := tab_of_laid hL
  have hval : ∀ (j : Nat) t v, Tryd.f6.params[j]? = some t → args[j]? = some v → Value.okWide Tryd.prog W .any base t v := hval0
  have hW' := hW
  obtain ⟨p, q, hA0, hV, rfl, hfz, hnd⟩ := hW
  have hA : DataW.TrodAll enc Tryd.prog W 0 (fun _ => true) true Tryd.f6.params.toList args.toList ds p := hA0
  rw [Tryd.params6] at hA hval
  obtain ⟨v0, vs0, d0, ds0, p0, q0, hargs, rfl, rfl, h0, r0⟩ := trodAll_cons hA
  obtain ⟨v1, vs1, d1, ds1, p1, q1, rfl, rfl, rfl, h1, r1⟩ := trodAll_cons r0
  obtain ⟨v2, vs2, d2, ds2, p2, q2, rfl, rfl, rfl, h2, r2⟩ := trodAll_cons r1
  obtain ⟨rfl, rfl, rfl⟩ := trodAll_nil r2
  obtain rfl : args = #[v0, v1, v2] := by cases args; simp_all
  obtain ⟨rfl, rfl⟩ := trodVars_none hV
  obtain ⟨a0, len0, cap0, rfl⟩ := okWide_slice Tryd.underlying23 (hval 0 23 v0 rfl rfl)
  have lt0 : ∀ x ∈ p0, x.block < W.heap.size := by obtain ⟨m, hm⟩ := h0; exact DataW.trod_lt m _ _ _ hm
  obtain ⟨x0, rfl, hc0, hm0, hr0⟩ := bytes_in Tryd.underlying23 Tryd.underlying5 (by kernel_rfl) h0
  obtain ⟨x1, rfl, rfl, rfl, wx1⟩ := open_int Tryd.underlying38 (hval 1 38 v1 rfl rfl) h1
  have hx1 := bounds_u64 wx1
  obtain ⟨x2, rfl, rfl, rfl, wx2⟩ := open_int Tryd.underlying25 (hval 2 25 v2 rfl rfl) h2
  have hx2 := bounds_u32 wx2
  clear hA0 hval0
  refine (walk a0 cap0 x1 x2 x0 W hr0 hc0 hm0 hx1 hx2 hTab).mono fun e W' ⟨he, bel⟩ => ?_
  subst he
  exact ⟨_, rfl, _, _, _, [], _, [], hW', trodAll_mk1 (shut_bool Tryd.underlying4 _), (trodAll_cons_mk (Below.trod laidOut (by kernel_rfl) (of_decide_eq_true (by kernel_rfl)) h0 bel lt0) (trodAll_cons_mk (shut_int Tryd.underlying38 wx1) (trodAll_cons_mk (shut_int Tryd.underlying25 wx2) trodAll_mk0))), rfl, bel.frame _, fun h => by cases h⟩

theorem over : Rows.crcFindsRow.holds Tryd.pinned (OpenSpec.ofChange Rows.crcFindsSpec) :=
  OpenClaim.holds_of_wide 6 Tryd.f6 rfl rfl rfl rfl rfl rfl rfl ⟨rfl, rfl, rfl, rfl, rfl⟩ rfl rfl rfl rfl rfl (by kernel_rfl) Tryd.func6 (by kernel_rfl)
    (of_decide_eq_true (by kernel_rfl)) (by unfold Func.isWrapper; first | (rw [if_pos (by decide +kernel)]; kernel_rfl) | (rw [if_neg (by decide +kernel)]; exact ⟨rfl, rfl⟩))
    (fun os started H enc _ => lifted os started H enc)

theorem proved : Rows.CrcFindsCardSaid :=
  Claim7.holds_tied_plain_at .later [] [.data] true _ false
    over (fun _ h => by cases h) (by kernel_rfl) (fun _ h => by cases h) crcFinds_row_tie rfl ⟨rfl, rfl⟩ (by kernel_rfl) rfl
    (fun f fn hf hfn => by
      obtain rfl : f = 6 := Option.some.inj ((show Tryd.prog.funcNamed "haymow/haymowlaw02.CrcFinds" = some 6 by kernel_rfl).symm.trans hf) |>.symm
      obtain rfl : fn = Tryd.f6 := (Option.some.inj (Tryd.func6.symm.trans hfn)).symm
      exact ⟨by kernel_rfl, fun j t ht => by
        rw [Tryd.params6] at ht
        have hm : t ∈ [23, 38, 25] := by simpa using Array.mem_of_getElem? ht
        have hall : ([23, 38, 25].all fun u => !Tryd.prog.wantsStandIn u) = true := by kernel_rfl
        exact (show Tryd.prog.wantsStandIn t = false by simpa using List.all_eq_true.1 hall t hm)⟩)
    (by kernel_rfl)
#print axioms proved
end Go.Proofs.YtngbkeaonkocmaaDoor.crcFinds
