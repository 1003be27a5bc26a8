/-
  Behind Erase all blocks are noughts, also those of which a write waited, whatever a crash keeps.
-/
import Derived.Test.YtpjdnbmeedcafaaDevLaw
import Derived.Test.YtpjdnbmeedcafaaRows
namespace Go.Proofs.Ytpjdnbmeedcafaa.devErases
open Go.ChangeShapes Go.WideShapes Go.ChangeAt Go.RowKit
set_option linter.unusedVariables false

def zeros : List UInt8 := List.replicate 128 0
theorem erased {D : Dv} (h : Calm D) (far : List Int) (i : Nat) : (crashD (eraseD D) far).has i = zeros := by
  rw [h.eraseD]; rfl

def waits18 : Nat → List Nat
  | 1 => [0]
  | 3 => [2]
  | 4 => [1, 3]
  | 5 => [4]
  | 6 => [5]
  | 7 => [5, 6]
  | 8 => [5, 7]
  | _ => []
set_option maxRecDepth 100000 in
set_option maxHeartbeats 4000000 in
theorem walk (A : Option Addr) (cap : Nat) (l : List Act') (A1 : Option Addr) (cap1 : Nat) (far : List Int) (w : World) (hl : ActsIn w w.heap.size A l) (hc : l.length ≤ cap) (hm : cap ≤ maxLen) (hr : Rd w w.heap.size A1 (far.map iv)) :
    Calls Try.prog 7 #[.slice A l.length cap, .slice A1 far.length cap1] w fun e w' => e = .returned (.bool true) ∧ Below w.heap.size w w' := by
  have HL := Lib.hid hl
  have HR := Lib.hid hr
  obtain ⟨n, hn⟩ : ∃ n, l.length = n := ⟨_, rfl⟩
  have HN := Lib.hid hn
  unfold maxLen at hm
  have hnm : n ≤ 9223372036854775807 := by omega
  rw [hn]
  clear hl hr hn hc hm
  go_enter Try.func7, Try.ntmps7
  go_wp2_with fail
  refine (New_yes 4 _ (by omega) (by omega)).mono ?_
  rintro e w1 ⟨sb, bb, mb, rfl, hd, hb⟩
  have HD1 := Lib.hid hd
  have HB1 := Lib.hid hb
  clear hd hb
  go_wp2_with fail
  go_loopw [7] (fun x wr => ∃ (k : Nat) (D : Dv) (pv : Value), k ≤ n ∧ k ≤ 20 ∧ x = .int .i64 (k : Int) ∧ Hid (Works D 4 k) ∧ Hid (DevAt wr w.heap.size sb bb mb pv D) ∧ Hid (Below w.heap.size w wr)) (fun x _ => 20 - (intOf x).toNat)
  case atStart => exact ⟨0, newD 4, _, Nat.zero_le _, by omega, rfl, works_new 4, HD1, HB1⟩
  case round =>
    clear HD1 HB1
    obtain ⟨k, D, pv, hk, hk20, rfl, HW, HD, HB⟩ := hrel
    have hsz := HB.out.size
    by_cases hgo : k < n ∧ k < 20
    · obtain ⟨hlt, h20⟩ := hgo
      obtain ⟨a, ha⟩ : ∃ a, l[k]? = some a := ⟨_, List.getElem?_eq_getElem (by rw [HN.out]; exact hlt)⟩
      obtain ⟨b, o, rfl, hbB, hcell⟩ := act_cells HL.out ha
      have hok := HL.out.each a (List.mem_of_getElem? ha)
      have k0 : ∀ w', Below w.heap.size w w' → w'.cell? ⟨b, o + k * 6, none⟩ = some (.int .i64 a.dO) := fun w' hb => (hb.cell (p := ⟨b, o + k * 6, none⟩) hbB).trans (by have := hcell 0 (by omega); simpa [actV] using this)
      have k1 : ∀ w', Below w.heap.size w w' → w'.cell? ⟨b, o + k * 6 + 1, none⟩ = some (.int .i64 a.i) := fun w' hb => (hb.cell (p := ⟨b, o + k * 6 + 1, none⟩) hbB).trans (by have := hcell 1 (by omega); simpa [actV] using this)
      have k3 : ∀ w', Below w.heap.size w w' → w'.cell? ⟨b, o + k * 6 + 3, none⟩ = some (.int .u8 (a.c.toNat : Int)) := fun w' hb => (hb.cell (p := ⟨b, o + k * 6 + 3, none⟩) hbB).trans (by have := hcell 3 (by omega); simpa [actV] using this)
      have hdo := k0 _ HB.out
      have K1 := Lib.hid k1
      have K3 := Lib.hid k3
      have hkl : (k : Int) < 20 := by omega
      obtain ⟨dO, i, q, c, sh, fa, fc, fr⟩ := a
      simp only at hdo K1 K3
      have HALL := Lib.hid (All_any c)
      obtain ⟨ci, hci⟩ : ∃ ci : Int, (c.toNat : Int) = ci := ⟨_, rfl⟩
      rw [hci] at HALL K3
      clear k0 k1 k3 hcell ha hok hci
      by_cases h2 : dO = 2
      · subst h2
        go_wp2_with fail
        refine (Flush_any _ HD.out (by have := HW.out.pend; omega)).mono ?_
        rintro e w2 ⟨rfl, pv2, ht⟩
        have HT := Lib.hid ht
        have HB2 := Lib.hid (HB.out.trans (ht.below HD.out hsz))
        have HW2 := Lib.hid (HW.out.flush.up (Nat.le_succ k))
        clear ht
        rw [HW.out.calm.startE]
        go_wp2_with fail
        go_roundw
        case rel => exact ⟨k + 1, _, pv2, by omega, by omega, by go_num, HW2, HT.out.dev, HB2⟩
        case measure => simp [intOf]; omega
      · have hne : (dO == 2) = false := by simpa using h2
        clear h2
        have HB' := HB
        have hbd : Below w.heap.size w wr.drew := HB.out.drew
        have HDd := Lib.hid HD.out.drew
        have HPL : Hid (D.pend.length ≤ 1000) := by have := HW.out.pend; show _ ≤ _; omega
        go_wp2
        go_region_held3 (fun w' => w'.cell? ⟨b, o + k * 6 + 1, none⟩ = some (.int .i64 i) ∧ w'.cell? ⟨b, o + k * 6 + 3, none⟩ = some (.int .u8 ci)) (exact ⟨K1.out _ (by assumption), K3.out _ (by assumption)⟩)
          (first
            | (go_at_call 11; (with_reducible refine (HALL.out _).mono ?_); rintro e w3 ⟨rfl, hbk, hbl, _⟩; have hb3 := hbd.trans (hbl.mono hsz); have hd3 := HDd.out.up hbl; have hbk3 : Bk w3 wr.heap.size 5 ((allOf c).map bv).toArray := hbk)
            | (go_at_call 14; (with_reducible refine (Write_int i wr.heap.size c _ hd3 hb3.size hbk3 HPL.out).mono ?_); rintro e w4 ⟨rfl, pv4, ht⟩; have hb4 := hb3.trans (ht.below hd3 hb3.size)))
        have HT := Lib.hid ht
        have HB4 := Lib.hid hb4
        have HW2 := Lib.hid (HW.out.act i c)
        clear ht hb4 hb3 hbk hbk3 hd3 hbd hbl
        go_wp2_with fail
        go_roundw
        case rel => exact ⟨k + 1, _, pv4, by omega, by omega, by go_num, HW2, HT.out.dev, HB4⟩
        case measure => simp [intOf]; omega
    · have hout : (k < n ∧ decide ((k : Int) < 20) = false) ∨ ¬ k < n := by
        by_cases h : k < n
        · exact .inl ⟨h, by simp; omega⟩
        · exact .inr h
      have HST : Hid (∃ D, Works D 4 20 ∧ ∃ pv, DevAt wr w.heap.size sb bb mb pv D) := ⟨D, HW.out.up hk20, pv, HD.out⟩
      have HB1 := HB
      have HS1 := Lib.hid HB.out.size
      clear HW HD HB hsz hgo hk hk20
      obtain ⟨D, hW, pv, hD⟩ := HST.out
      have HW := Lib.hid hW
      have HD := Lib.hid hD
      clear HST hW hD
      have HPL : Hid (D.pend.length ≤ 1000) := by have := HW.out.pend; show _ ≤ _; omega
      have HE : Hid (startE D = 0) := HW.out.calm.startE
      rcases hout with ⟨hlt, h20⟩ | hlt
      all_goals
        go_wp2_with fail
        refine (Erase_any _ HD.out).mono ?_
        rintro e w2 ⟨rfl, pv2, ht⟩
        rw [HE.out]
        have HB2 := Lib.hid (HB1.out.trans (ht.below HD.out HS1.out))
        have HD2 := Lib.hid ht.dev
        have HS2 := Lib.hid HB2.out.size
        have HP2 : Hid ((eraseD D).pend.length = 0) := by show _ = _; rw [HW.out.calm.eraseD]; rfl
        clear ht
        go_wp2_with fail
        refine (Waits_any _ HD2.out (by rw [HP2.out]; omega)).mono ?_
        rintro e w3 ⟨A3, c3, rfl, _, _, _, hb⟩
        rw [HP2.out]
        have HB3 := Lib.hid (HB2.out.trans (hb.mono HS2.out))
        have HD3 := Lib.hid (HD2.out.up hb)
        have HS3 := Lib.hid HB3.out.size
        clear hb
        go_wp2_with fail
        refine (Crash_any A1 far.length cap1 w.heap.size far _ HD3.out (by rw [HP2.out]; omega) rfl (fun w' hf => HR.out.below (HB3.out.trans (hf.below (fun k hk => (HD3.out.lt hk).1) HS3.out)))).mono ?_
        rintro e w4 ⟨rfl, pv4, ht⟩
        have HB4 := Lib.hid (HB3.out.trans (ht.below HD3.out HS3.out))
        have HD4 := Lib.hid ht.dev
        have HS4 := Lib.hid HB4.out.size
        clear ht
        go_wp2_with fail
        refine (On_any _ HD4.out).mono ?_
        rintro e w5 ⟨rfl, ht⟩
        obtain ⟨D5, hD5⟩ : ∃ D5 : Dv, D5 = { crashD (eraseD D) far with pow := true, bud := -1, pend := [] } := ⟨_, rfl⟩
        rw [← hD5] at ht
        have HB5 := Lib.hid (HB4.out.trans (ht.below HD4.out HS4.out))
        have HD5 := Lib.hid ht.dev
        have HW5 : Hid (Works D5 4 0) := by
          rw [hD5]
          refine ⟨⟨rfl, rfl, ?_⟩, ?_, fun i => ?_, Nat.le_refl _⟩
          · show (eraseD D).mnt = true; rw [HW.out.calm.eraseD]; exact HW.out.calm.mnt
          · show (eraseD D).n = 4; rw [HW.out.calm.eraseD]; exact HW.out.n
          · show (eraseD D).flt i = 0; rw [HW.out.calm.eraseD]; exact HW.out.flt i
        have HZ5 : Hid (∀ i, rdOf D5 i = zeros) := by
          intro i
          rw [hD5]
          exact erased HW.out.calm far i
        clear ht hD5 HD4 HS4 HB4 HD3 HS3 HB3 HD2 HS2 HB2 HB1 HS1 HD HW HP2 HE HPL
        go_wp2_with fail
        go_loopw [8] (fun x wr => ∃ k : Nat, k ≤ 4 ∧ x = .int .i64 (k : Int) ∧ Hid (DevAt wr w.heap.size sb bb mb (.slice none 0 0) D5) ∧ Hid (Below w.heap.size w wr)) (fun x _ => 4 - (intOf x).toNat)
        case atStart => exact ⟨0, by omega, rfl, HD5, HB5⟩
        case round =>
          clear HD5 HB5
          obtain ⟨k, hk, rfl, HD, HB⟩ := hrel
          have HS := Lib.hid HB.out.size
          by_cases hlt4 : k < 4
          · have HRD := Lib.hid (Read_yes k _ HD.out (by rw [HW5.out.n]; exact hlt4) (by unfold readE; rw [HW5.out.calm.pow, HW5.out.calm.mnt, HW5.out.flt]; rfl) (by have := HW5.out.pend; omega))
            go_wp2_with fail
            refine HRD.out.mono ?_
            rintro e w8 ⟨rfl, hw8⟩
            rw [HZ5.out k] at hw8
            obtain ⟨g, hg⟩ : ∃ g, wr.heap.size = g := ⟨_, rfl⟩
            have hb8 : Below wr.heap.size wr w8 := by rw [hw8]; exact (Below.refl _ _).alloc (Nat.le_refl _) _
            have hk8 : Bk w8 wr.heap.size 67 (zeros.map bv).toArray := by rw [hw8]; exact Bk.new _ _ _
            have HD8 := Lib.hid (HD.out.up hb8)
            have HB8 := Lib.hid (HB.out.trans (hb8.mono HS.out))
            have HS8 := Lib.hid HB8.out.size
            rw [hg] at hk8 ⊢
            have HK8 := Lib.hid hk8
            clear hb8 hk8 hw8 HRD hg
            obtain ⟨z, hz⟩ : ∃ z, w8.heap.size = z := ⟨_, rfl⟩
            have HZ := Lib.hid hz
            obtain ⟨S, hS⟩ : ∃ S, S = str zeros := ⟨_, rfl⟩
            have HCX : Hid (∀ w', Below w8.heap.size w8 w' → (convert 33 9 (.slice (some ⟨g, 0, none⟩) 128 128)).run Try.prog w' = .ok (.string S) w') := Lib.hid fun w' hb => by
              rw [hS]; exact conv_out w' g zeros (by simp [zeros]) (HK8.out.below hb HK8.out.lt)
            have HCV : Hid (∀ w', Bk w' z 5 ((allOf 0).map bv).toArray → (convert 33 9 (.slice (some ⟨z, 0, none⟩) 128 128)).run Try.prog w' = .ok (.string S) w') := Lib.hid fun w' hb => by
              rw [hS]; exact conv_all w' z 0 hb
            have HPURE : Hid (∀ (i : Nat) (L : Nat → Bool) (w : World), i ≠ 2 → R1 2 0 w8 L w → R1 2 0 w8 (setL L i) w) := Lib.hid R1_pure
            clear hz hS
            go_wp2
            obtain ⟨V, hV⟩ : ∃ V : Nat → Value, V = fun i => ([.slice (some ⟨g, 0, none⟩) 128 128, .string S, .slice (some ⟨z, 0, none⟩) 128 128, .string S, .bool false, .bool false, .int .i64 0, .bool false, .bool false] : List Value).getD i undef := ⟨_, rfl⟩
            refine wp_region_states (by kernel_rfl) 9 86 (fun i => 76 + i) waits18 (JR V (R1 2 0 w8)) (by kernel_rfl) rfl ⟨fun j hj => (nomatch hj), R1_start _ _ _⟩ ?_ ?_
            · refine (all_succ (all_succ (all_succ (all_succ (all_succ (all_succ (all_succ (all_succ (all_succ all_zero ?h0) ?h1) ?h2) ?h3) ?h4) ?h5) ?h6) ?h7) ?h8)
              case h0 =>
                intro o ho L vals a w hs hi hcl hdl hJ K hK
                cases ho
                have e0 := hs.outS 9 (.slice (some ⟨g, 0, none⟩) 128 128) (by omega) (fun i hi => by show (76 + i) ≠ 9; omega) rfl
                go_simp
                exact hK _ _ (hJ.step (by rw [hV]; rfl) (HPURE.out _ _ _ (by decide) hJ.world))
              case h1 =>
                intro o ho L vals a w hs hi hcl hdl hJ K hK
                cases ho
                have e0 := hs.depS hJ 0 76 (.slice (some ⟨g, 0, none⟩) 128 128) (hdl 0 (by simp [waits18])) (by omega) rfl (by omega) (by rw [hV]; rfl)
                have hcv := HCX.out w hJ.world.1
                go_simp
                exact hK _ _ (hJ.step (by rw [hV]; rfl) (HPURE.out _ _ _ (by decide) hJ.world))
              case h2 =>
                intro o ho L vals a w hs hi hcl hdl hJ K hK
                cases ho
                have HR := Lib.hid hJ.world
                have hsz : w.heap.size = z := (HR.out.2.1 hi).trans HZ.out
                have HSZ := Lib.hid hsz
                clear hsz
                go_simp
                refine (All_any 0 _).mono ?_
                rintro e w' ⟨rfl, hbk, hbl, hsz⟩
                rw [HSZ.out] at hbk ⊢
                exact hK _ _ (hJ.step (by rw [hV]; rfl) ⟨HR.out.1.trans (hbl.mono HR.out.1.size), fun h => (by rw [setL_same] at h; cases h), fun _ => by rw [HZ.out]; exact hbk⟩)
              case h3 =>
                intro o ho L vals a w hs hi hcl hdl hJ K hK
                cases ho
                have e0 := hs.depS hJ 2 78 (.slice (some ⟨z, 0, none⟩) 128 128) (hdl 2 (by simp [waits18])) (by omega) rfl (by omega) (by rw [hV]; rfl)
                have hcv := HCV.out w (by have := hJ.world.2.2 (hdl 2 (by simp [waits18])); rwa [HZ.out] at this)
                go_simp
                exact hK _ _ (hJ.step (by rw [hV]; rfl) (HPURE.out _ _ _ (by decide) hJ.world))
              case h4 =>
                intro o ho L vals a w hs hi hcl hdl hJ K hK
                cases ho
                have e0 := hs.depS hJ 1 77 (.string S) (hdl 1 (by simp [waits18])) (by omega) rfl (by omega) (by rw [hV]; rfl)
                have e1 := hs.depS hJ 3 79 (.string S) (hdl 3 (by simp [waits18])) (by omega) rfl (by omega) (by rw [hV]; rfl)
                go_simp
                exact hK _ _ (hJ.step (by rw [hV]; rfl) (HPURE.out _ _ _ (by decide) hJ.world))
              case h5 =>
                intro o ho L vals a w hs hi hcl hdl hJ K hK
                cases ho
                have e0 := hs.depS hJ 4 80 (.bool false) (hdl 4 (by simp [waits18])) (by omega) rfl (by omega) (by rw [hV]; rfl)
                go_simp
                exact hK _ _ (hJ.step (by rw [hV]; rfl) (HPURE.out _ _ _ (by decide) hJ.world))
              case h6 =>
                intro o ho L vals a w hs hi hcl hdl hJ K hK
                cases ho
                have e0 := hs.outS 10 (.int .i64 0) (by omega) (fun i hi => by show (76 + i) ≠ 10; omega) rfl
                have e1 := hs.depS hJ 5 81 (.bool false) (hdl 5 (by simp [waits18])) (by omega) rfl (by omega) (by rw [hV]; rfl)
                go_simp
                exact hK _ _ (hJ.step (by rw [hV]; rfl) (HPURE.out _ _ _ (by decide) hJ.world))
              case h7 =>
                intro o ho L vals a w hs hi hcl hdl hJ K hK
                cases ho
                have e0 := hs.depS hJ 5 81 (.bool false) (hdl 5 (by simp [waits18])) (by omega) rfl (by omega) (by rw [hV]; rfl)
                have e1 := hs.depS hJ 6 82 (.int .i64 0) (hdl 6 (by simp [waits18])) (by omega) rfl (by omega) (by rw [hV]; rfl)
                go_simp
                exact hK _ _ (hJ.step (by rw [hV]; rfl) (HPURE.out _ _ _ (by decide) hJ.world))
              case h8 =>
                intro o ho L vals a w hs hi hcl hdl hJ K hK
                cases ho
                have e0 := hs.depS hJ 5 81 (.bool false) (hdl 5 (by simp [waits18])) (by omega) rfl (by omega) (by rw [hV]; rfl)
                have e1 := hs.depS hJ 7 83 (.bool false) (hdl 7 (by simp [waits18])) (by omega) rfl (by omega) (by rw [hV]; rfl)
                go_simp
                exact hK _ _ (hJ.step (by rw [hV]; rfl) (HPURE.out _ _ _ (by decide) hJ.world))
            · intro vals a w hs hJ
              obtain ⟨ha, hw⟩ := hs.doneR rfl rfl (fun i j _ _ h => by show (76 + j) ≠ (76 + i); omega) hJ
              have hb9 : Below w8.heap.size w8 w := hw.1
              have HD9 := Lib.hid (HD8.out.up hb9)
              have HB9 := Lib.hid (HB8.out.trans (hb9.mono HS8.out))
              clear hw hs hJ hb9
              subst ha
              rw [hV]
              clear hV
              simp only [putAll, List.setIfInBounds_toArray, List.set_cons_zero, List.set_cons_succ, List.getD_cons_zero, List.getD_cons_succ, Nat.reduceAdd]
              go_wp2_with fail
              go_roundw
              case rel => exact ⟨k + 1, by omega, by go_num, HD9, HB9⟩
              case measure => simp [intOf]; omega
          · obtain rfl : k = 4 := by omega
            go_wp2_with fail
            refine (awake_any _).mono ?_
            rintro e w9 ⟨rfl, hb⟩
            have HB9 := Lib.hid (HB.out.trans (hb.mono HS.out))
            clear hb
            go_wp2
            go_ret
            exact ⟨rfl, HB9.out⟩


set_option maxRecDepth 100000 in
theorem lifted (os : Os) (started : os.Started) (H : Type) (enc : TypeId × Value → H) :
    ReturnsInHanded {} Try.checked os 7 .any (Rows.devErasesSpec.pre6 enc Try.prog Try.f7 Rows.devErasesRow.domain false) (Rows.devErasesSpec.post enc Try.prog Try.f7 false true false false) := by
  refine returnsInHanded_of_change (C := Try.checked) own started (by kernel_rfl) Try.func7
    (ChangeSpec.witness6 (enc := enc) (C := Try.checked) false ⟨#[], #[.slice none 0 0, .slice none 0 0], []⟩ 8 (by kernel_rfl) (by kernel_rfl) (by kernel_rfl) (by kernel_rfl)) ?_
  intro W base args ds gs before hval0 hW hcnd _
  have hval : ∀ (j : Nat) t v, Try.f7.params[j]? = some t → args[j]? = some v → Value.okWide Try.prog W .any base t v := hval0
  have hW' := hW
  obtain ⟨p, q, hA0, hV, rfl, hfz, hnd⟩ := hW
  have hA : DataW.TrodAll enc Try.prog W 0 (fun _ => true) true Try.f7.params.toList args.toList ds p := hA0
  rw [Try.params7] at hA hval
  obtain ⟨v0, vs0, d0, ds0, p0, q0, hargs, rfl, rfl, h0, r0⟩ := trodAll_cons hA
  obtain ⟨v1, vs1, d1, ds1, p1, q1, rfl, rfl, rfl, h1, r1⟩ := trodAll_cons r0
  obtain ⟨rfl, rfl, rfl⟩ := trodAll_nil r1
  obtain rfl : args = #[v0, v1] := by cases args; simp_all
  obtain ⟨rfl, rfl⟩ := trodVars_none hV
  obtain ⟨a0, len0, cap0, rfl⟩ := okWide_slice Try.underlying22 (hval 0 22 v0 rfl rfl)
  have lt0 : ∀ x ∈ p0, x.block < W.heap.size := by obtain ⟨m, hm⟩ := h0; exact DataW.trod_lt m _ _ _ hm
  obtain ⟨x0, rfl, hc0, hm0, hr0⟩ := acts_in h0
  obtain ⟨a1, len1, cap1, rfl⟩ := okWide_slice Try.underlying30 (hval 1 30 v1 rfl rfl)
  have lt1 : ∀ x ∈ p1, x.block < W.heap.size := by obtain ⟨m, hm⟩ := h1; exact DataW.trod_lt m _ _ _ hm
  obtain ⟨x1, rfl, hc1, hm1, hr1⟩ := ints_in Try.underlying30 Try.underlying3 (by kernel_rfl) h1
  clear hA0 hval0
  refine (walk a0 cap0 x0 a1 cap1 x1 W hr0 hc0 hm0 hr1).mono fun e W' ⟨he, bel⟩ => ?_
  subst he
  exact ⟨_, rfl, _, _, _, [], _, [], hW', trodAll_mk1 (shut_bool Try.underlying4 _), (trodAll_cons_mk (Below.trod laidOut (by kernel_rfl) (of_decide_eq_true (by kernel_rfl)) h0 bel lt0) (trodAll_cons_mk (Below.trod laidOut (by kernel_rfl) (of_decide_eq_true (by kernel_rfl)) h1 bel lt1) trodAll_mk0)), rfl, bel.frame _, fun h => by cases h⟩

theorem over : Rows.devErasesRow.holds Try.pinned (OpenSpec.ofChange Rows.devErasesSpec) :=
  OpenClaim.holds_of_wide 7 Try.f7 rfl rfl rfl rfl rfl rfl rfl ⟨rfl, rfl, rfl, rfl, rfl⟩ rfl rfl rfl rfl rfl (by kernel_rfl) Try.func7 (by kernel_rfl)
    (of_decide_eq_true (by kernel_rfl)) (by unfold Func.isWrapper; first | (rw [if_pos (by decide +kernel)]; kernel_rfl) | (rw [if_neg (by decide +kernel)]; exact ⟨rfl, rfl⟩))
    (fun os started H enc _ => lifted os started H enc)

theorem proved : Rows.DevErasesSaid := over
#print axioms proved
end Go.Proofs.Ytpjdnbmeedcafaa.devErases
