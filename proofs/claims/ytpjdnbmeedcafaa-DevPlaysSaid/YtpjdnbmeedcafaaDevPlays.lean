/-
  Whatever is done with a device, each answer, what waits, and what each block has, is the document's.
-/
import Derived.Test.YtpjdnbmeedcafaaPlay
import Derived.Test.YtpjdnbmeedcafaaRows
import Derived.StillTailTactics
import Derived.Deep.RegionHeld3
import Derived.Outline
namespace Go.Proofs.Ytpjdnbmeedcafaa.devPlays
open Go.ChangeShapes Go.WideShapes Go.ChangeAt Go.RowKit
set_option linter.unusedVariables false

set_option maxRecDepth 100000 in
set_option maxHeartbeats 40000000 in
theorem walk (x0 : Int) (A : Option Addr) (cap : Nat) (l : List Act') (w : World) (hx : -9223372036854775808 ≤ x0 ∧ x0 ≤ 9223372036854775807) (hl : ActsIn w w.heap.size A l) (hc : l.length ≤ cap) (hm : cap ≤ maxLen) :
    Calls Try.prog 3 #[.int .i64 x0, .slice A l.length cap] w fun e w' => e = .returned (.bool true) ∧ Below w.heap.size w w' := by
  have HL := Lib.hid hl
  obtain ⟨N, hN⟩ : ∃ N, l.length = N := ⟨_, rfl⟩
  have HN := Lib.hid hN
  unfold maxLen at hm
  have hnm : N ≤ 9223372036854775807 := by omega
  obtain ⟨hx0, hx1⟩ := hx
  rw [hN]
  clear hl hN hc hm
  by_cases hr : x0 < 1 ∨ 8192 < x0
  · have HRX := Lib.hid hr
    have hg : decide (x0 < 1) = true ∨ (decide (x0 < 1) = false ∧ decide (x0 > 8192) = true) := by
      by_cases h : x0 < 1
      · exact .inl (by simpa using h)
      · exact .inr ⟨by simpa using h, by simp; omega⟩
    clear hr
    rcases hg with hg | ⟨hg1, hg2⟩
    all_goals
     as_aux_lemma =>
      go_enter Try.func3, Try.ntmps3
      go_wp2_with fail
      refine (New_no _ _ HRX.out).mono ?_
      rintro e w1 ⟨rfl, hw⟩
      obtain rfl := hw
      go_wp2_with fail
      refine (awake_any _).mono ?_
      rintro e w2 ⟨rfl, hb⟩
      have HB := Lib.hid hb
      clear hb
      go_wp2_with fail
      go_ret
      exact ⟨rfl, HB.out⟩
  · obtain ⟨n, rfl⟩ : ∃ n : Nat, x0 = (n : Int) := ⟨x0.toNat, by omega⟩
    have n1 : 1 ≤ n := by omega
    have n2 : n ≤ 8192 := by omega
    have hd1 : decide ((n : Int) < 1) = false := by simp; omega
    have hd2 : decide ((n : Int) > 8192) = false := by simp; omega
    have HN1 := Lib.hid n1
    have HN2 := Lib.hid n2
    clear hr hx0 hx1 n1
    go_enter Try.func3, Try.ntmps3
    go_wp2_with fail
    refine (New_yes n _ HN1.out HN2.out).mono ?_
    rintro e w1 ⟨sb, bb, mb, rfl, hd, hb⟩
    have HD1 := Lib.hid hd
    have HB1 := Lib.hid hb
    clear hd hb
    go_wp2_with fail
    refine (refNew_any n _ HN1.out HN2.out).mono ?_
    rintro e w2 ⟨rb, hv0, fv0, rfl, hr, hb⟩
    have HP0 : Hid (Pl w sb bb mb rb (.slice none 0 0) hv0 fv0 (.slice none 0 0) (newD n) w2) := ⟨HD1.out.up hb, hr.lower HB1.out.size, HB1.out.trans (hb.mono HB1.out.size)⟩
    have HM0 : Hid (Nm n 0 (newD n)) := ⟨rfl, Nat.le_refl _, Nat.le_refl _⟩
    clear hr hb HD1 HB1 hd1 hd2
    go_wp2_with fail
    go_loopw [8] (fun x wr => ∃ (k : Nat) (D : Dv) (pv hv fv lv : Value), k ≤ N ∧ k ≤ 50 ∧ x = .int .i64 (k : Int) ∧ Hid (Nm n k D) ∧ Hid (Pl w sb bb mb rb pv hv fv lv D wr)) (fun x _ => 50 - (intOf x).toNat)
    case atStart => exact ⟨0, newD n, _, hv0, fv0, _, Nat.zero_le _, by omega, rfl, HM0, HP0⟩
    case round =>
      clear HP0 HM0
      obtain ⟨k, D, pv, hv, fv, lv, hk, hk50, rfl, HM, HP⟩ := hrel
      by_cases hgo : k < N ∧ k < 50
      · obtain ⟨hlt, h50⟩ := hgo
        obtain ⟨a, ha⟩ : ∃ a, l[k]? = some a := ⟨_, List.getElem?_eq_getElem (by rw [HN.out]; exact hlt)⟩
        obtain ⟨b, o, rfl, hbB, hcell⟩ := act_cells HL.out ha
        have hok := HL.out.each a (List.mem_of_getElem? ha)
        have hcell' : ∀ x, x < 6 → wr.cell? ⟨b, o + k * 6 + x, none⟩ = (actV a)[x]? := fun x hx => (HP.out.below.cell (p := ⟨b, o + k * 6 + x, none⟩) hbB).trans (hcell x hx)
        obtain ⟨dO, i, q, c, sh, fa, fc, fr⟩ := a
        have k0 := hcell' 0 (by omega)
        have k1 := hcell' 1 (by omega)
        have k2 := hcell' 2 (by omega)
        have k3 := hcell' 3 (by omega)
        have k4 := hcell' 4 (by omega)
        have k5 := hcell' 5 (by omega)
        simp only [actV, Nat.add_zero, List.getElem?_cons_succ, List.getElem?_cons_zero] at k0 k1 k2 k3 k4 k5
        have hkl : (k : Int) < 50 := by omega
        obtain ⟨ci, hci⟩ : ∃ ci : Int, (c.toNat : Int) = ci := ⟨_, rfl⟩
        rw [hci] at k3
        have HCI := Lib.hid hci
        have HOK := Lib.hid hok
        have hi0 : -9223372036854775808 ≤ i ∧ i ≤ 9223372036854775807 := hok.i
        have HIB := Lib.hid hi0
        clear hcell hcell' ha hci hok hi0
        go_upto_region 11 with fail
        obtain ⟨gv, hgv⟩ : ∃ gv, wr.heap.size = gv := ⟨_, rfl⟩
        obtain ⟨wv, hwv⟩ : ∃ wv, wr.alloc (.cells #[.int .i64 dO, .int .i64 i, .int .i64 q, .int .u8 ci, .bool sh, .slice fa fr.length fc] 32) = wv := ⟨_, rfl⟩
        rw [hwv, hgv]
        have hbv : Below wr.heap.size wr wv := by rw [← hwv]; exact (Below.refl _ _).alloc (Nat.le_refl _) _
        have HGV : Hid (w.heap.size ≤ gv) := by show _ ≤ _; rw [← hgv]; exact HP.out.below.size
        have HV : Hid (Bk wv gv 32 #[.int .i64 dO, .int .i64 i, .int .i64 q, .int .u8 ci, .bool sh, .slice fa fr.length fc]) := by show Bk _ _ _ _; rw [← hwv, ← hgv]; exact Bk.new _ _ _
        have HPV := Lib.hid (HP.out.up hbv)
        have HKK : Hid (k + 1 ≤ N ∧ k + 1 ≤ 50) := ⟨by omega, by omega⟩
        have HPD : Hid (D.pend.length ≤ 1000) := by have := HM.out.pend; show _ ≤ _; omega
        have HCN : Hid (D.cnt ≤ 1000) := by have := HM.out.cnt; show _ ≤ _; omega
        have v1 : wv.cell? ⟨gv, 1, none⟩ = some (.int .i64 i) := HV.out.cell 1
        obtain ⟨t, ht⟩ : ∃ t, inN n i = t := ⟨_, rfl⟩
        have HT := Lib.hid ht
        clear hwv hgv hbv k0 k1 k2 k3 k4 k5 HP hk hk50 hlt ht
        go_cut [10] from 65 to 73 (fun s wc => s = .bool t ∧ wv = wc)
        case first =>
          cases t
          · have hcs : decide (i ≥ 0) = false ∨ (decide (i ≥ 0) = true ∧ decide (i < (n : Int)) = false) := by
              rcases inN_no HT.out with h | h
              · exact .inl (by simpa using h)
              · exact .inr ⟨by simp; omega, by simpa using h⟩
            rcases hcs with h | ⟨h, h'⟩
            all_goals
              go_wp2_with fail
              go_meet
              exact ⟨rfl, rfl⟩
          · obtain ⟨h0, h1⟩ := inN_yes HT.out
            have hd1 : decide (i ≥ 0) = true := by simpa using h0
            have hd2 : decide (i < (n : Int)) = true := by simpa using h1
            clear h0 h1
            go_wp2_with fail
            go_meet
            exact ⟨rfl, rfl⟩
        case rest =>
          obtain ⟨rfl, hcut⟩ := hcut
          obtain rfl := hcut
          have v3 : wv.cell? ⟨gv, 3, none⟩ = some (.int .u8 ci) := HV.out.cell 3
          have HALL : Hid (∀ w', Calls Try.prog 11 #[.int .u8 ci] w' fun e w'' => e = .returned (.slice (some ⟨w'.heap.size, 0, none⟩) 128 128) ∧ Bk w'' w'.heap.size 5 ((allOf c).map bv).toArray ∧ Below w'.heap.size w' w'' ∧ w''.heap.size = w'.heap.size + 1) := by rw [← HCI.out]; exact fun w' => All_any c w'
          go_wp2_with fail
          refine (HALL.out _).mono ?_
          rintro e wa ⟨rfl, hbk, hb, _⟩
          obtain ⟨g2, hg2⟩ : ∃ g2, wv.heap.size = g2 := ⟨_, rfl⟩
          have HOC : Hid (Bk wa g2 5 ((allOf c).map bv).toArray) := hg2 ▸ hbk
          obtain ⟨cs, hcs⟩ : ∃ cs : Array Value, #[.int .i64 dO, .int .i64 i, .int .i64 q, .int .u8 ci, .bool sh, .slice fa fr.length fc] = cs := ⟨_, rfl⟩
          have HRN : Hid (Rn w sb bb mb rb gv g2 cs pv hv fv lv D D wa) := by
            have hp := HPV.out.up hb
            refine ⟨hp.dev, hp.ref, hp.below, ?_, ⟨_, ?_, HOC.out⟩, HGV.out, ?_⟩
            · rw [← hcs]; exact HV.out.below hb HV.out.lt
            · simp [allOf]
            · rw [← hg2]; exact HPV.out.below.size
          have HCS := Lib.hid hcs
          have v4 : wa.cell? ⟨gv, 4, none⟩ = some (.bool sh) := by rw [HRN.out.act.cell, ← HCS.out]; rfl
          rw [hg2]
          obtain ⟨L, hL⟩ : ∃ L : Nat, (if sh = true then 127 else 128) = L := ⟨_, rfl⟩
          have HSH := Lib.hid hL
          clear hbk hb hg2 hcs v1 v3 HPV HV HALL HGV hL
          go_upto_if 78 with fail
          go_cut [11] from 79 to 80 (fun s wc => s = .slice (some ⟨g2, 0, none⟩) L 128 ∧ wa = wc)
          case first =>
            cases sh
            all_goals
              have hL := HSH.out
              simp at hL
              subst hL
              go_wp2_with fail
              go_meet
              exact ⟨rfl, rfl⟩
          case rest =>
            obtain ⟨rfl, hcut⟩ := hcut
            obtain rfl := hcut
            have hL2 : L = 127 ∨ L = 128 := by rw [← HSH.out]; cases sh <;> simp
            have HL2 := Lib.hid hL2
            have hcv := conv_part wa g2 L c HOC.out hL2
            obtain ⟨T, hT⟩ : ∃ T, str (List.replicate L c) = T := ⟨_, rfl⟩
            rw [hT] at hcv
            have HTT := Lib.hid hT
            have v0 : wa.cell? ⟨gv, 0, none⟩ = some (.int .i64 dO) := by rw [HRN.out.act.cell, ← HCS.out]; rfl
            have V1 : Hid (∀ {w'} {pv' hv' fv' lv' : Value} {D1 D2 : Dv}, Rn w sb bb mb rb gv g2 cs pv' hv' fv' lv' D1 D2 w' → w'.cell? ⟨gv, 1, none⟩ = some (.int .i64 i)) := Lib.hid fun h => by rw [h.act.cell, ← HCS.out]; rfl
            have V2 : Hid (∀ {w'} {pv' hv' fv' lv' : Value} {D1 D2 : Dv}, Rn w sb bb mb rb gv g2 cs pv' hv' fv' lv' D1 D2 w' → w'.cell? ⟨gv, 2, none⟩ = some (.int .i64 q)) := Lib.hid fun h => by rw [h.act.cell, ← HCS.out]; rfl
            have V4 : Hid (∀ {w'} {pv' hv' fv' lv' : Value} {D1 D2 : Dv}, Rn w sb bb mb rb gv g2 cs pv' hv' fv' lv' D1 D2 w' → w'.cell? ⟨gv, 4, none⟩ = some (.bool sh)) := Lib.hid fun h => by rw [h.act.cell, ← HCS.out]; rfl
            have V5 : Hid (∀ {w'} {pv' hv' fv' lv' : Value} {D1 D2 : Dv}, Rn w sb bb mb rb gv g2 cs pv' hv' fv' lv' D1 D2 w' → w'.cell? ⟨gv, 5, none⟩ = some (.slice fa fr.length fc)) := Lib.hid fun h => by rw [h.act.cell, ← HCS.out]; rfl
            clear hL2 hT v4 HCS
            repeat ((fail_if_success (with_reducible show Code.wp _ (Code.block 2 _) _ _ _)); (first | go_values | go_skip | go_guarded | go_step | go_upon | go_back | go_simp))
            clear hcv
            go_cut [13, 14, 15, 16, 17, 18, 19, 20, 21, 22] from 51 to 300 (fun _ _ _ _ _ _ _ _ _ _ wx => ∃ (Dx : Dv) (pvx hvx fvx lvx : Value), Hid (Nm n (k + 1) Dx) ∧ Hid (Pl w sb bb mb rb pvx hvx fvx lvx Dx wx))
            case first =>
              clear HKK
              have hdcs : dO = 0 ∨ dO = 1 ∨ dO = 2 ∨ dO = 3 ∨ dO = 4 ∨ dO = 5 ∨ dO = 6 ∨ dO = 7 ∨ dO = 8 ∨ dO = 9 ∨ ((dO == 0) = false ∧ (dO == 1) = false ∧ (dO == 2) = false ∧ (dO == 3) = false ∧ (dO == 4) = false ∧ (dO == 5) = false ∧ (dO == 6) = false ∧ (dO == 7) = false ∧ (dO == 8) = false ∧ (dO == 9) = false) := by
                simp only [beq_eq_false_iff_ne, ne_eq]
                omega
              rcases hdcs with rfl | rfl | rfl | rfl | rfl | rfl | rfl | rfl | rfl | rfl | ⟨z0, z1, z2, z3, z4, z5, z6, z7, z8, z9⟩
              · -- Read
                as_aux_lemma =>
                  have v1 := V1.out HRN.out
                  cases t
                  · have hf : inN D.n i = false := by rw [HM.out.n]; exact HT.out
                    have HF := Lib.hid hf
                    have hcn := conv_nil wa
                    clear hf
                    go_wp2_with fail
                    refine (Read_no i _ HRN.out.dev HF.out).mono ?_
                    rintro e wx ⟨rfl, hwx⟩
                    obtain rfl := hwx
                    go_wp2_with fail
                    refine (refRead_no i _ HRN.out.ref HF.out).mono ?_
                    rintro e wy ⟨rfl, hwy⟩
                    obtain rfl := hwy
                    have HNX := Lib.hid HM.out.up
                    have HPX := Lib.hid HRN.out.pl
                    clear v0 v1
                    go_wp2_with fail
                    go_meet
                    exact ⟨_, _, _, _, _, HNX, HPX⟩
                  · obtain ⟨hj0, hj1⟩ := inN_yes HT.out
                    obtain ⟨j, rfl⟩ : ∃ j : Nat, i = (j : Int) := ⟨i.toNat, by omega⟩
                    have hj : j < D.n := by rw [HM.out.n]; omega
                    have HJ := Lib.hid hj
                    clear hj0 hj1 hj
                    by_cases he : readE D j = 0
                    · have HE := Lib.hid he
                      obtain ⟨S, hS⟩ : ∃ S, str (rdOf D j) = S := ⟨_, rfl⟩
                      have HS := Lib.hid hS
                      clear he hS
                      go_wp2_with fail
                      refine (Read_yes j _ HRN.out.dev HJ.out HE.out HPD.out).mono ?_
                      rintro e wx ⟨rfl, hwx⟩
                      have hRX := HRN.out.alloc (outs (rdOf D j))
                      rw [← hwx] at hRX
                      have hk8 : Bk wx wa.heap.size 67 ((rdOf D j).map bv).toArray := by rw [hwx]; exact Bk.new _ _ _
                      have hcv := conv_out wx _ _ (rdOf_length HRN.out.dev.ok j) hk8
                      obtain ⟨g8, hg8⟩ : ∃ g, wa.heap.size = g := ⟨_, rfl⟩
                      rw [HS.out] at hcv
                      rw [hg8] at hcv ⊢
                      have HRX := Lib.hid hRX
                      have v1' := V1.out HRX.out
                      clear hwx hk8 hg8 v0 v1 hRX
                      go_wp2_with fail
                      refine (refRead_yes j _ HRX.out.ref HJ.out HE.out HPD.out).mono ?_
                      rintro e wy ⟨rfl, hwy⟩
                      rw [HS.out]
                      obtain rfl := hwy
                      have HNX := Lib.hid HM.out.up
                      have HPX := Lib.hid HRX.out.pl
                      clear v1'
                      go_wp2_with fail
                      go_meet
                      exact ⟨_, _, _, _, _, HNX, HPX⟩
                    · have HE := Lib.hid he
                      obtain ⟨x3, hx3⟩ : ∃ x, readE D j = x := ⟨_, rfl⟩
                      have HX3 := Lib.hid hx3
                      have hcn := conv_nil wa
                      clear he hx3
                      go_wp2_with fail
                      refine (Read_off j _ HRN.out.dev HJ.out HE.out).mono ?_
                      rintro e wx ⟨rfl, hwx⟩
                      rw [HX3.out]
                      obtain rfl := hwx
                      go_wp2_with fail
                      refine (refRead_off j _ HRN.out.ref HJ.out HE.out).mono ?_
                      rintro e wy ⟨rfl, hwy⟩
                      rw [HX3.out]
                      obtain rfl := hwy
                      have HNX := Lib.hid HM.out.up
                      have HPX := Lib.hid HRN.out.pl
                      clear v0 v1
                      go_wp2_with fail
                      go_meet
                      exact ⟨_, _, _, _, _, HNX, HPX⟩
              · -- Write
                as_aux_lemma =>
                  have hbd : Rn w sb bb mb rb gv g2 cs pv hv fv lv D D wa.drew := HRN.out.drew
                  have hoc : Bk wa.drew g2 5 ((allOf c).map bv).toArray := HOC.out
                  obtain ⟨x3, hx3⟩ : ∃ x, wE D i L = x := ⟨_, rfl⟩
                  obtain ⟨D', hD'⟩ : ∃ x, wD D i L c = x := ⟨_, rfl⟩
                  have HW1 : Hid (∀ w', Rn w sb bb mb rb gv g2 cs pv hv fv lv D D w' → Bk w' g2 5 ((allOf c).map bv).toArray → Calls Try.prog 14 #[.pointer (some ⟨sb, 0, none⟩), .int .i64 i, .slice (some ⟨g2, 0, none⟩) L 128] w' fun e w'' => e = .returned (.int .i64 x3) ∧ ∃ pv', Rn w sb bb mb rb gv g2 cs pv' hv fv lv D' D w'') := by
                    rw [← hx3, ← hD']; exact Lib.hid fun w' h1 h2 => h1.write i L c h2 HL2.out HPD.out
                  have HW2 : Hid (∀ (w' : World) (pv' : Value), Rn w sb bb mb rb gv g2 cs pv' hv fv lv D' D w' → Calls Try.prog 15 #[.pointer (some ⟨rb, 0, none⟩), .int .i64 i, .string T] w' fun e w'' => e = .returned (.int .i64 x3) ∧ ∃ hv' fv' lv', Rn w sb bb mb rb gv g2 cs pv' hv' fv' lv' D' D' w'') := by
                    rw [← hx3, ← HTT.out]
                    refine Lib.hid fun w' pv' h1 => ?_
                    have := h1.writeR i L c HL2.out HPD.out
                    rw [hD'] at this
                    exact this
                  have HNX : Hid (Nm n (k + 1) D') := by rw [← hD']; exact HM.out.wD i L c
                  clear hx3 hD' v0
                  go_wp2
                  go_region_held3 (fun w' => w'.cell? ⟨gv, 1, none⟩ = some (.int .i64 i)) (exact V1.out (by assumption))
                    (first
                      | (go_at_call 14; (with_reducible refine (HW1.out _ hbd hoc).mono ?_); rintro e wx ⟨rfl, pvx, hx⟩)
                      | (go_at_call 15; (with_reducible refine (HW2.out _ _ hx).mono ?_); rintro e wy ⟨rfl, hvy, fvy, lvy, hy⟩))
                  have HRY := Lib.hid hy
                  clear hx hy hbd hoc HW1 HW2
                  have hlp : L ≤ 128 := by have := HL2.out; omega
                  go_wp2_with fail
                  go_loopw [17] (fun x wr => ∃ j : Nat, j ≤ L ∧ x = .int .i64 (j : Int) ∧ Hid (Rn w sb bb mb rb gv g2 cs pvx hvy fvy lvy D' D' wr)) (fun x _ => L - (intOf x).toNat)
                  case atStart => exact ⟨0, Nat.zero_le _, rfl, HRY⟩
                  case round =>
                    clear HRY
                    obtain ⟨j, hj, rfl, HRZ⟩ := hrel
                    by_cases hlt : j < L
                    · obtain ⟨ox, hox, hob⟩ := HRZ.out.oct
                      have hjc := hob.cell j
                      have hjf := hob.free j
                      rw [Array.getElem?_eq_getElem (by rw [hox]; omega)] at hjc
                      have HR9 := Lib.hid (HRZ.out.octet j (.int .u8 99))
                      have hjL : (j : Int) < (L : Int) := by omega
                      clear hob
                      go_wp2_with fail
                      go_roundw
                      case rel => exact ⟨j + 1, by omega, by go_num, HR9⟩
                      case measure => simp [intOf]; omega
                    · have hjL : ¬ (j : Int) < (L : Int) := by omega
                      have HPX := Lib.hid HRZ.out.pl
                      go_wp2_with fail
                      go_meet
                      exact ⟨_, _, _, _, _, HNX, HPX⟩
              · -- Flush
                as_aux_lemma =>
                  obtain ⟨x3, hx3⟩ : ∃ x, startE D = x := ⟨_, rfl⟩
                  have HX3 := Lib.hid hx3
                  clear hx3
                  go_wp2_with fail
                  refine (Flush_any _ HRN.out.dev HPD.out).mono ?_
                  rintro e wx ⟨rfl, pvx, ht⟩
                  rw [HX3.out]
                  have HRX := Lib.hid (HRN.out.turn ht)
                  clear ht v0
                  go_wp2_with fail
                  refine (refFlush_any _ HRX.out.ref HPD.out).mono ?_
                  rintro e wy ⟨rfl, ht⟩
                  rw [HX3.out]
                  obtain ⟨hvy, fvy, lvy, hy⟩ := HRX.out.turnR ht
                  have HPX := Lib.hid hy.pl
                  have HNX := Lib.hid HM.out.flush
                  clear ht hy
                  go_wp2_with fail
                  go_meet
                  exact ⟨_, _, _, _, _, HNX, HPX⟩
              · -- Budget
                as_aux_lemma =>
                  have v1 := V1.out HRN.out
                  by_cases hi : -1 ≤ i
                  · have hd : decide (i ≥ -1) = true := by simpa using hi
                    have HI := Lib.hid hi
                    clear hi
                    go_wp2_with fail
                    refine (Budget_yes i _ HRN.out.dev HI.out HIB.out.2).mono ?_
                    rintro e wx ⟨rfl, ht⟩
                    have HRX := Lib.hid (HRN.out.turn ht)
                    have v1' := V1.out HRX.out
                    have c3 := HRX.out.ref.c3
                    have f3 := HRX.out.ref.fz 3
                    have hp := HRX.out.ref.put (D' := { D with bud := i }) 3 (.int .i64 i) (HRX.out.ref.ok.buds _ ⟨HI.out, HIB.out.2⟩) rfl rfl rfl rfl rfl
                    have HPX := Lib.hid (HRX.out.turnF hp.1 hp.2).pl
                    have HNX := Lib.hid (HM.out.budget i)
                    clear ht hp v0 v1
                    go_wp2_with fail
                    go_meet
                    exact ⟨_, _, _, _, _, HNX, HPX⟩
                  · have hd : decide (i ≥ -1) = false := by simp; omega
                    have HI : Hid (i < -1) := by show _ < _; omega
                    clear hi
                    go_wp2_with fail
                    refine (Budget_no i _ HRN.out.dev HI.out).mono ?_
                    rintro e wx ⟨rfl, hwx⟩
                    obtain rfl := hwx
                    have HPX := Lib.hid HRN.out.pl
                    have HNX := Lib.hid HM.out.up
                    go_wp2_with fail
                    go_meet
                    exact ⟨_, _, _, _, _, HNX, HPX⟩
              · -- Crash
                as_aux_lemma =>
                  have v5 := V5.out HRN.out
                  have HFA : Hid (Rd w w.heap.size fa (fr.map iv)) := HOK.out.far
                  have HFL : Hid (fr.length ≤ 9223372036854775807) := by have h1 := HOK.out.cap; have h2 := HOK.out.max; unfold maxLen at h2; exact Lib.hid (by simp only at h1 h2; omega)
                  go_wp2_with fail
                  refine (HRN.out.crash fa fc fr HFA.out HPD.out).mono ?_
                  rintro e wx ⟨rfl, pvx, hx⟩
                  have HRX := Lib.hid hx
                  have v5' := V5.out HRX.out
                  clear hx v0 v5
                  go_wp2_with fail
                  refine (HRX.out.crashR fa fc fr HFA.out HPD.out HFL.out).mono ?_
                  rintro e wy ⟨rfl, hvy, fvy, lvy, hy⟩
                  have HPX := Lib.hid hy.pl
                  have HNX := Lib.hid (HM.out.crash fr)
                  clear hy v5'
                  go_wp2_with fail
                  go_meet
                  exact ⟨_, _, _, _, _, HNX, HPX⟩
              · -- On
                as_aux_lemma =>
                  go_wp2_with fail
                  refine (On_any _ HRN.out.dev).mono ?_
                  rintro e wx ⟨rfl, ht⟩
                  have HRX := Lib.hid (HRN.out.turn ht)
                  clear ht v0
                  go_wp2_with fail
                  refine (refOn_any _ HRX.out.ref).mono ?_
                  rintro e wy ⟨rfl, ht⟩
                  obtain ⟨hvy, fvy, lvy, hy⟩ := HRX.out.turnR ht
                  have HPX := Lib.hid hy.pl
                  have HNX := Lib.hid HM.out.on
                  clear ht hy
                  go_wp2_with fail
                  go_meet
                  exact ⟨_, _, _, _, _, HNX, HPX⟩
              · -- Fault
                as_aux_lemma =>
                  have v1 := V1.out HRN.out
                  have v2 := V2.out HRN.out
                  cases t
                  · have hf : inN D.n i = false := by rw [HM.out.n]; exact HT.out
                    have HF := Lib.hid hf
                    have HPX := Lib.hid HRN.out.pl
                    have HNX := Lib.hid HM.out.up
                    clear hf
                    go_wp2_with fail
                    refine (Fault_no i q _ HRN.out.dev HF.out).mono ?_
                    rintro e wx ⟨rfl, hwx⟩
                    obtain rfl := hwx
                    go_wp2_with fail
                    go_meet
                    exact ⟨_, _, _, _, _, HNX, HPX⟩
                  · by_cases hq : 0 ≤ q ∧ q ≤ 3
                    · obtain ⟨hj0, hj1⟩ := inN_yes HT.out
                      obtain ⟨j, rfl⟩ : ∃ j : Nat, i = (j : Int) := ⟨i.toNat, by omega⟩
                      have hj : j < D.n := by rw [HM.out.n]; omega
                      have HJ := Lib.hid hj
                      have HQ := Lib.hid hq
                      have hq1 : decide (q < 0) = false := by simp; omega
                      have hq2 : decide (q > 3) = false := by simp; omega
                      obtain ⟨fg, fcp, rfl, _, _⟩ := own_addr HRN.out.ref.flt HRN.out.ref.ok.n1
                      have hDn := HM.out.n
                      clear hj0 hj hq
                      go_wp2_with fail
                      refine (Fault_yes j q _ HRN.out.dev HJ.out HQ.out HCN.out).mono ?_
                      rintro e wx ⟨rfl, ht⟩
                      have HRX := Lib.hid (HRN.out.turn ht)
                      have v1' := V1.out HRX.out
                      have v2' := V2.out HRX.out
                      have c1 := HRX.out.ref.c1
                      have hfc := (HRX.out.ref.flt.cellAt j (by have := HJ.out; omega)).trans (flts_at _ _ _ HJ.out)
                      have hff := HRX.out.ref.flt.frozenAt j
                      have hp := HRX.out.ref.drew.putFault rfl j q HQ.out (D.cnt + 1)
                      have HPX := Lib.hid (HRX.out.drew.turnF hp.1 hp.2).pl
                      have HNX := Lib.hid (HM.out.fault (j : Int) q)
                      rw [hDn] at c1
                      obtain ⟨ft, hft⟩ : ∃ ft, D.flt (j : Int) = ft := ⟨_, rfl⟩
                      rw [hft] at hfc
                      clear ht hp v0 v1 v2 hft hDn
                      go_upto_region 58 with fail
                      refine wp_region_still_tail 9 (by kernel_rfl) (by kernel_rfl) ?_
                      simp only [List.take_succ_cons, List.take_zero, List.drop_succ_cons, List.drop_zero]
                      change wpStill _ _ wx.drew _ _ _
                      iterate 9 still_step
                      refine wpStill_nil ?_
                      change wpList _ _ _ _ _ wx.drew
                      go_wp2_with fail
                      go_meet
                      exact ⟨_, _, _, _, _, HNX, HPX⟩
                    · have hqb : q < 0 ∨ 3 < q := by omega
                      have hf : inN D.n i = true := by rw [HM.out.n]; exact HT.out
                      have HF := Lib.hid hf
                      have HQ := Lib.hid hqb
                      have hqd : decide (q < 0) = true ∨ (decide (q < 0) = false ∧ decide (q > 3) = true) := by
                        by_cases h : q < 0
                        · exact .inl (by simpa using h)
                        · exact .inr ⟨by simpa using h, by simp; omega⟩
                      have HPX := Lib.hid HRN.out.pl
                      have HNX := Lib.hid HM.out.up
                      clear hf hqb hq
                      rcases hqd with hq1 | ⟨hq1, hq2⟩
                      all_goals
                        go_wp2_with fail
                        refine (Fault_kind i q _ HRN.out.dev HF.out HQ.out).mono ?_
                        rintro e wx ⟨rfl, hwx⟩
                        obtain rfl := hwx
                        go_wp2_with fail
                        go_meet
                        exact ⟨_, _, _, _, _, HNX, HPX⟩
              · -- Mount
                as_aux_lemma =>
                  have v2 := V2.out HRN.out
                  by_cases hz : q.tmod 2 = 0
                  · have e1 : (q.tmod 2 == 0) = true := by simpa using hz
                    have e2 : (q.tmod 2 != 0) = false := by simpa using hz
                    clear hz
                    go_wp2_with fail
                    refine (Mount_any true _ HRN.out.dev).mono ?_
                    rintro e wx ⟨rfl, ht⟩
                    have HRX := Lib.hid (HRN.out.turn ht)
                    have v2' := V2.out HRX.out
                    have c5 := HRX.out.ref.c5
                    have f5 := HRX.out.ref.fz 5
                    have hp := HRX.out.ref.put (D' := { D with mnt := true }) 5 (.bool false) (HRX.out.dev.ok) rfl rfl rfl rfl rfl
                    have HPX := Lib.hid (HRX.out.turnF hp.1 hp.2).pl
                    have HNX := Lib.hid (HM.out.mount true)
                    clear ht hp v0 v2
                    go_wp2_with fail
                    go_meet
                    exact ⟨_, _, _, _, _, HNX, HPX⟩
                  · have e1 : (q.tmod 2 == 0) = false := by simpa using hz
                    have e2 : (q.tmod 2 != 0) = true := by simpa using hz
                    clear hz
                    go_wp2_with fail
                    refine (Mount_any false _ HRN.out.dev).mono ?_
                    rintro e wx ⟨rfl, ht⟩
                    have HRX := Lib.hid (HRN.out.turn ht)
                    have v2' := V2.out HRX.out
                    have c5 := HRX.out.ref.c5
                    have f5 := HRX.out.ref.fz 5
                    have hp := HRX.out.ref.put (D' := { D with mnt := false }) 5 (.bool true) (HRX.out.dev.ok) rfl rfl rfl rfl rfl
                    have HPX := Lib.hid (HRX.out.turnF hp.1 hp.2).pl
                    have HNX := Lib.hid (HM.out.mount false)
                    clear ht hp v0 v2
                    go_wp2_with fail
                    go_meet
                    exact ⟨_, _, _, _, _, HNX, HPX⟩
              · -- Spoil
                as_aux_lemma =>
                  have v1 := V1.out HRN.out
                  cases t
                  · have hf : inN D.n i = false := by rw [HM.out.n]; exact HT.out
                    have hsp := Spoil_no i (some ⟨g2, 0, none⟩) L 128 false wa HRN.out.dev hf (by have := HL2.out; omega) (.inl rfl)
                    rw [if_pos rfl] at hsp
                    have HSP := Lib.hid hsp
                    have HPX := Lib.hid HRN.out.pl
                    have HNX := Lib.hid HM.out.up
                    clear hf hsp
                    go_wp2_with fail
                    refine HSP.out.mono ?_
                    rintro e wx ⟨rfl, hwx⟩
                    obtain rfl := hwx
                    go_wp2_with fail
                    go_meet
                    exact ⟨_, _, _, _, _, HNX, HPX⟩
                  · cases sh
                    · have hL := HSH.out
                      simp only [Bool.false_eq_true, if_false] at hL
                      subst hL
                      obtain ⟨hj0, hj1⟩ := inN_yes HT.out
                      obtain ⟨j, rfl⟩ : ∃ j : Nat, i = (j : Int) := ⟨i.toNat, by omega⟩
                      have hj : j < D.n := by rw [HM.out.n]; omega
                      have HJ := Lib.hid hj
                      have HRD : Hid (Rd wa wa.heap.size (some ⟨g2, 0, none⟩) ((allOf c).map bv)) := by have := Rd.bk HOC.out; exact Lib.hid (by simpa using this)
                      have HOFF := Lib.hid (HRN.out.dev.off HOC.out (by decide) (by decide) (by decide))
                      obtain ⟨hg, hcp, rfl, _, _⟩ := own_addr HRN.out.ref.has HRN.out.ref.ok.n1
                      have hDn := HM.out.n
                      clear hj0 hj
                      go_wp2_with fail
                      refine (Spoil_yes j g2 0 128 wa.heap.size (allOf c) _ HRN.out.dev HJ.out (allOf_length c) HRD.out HOFF.out).mono ?_
                      rintro e wx ⟨rfl, ht⟩
                      rw [upd_is_set HRN.out.dev.ok.has j _ (allOf_length c)] at ht
                      have HRX := Lib.hid (HRN.out.turn ht)
                      have v1' := V1.out HRX.out
                      have v4' := V4.out HRX.out
                      have c0 := HRX.out.ref.c0
                      have hfc := (HRX.out.ref.has.cellAt j (by have := HJ.out; omega)).trans (strs_at _ _ _ HJ.out)
                      have hff := HRX.out.ref.has.frozenAt j
                      have hp := HRX.out.ref.drew.putText rfl j (allOf c) HJ.out (allOf_length c)
                      have eT : str (allOf c) = T := HTT.out
                      rw [eT] at hp
                      have HPX := Lib.hid (HRX.out.drew.turnF hp.1 hp.2).pl
                      have HNX := Lib.hid (HM.out.put (setH D.has j (allOf c)))
                      rw [hDn] at c0
                      obtain ⟨fs, hfs⟩ : ∃ fs, str (D.has j) = fs := ⟨_, rfl⟩
                      rw [hfs] at hfc
                      clear ht hp v0 v1 hfs hDn eT
                      go_upto_region 72 with fail
                      refine wp_region_still_tail 8 (by kernel_rfl) (by kernel_rfl) ?_
                      simp only [List.take_succ_cons, List.take_zero, List.drop_succ_cons, List.drop_zero]
                      change wpStill _ _ wx.drew _ _ _
                      iterate 8 still_step
                      refine wpStill_nil ?_
                      change wpList _ _ _ _ _ wx.drew
                      go_wp2_with fail
                      go_meet
                      exact ⟨_, _, _, _, _, HNX, HPX⟩
                    · have hL := HSH.out
                      simp only [if_true] at hL
                      subst hL
                      have hf : inN D.n i = true := by rw [HM.out.n]; exact HT.out
                      have hsp := Spoil_no i (some ⟨g2, 0, none⟩) 127 128 true wa HRN.out.dev hf (by omega) (.inr (by omega))
                      rw [if_neg (by simp)] at hsp
                      have HSP := Lib.hid hsp
                      have HPX := Lib.hid HRN.out.pl
                      have HNX := Lib.hid HM.out.up
                      have v4 := V4.out HRN.out
                      clear hf hsp
                      go_wp2_with fail
                      refine HSP.out.mono ?_
                      rintro e wx ⟨rfl, hwx⟩
                      obtain rfl := hwx
                      go_wp2_with fail
                      go_meet
                      exact ⟨_, _, _, _, _, HNX, HPX⟩
              · -- Erase
                as_aux_lemma =>
                  obtain ⟨x3, hx3⟩ : ∃ x, startE D = x := ⟨_, rfl⟩
                  have HX3 := Lib.hid hx3
                  clear hx3
                  go_wp2_with fail
                  refine (Erase_any _ HRN.out.dev).mono ?_
                  rintro e wx ⟨rfl, pvx, ht⟩
                  rw [HX3.out]
                  have HRX := Lib.hid (HRN.out.turn ht)
                  clear ht v0
                  go_wp2_with fail
                  refine (refErase_any _ HRX.out.ref).mono ?_
                  rintro e wy ⟨rfl, ht⟩
                  rw [HX3.out]
                  obtain ⟨hvy, fvy, lvy, hy⟩ := HRX.out.turnR ht
                  have HPX := Lib.hid hy.pl
                  have HNX := Lib.hid HM.out.erase
                  clear ht hy
                  go_wp2_with fail
                  go_meet
                  exact ⟨_, _, _, _, _, HNX, HPX⟩
              · -- Has
                as_aux_lemma =>
                  have v1 := V1.out HRN.out
                  cases t
                  · have hf : inN D.n i = false := by rw [HM.out.n]; exact HT.out
                    have HF := Lib.hid hf
                    have HPX := Lib.hid HRN.out.pl
                    have HNX := Lib.hid HM.out.up
                    clear hf
                    go_wp2_with fail
                    refine (Has_no i _ HRN.out.dev HF.out).mono ?_
                    rintro e wx ⟨rfl, hwx⟩
                    obtain rfl := hwx
                    go_wp2_with fail
                    go_meet
                    exact ⟨_, _, _, _, _, HNX, HPX⟩
                  · obtain ⟨hj0, hj1⟩ := inN_yes HT.out
                    obtain ⟨j, rfl⟩ : ∃ j : Nat, i = (j : Int) := ⟨i.toNat, by omega⟩
                    have hj : j < D.n := by rw [HM.out.n]; omega
                    have HJ := Lib.hid hj
                    obtain ⟨hg, hcp, rfl, _, _⟩ := own_addr HRN.out.ref.has HRN.out.ref.ok.n1
                    have hDn := HM.out.n
                    clear hj0 hj
                    go_wp2_with fail
                    refine (Has_yes j _ HRN.out.dev HJ.out).mono ?_
                    rintro e wx ⟨rfl, hwx⟩
                    have hRX := HRN.out.alloc (outs (D.has j))
                    rw [← hwx] at hRX
                    have hk8 : Bk wx wa.heap.size 67 ((D.has j).map bv).toArray := by rw [hwx]; exact Bk.new _ _ _
                    obtain ⟨S, hS⟩ : ∃ S, str (D.has j) = S := ⟨_, rfl⟩
                    obtain ⟨g8, hg8⟩ : ∃ g, wa.heap.size = g := ⟨_, rfl⟩
                    have HRX := Lib.hid hRX
                    have hcv : ∀ m : Nat, (convert 33 9 (.slice (some ⟨g8, 0, none⟩) 128 128)).run Try.prog (wx.drewN m) = .ok (.string S) (wx.drewN m) := fun m => by
                      rw [← hS, ← hg8]; exact conv_out _ _ _ (HRX.out.dev.ok.has j) (hk8.drewN m)
                    have v1' := V1.out HRX.out
                    have c0 := HRX.out.ref.c0
                    have hfc := (HRX.out.ref.has.cellAt j (by have := HJ.out; omega)).trans (strs_at _ _ _ HJ.out)
                    rw [hS] at hfc
                    rw [hDn] at c0
                    rw [hg8]
                    have HNX := Lib.hid HM.out.up
                    clear hwx hk8 hg8 v0 v1 hRX hS hDn
                    go_upto_region 21 with fail
                    go_quiet (fail)
                    have HPX := Lib.hid (HRX.out.drewN nq).pl
                    go_wp2_with fail
                    go_meet
                    exact ⟨_, _, _, _, _, HNX, HPX⟩
            case rest =>
              as_aux_lemma =>
                clear HRN HM HPD HCN HOC V1 V2 V4 V5 v0
                obtain ⟨Dx, pvx, hvx, fvx, lvx, HMx, HPx⟩ := hcut
                have HPD : Hid (Dx.pend.length ≤ 1000) := by have := HMx.out.pend; have := HKK.out.2; show _ ≤ _; omega
                by_cases hn40 : (n : Int) < 40
                · go_wp2_with fail
                  refine (same_any _ HPx.out.dev HPx.out.ref HPD.out).mono ?_
                  rintro e wy ⟨rfl, hb⟩
                  have HPy := Lib.hid (HPx.out.up hb)
                  clear hb
                  go_wp2_with fail
                  go_roundw
                  case rel => exact ⟨k + 1, Dx, pvx, hvx, fvx, lvx, HKK.out.1, HKK.out.2, by go_num, HMx, HPy⟩
                  case measure => have := HKK.out.2; simp [intOf]; omega
                · have hd40 : decide ((n : Int) < 40) = false := by simpa using hn40
                  go_wp2_with fail
                  go_roundw
                  case rel => exact ⟨k + 1, Dx, pvx, hvx, fvx, lvx, HKK.out.1, HKK.out.2, by go_num, HMx, HPx⟩
                  case measure => have := HKK.out.2; simp [intOf]; omega
      · have hout : (k < N ∧ decide ((k : Int) < 50) = false) ∨ ¬ k < N := by
          by_cases h : k < N
          · exact .inl ⟨h, by simp; omega⟩
          · exact .inr h
        have HPD : Hid (D.pend.length ≤ 1000) := by have := HM.out.pend; show _ ≤ _; omega
        rcases hout with ⟨hlt, h50⟩ | hlt
        all_goals
         as_aux_lemma =>
          go_wp2_with fail
          refine (same_any _ HP.out.dev HP.out.ref HPD.out).mono ?_
          rintro e wy ⟨rfl, hb⟩
          have HPy := Lib.hid (HP.out.up hb)
          clear hb
          go_wp2_with fail
          refine (awake_any _).mono ?_
          rintro e w9 ⟨rfl, hb⟩
          have HB9 := Lib.hid (HPy.out.up hb).below
          clear hb
          go_wp2_with fail
          go_ret
          exact ⟨rfl, HB9.out⟩

set_option maxRecDepth 100000 in
theorem lifted (os : Os) (started : os.Started) (H : Type) (enc : TypeId × Value → H) :
    ReturnsInHanded {} Try.checked os 3 .any (Rows.devPlaysSpec.pre6 enc Try.prog Try.f3 Rows.devPlaysRow.domain false) (Rows.devPlaysSpec.post enc Try.prog Try.f3 false true false false) := by
  refine returnsInHanded_of_change (C := Try.checked) own started (by kernel_rfl) Try.func3
    (ChangeSpec.witness6 (enc := enc) (C := Try.checked) false ⟨#[], #[.int .i64 0, .slice none 0 0], []⟩ 8 (by kernel_rfl) (by kernel_rfl) (by kernel_rfl) (by kernel_rfl)) ?_
  intro W base args ds gs before hval0 hW hcnd _
  have hval : ∀ (j : Nat) t v, Try.f3.params[j]? = some t → args[j]? = some v → Value.okWide Try.prog W .any base t v := hval0
  have hW' := hW
  obtain ⟨p, q, hA0, hV, rfl, hfz, hnd⟩ := hW
  have hA : DataW.TrodAll enc Try.prog W 0 (fun _ => true) true Try.f3.params.toList args.toList ds p := hA0
  rw [Try.params3] at hA hval
  obtain ⟨v0, vs0, d0, ds0, p0, q0, hargs, rfl, rfl, h0, r0⟩ := trodAll_cons hA
  obtain ⟨v1, vs1, d1, ds1, p1, q1, rfl, rfl, rfl, h1, r1⟩ := trodAll_cons r0
  obtain ⟨rfl, rfl, rfl⟩ := trodAll_nil r1
  obtain rfl : args = #[v0, v1] := by cases args; simp_all
  obtain ⟨rfl, rfl⟩ := trodVars_none hV
  obtain ⟨x0, rfl, rfl, rfl, wx0⟩ := open_int Try.underlying3 (hval 0 3 v0 rfl rfl) h0
  have hx0 := bounds_i64 wx0
  obtain ⟨a1, len1, cap1, rfl⟩ := okWide_slice Try.underlying22 (hval 1 22 v1 rfl rfl)
  have lt1 : ∀ x ∈ p1, x.block < W.heap.size := by obtain ⟨m, hm⟩ := h1; exact DataW.trod_lt m _ _ _ hm
  obtain ⟨x1, rfl, hc1, hm1, hr1⟩ := acts_in h1
  clear hA0 hval0
  refine (walk x0 a1 cap1 x1 W hx0 hr1 hc1 hm1).mono fun e W' ⟨he, bel⟩ => ?_
  subst he
  exact ⟨_, rfl, _, _, _, [], _, [], hW', trodAll_mk1 (shut_bool Try.underlying4 _), (trodAll_cons_mk (shut_int Try.underlying3 wx0) (trodAll_cons_mk (Below.trod laidOut (by kernel_rfl) (of_decide_eq_true (by kernel_rfl)) h1 bel lt1) trodAll_mk0)), rfl, bel.frame _, fun h => by cases h⟩

theorem over : Rows.devPlaysRow.holds Try.pinned (OpenSpec.ofChange Rows.devPlaysSpec) :=
  OpenClaim.holds_of_wide 3 Try.f3 rfl rfl rfl rfl rfl rfl rfl ⟨rfl, rfl, rfl, rfl, rfl⟩ rfl rfl rfl rfl rfl (by kernel_rfl) Try.func3 (by kernel_rfl)
    (of_decide_eq_true (by kernel_rfl)) (by unfold Func.isWrapper; first | (rw [if_pos (by decide +kernel)]; kernel_rfl) | (rw [if_neg (by decide +kernel)]; exact ⟨rfl, rfl⟩))
    (fun os started H enc _ => lifted os started H enc)

theorem proved : Rows.DevPlaysSaid := over
#print axioms proved
end Go.Proofs.Ytpjdnbmeedcafaa.devPlays
