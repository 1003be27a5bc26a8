/-
  Behind a flush that was done a crash loses nothing; each octet behind a crash is what some write of its block says there, or what it had, without the document's answer.
-/
import Derived.Test.YtpjdnbmeedcafaaDevKeepsA
import Derived.Deep.LoopGhost
import Derived.BigQuiet
import Derived.Deep.DeepCutAuto
import Derived.Deep.CutRange
namespace Go.Proofs.Ytpjdnbmeedcafaa.devKeeps
open Go.ChangeShapes Go.WideShapes Go.ChangeAt Go.RowKit
set_option linter.unusedVariables false

/-- what stays while the octets of a block are looked at -/
structure St (base sb bb mb : Nat) (W : World) (D6 D1 : Dv) (ga cr g8 i : Nat) (w : World) : Prop where
  bk : Bk w g8 67 ((D6.has i).map bv).toArray
  own : w.ownsRow base 9 1 (.slice (some ⟨ga, 0, none⟩) 4 cr) 4 (texts D1.has 4)
  dev : DevAt w base sb bb mb (.slice none 0 0) D6
  below : Below base W w
theorem St.drewN {base sb bb mb : Nat} {W : World} {D6 D1 : Dv} {ga cr g8 i : Nat} {w : World} (h : St base sb bb mb W D6 D1 ga cr g8 i w) (m : Nat) : St base sb bb mb W D6 D1 ga cr g8 i (w.drewN m) :=
  ⟨h.bk.drewN m, h.own, h.dev.keep fun _ _ => rfl, h.below.drewN' m⟩

set_option maxRecDepth 100000 in
set_option maxHeartbeats 8000000 in
theorem walk (A1 : Option Addr) (cap1 : Nat) (l1 : List Act') (A2 : Option Addr) (cap2 : Nat) (l2 : List Act') (A3 : Option Addr) (cap3 : Nat) (far : List Int) (w : World) (hl1 : ActsIn w w.heap.size A1 l1) (hc1 : l1.length ≤ cap1) (hm1 : cap1 ≤ maxLen) (hl2 : ActsIn w w.heap.size A2 l2) (hc2 : l2.length ≤ cap2) (hm2 : cap2 ≤ maxLen) (hr : Rd w w.heap.size A3 (far.map iv)) (hc3 : far.length ≤ cap3) (hm3 : cap3 ≤ maxLen) :
    Calls Try.prog 4 #[.slice A1 l1.length cap1, .slice A2 l2.length cap2, .slice A3 far.length cap3] w fun e w' => e = .returned (.bool true) ∧ Below w.heap.size w w' := by
  have HL1 := Lib.hid hl1
  have HL2 := Lib.hid hl2
  have HR := Lib.hid hr
  obtain ⟨n1, hn1⟩ : ∃ n, l1.length = n := ⟨_, rfl⟩
  obtain ⟨n2, hn2⟩ : ∃ n, l2.length = n := ⟨_, rfl⟩
  obtain ⟨n3, hn3⟩ : ∃ n, far.length = n := ⟨_, rfl⟩
  have HN1 := Lib.hid hn1
  have HN2 := Lib.hid hn2
  have HN3 := Lib.hid hn3
  unfold maxLen at hm1 hm2 hm3
  have hnm1 : n1 ≤ 9223372036854775807 := by omega
  have hnm2 : n2 ≤ 9223372036854775807 := by omega
  have hnm3 : n3 ≤ 9223372036854775807 := by omega
  rw [hn1, hn2, hn3]
  obtain ⟨i0, hi', hz0', hz1', hz2'⟩ := info_parts info_str
  have hi := Lib.hid hi'
  have hz0 := Lib.hid hz0'
  have hz1 := Lib.hid hz1'
  have hz2 := Lib.hid hz2'
  clear hl1 hl2 hr hn1 hn2 hn3 hc1 hc2 hc3 hm1 hm2 hm3 hi' hz0' hz1' hz2'
  go_enter Try.func4, Try.ntmps4
  go_wp2_with fail
  refine (New_yes 4 _ (by omega) (by omega)).mono ?_
  rintro e w1 ⟨sb, bb, mb, rfl, hd, hb⟩
  have HD1 := Lib.hid hd
  have HB1 := Lib.hid hb
  clear hd hb
  go_wp2_with fail
  go_loopw [9] (fun x wr => ∃ (k : Nat) (D : Dv) (pv : Value), k ≤ n1 ∧ k ≤ 20 ∧ x = .int .i64 (k : Int) ∧ Hid (Works D 4 k) ∧ Hid (DevAt wr w.heap.size sb bb mb pv D) ∧ Hid (Below w.heap.size w wr)) (fun x _ => 20 - (intOf x).toNat)
  case atStart => exact ⟨0, newD 4, _, Nat.zero_le _, by omega, rfl, works_new 4, HD1, HB1⟩
  case round =>
    clear HD1 HB1
    obtain ⟨k, D, pv, hk, hk20, rfl, HW, HD, HB⟩ := hrel
    have hsz := HB.out.size
    by_cases hgo : k < n1 ∧ k < 20
    · obtain ⟨hlt, h20⟩ := hgo
      obtain ⟨a, ha⟩ : ∃ a, l1[k]? = some a := ⟨_, List.getElem?_eq_getElem (by rw [HN1.out]; exact hlt)⟩
      have HA := Lib.hid ha
      obtain ⟨b, o, rfl, hbB, hcell⟩ := act_cells HL1.out ha
      have k1 : ∀ w', Below w.heap.size w w' → w'.cell? ⟨b, o + k * 6 + 1, none⟩ = some (.int .i64 a.i) := fun w' hb => (hb.cell (p := ⟨b, o + k * 6 + 1, none⟩) hbB).trans (by have := hcell 1 (by omega); simpa [actV] using this)
      have k3 : ∀ w', Below w.heap.size w w' → w'.cell? ⟨b, o + k * 6 + 3, none⟩ = some (.int .u8 (a.c.toNat : Int)) := fun w' hb => (hb.cell (p := ⟨b, o + k * 6 + 3, none⟩) hbB).trans (by have := hcell 3 (by omega); simpa [actV] using this)
      have K1 := Lib.hid k1
      have K3 := Lib.hid k3
      have hkl : (k : Int) < 20 := by omega
      obtain ⟨i, hi⟩ : ∃ i, a.i = i := ⟨_, rfl⟩
      obtain ⟨c, hc⟩ : ∃ c, a.c = c := ⟨_, rfl⟩
      rw [hi] at K1
      rw [hc] at K3
      have HI := Lib.hid hi
      have HC := Lib.hid hc
      have HALL := Lib.hid (All_any c)
      obtain ⟨ci, hci⟩ : ∃ ci : Int, (c.toNat : Int) = ci := ⟨_, rfl⟩
      rw [hci] at HALL K3
      have hbd : Below w.heap.size w wr.drew := HB.out.drew
      have HDd := Lib.hid HD.out.drew
      have HPL : Hid (D.pend.length ≤ 1000) := by have := HW.out.pend; show _ ≤ _; omega
      clear k1 k3 hcell ha hci hi hc
      go_wp2
      go_region_held3 (fun w' => w'.cell? ⟨b, o + k * 6 + 1, none⟩ = some (.int .i64 i) ∧ w'.cell? ⟨b, o + k * 6 + 3, none⟩ = some (.int .u8 ci)) (exact ⟨K1.out _ (by assumption), K3.out _ (by assumption)⟩)
        (first
          | (go_at_call 11; (with_reducible refine (HALL.out _).mono ?_); rintro e w3 ⟨rfl, hbk, hbl, _⟩; have hb3 := hbd.trans (hbl.mono hsz); have hd3 := HDd.out.up hbl; have hbk3 : Bk w3 wr.heap.size 5 ((allOf c).map bv).toArray := hbk)
          | (go_at_call 14; (with_reducible refine (Write_int i wr.heap.size c _ hd3 hb3.size hbk3 HPL.out).mono ?_); rintro e w4 ⟨rfl, pv4, ht⟩; have hb4 := hb3.trans (ht.below hd3 hb3.size)))
      have HT := Lib.hid ht
      have HB4 := Lib.hid hb4
      have HW2 := Lib.hid (HW.out.act i c)

      clear ht hb4 hb3 hbk hbk3 hd3 hbd hbl
      go_wp2_with fail
      go_roundw
      case rel => exact ⟨k + 1, _, pv4, by omega, by omega, by go_num, HW2, HT.out.dev, HB4⟩
      case measure => simp [intOf]; omega
    · have hout : (k < n1 ∧ decide ((k : Int) < 20) = false) ∨ ¬ k < n1 := by
        by_cases h : k < n1
        · exact .inl ⟨h, by simp; omega⟩
        · exact .inr h
      go_upto_region 5 with fail
      go_cut [38] from 31 to 53 (fun sx wc => wr = wc ∧ sx = .bool false)
      case first =>
        rcases hout with ⟨hlt, h20⟩ | hlt
        all_goals
          go_wp2_with fail
          go_meet
          exact ⟨rfl, rfl⟩
      case rest =>
        obtain ⟨rfl, rfl⟩ := hcut
        have HST : Hid (∃ D, Works D 4 20 ∧ ∃ pv, DevAt wr w.heap.size sb bb mb pv D) := ⟨D, HW.out.up hk20, pv, HD.out⟩
        have HB1 := HB
        have HS1 := Lib.hid HB.out.size
        clear HW HD HB hsz hgo hk hk20
        obtain ⟨D, hW, pv, hD⟩ := HST.out
        have HW := Lib.hid hW
        have HD := Lib.hid hD
        clear HST hW hD
        have HPL : Hid (D.pend.length ≤ 1000) := by have := HW.out.pend; show _ ≤ _; omega
        have HE : Hid (startE D = 0) := HW.out.calm.startE
        go_wp2_with fail
        refine (Flush_any _ HD.out HPL.out).mono ?_
        rintro e w2 ⟨rfl, pv1, ht⟩
        rw [HE.out]
        obtain ⟨D1, hD1⟩ : ∃ D1, flushD D = D1 := ⟨_, rfl⟩
        have hp1 : D1.pend = [] := by rw [← hD1, HW.out.calm.flushD]; rfl
        have hw1 := HW.out.flush
        rw [hD1] at ht hw1
        have HP1 := Lib.hid hp1
        have HW1 : Hid (Works D1 4 0) := ⟨hw1.calm, hw1.n, hw1.flt, by rw [hp1]; exact Nat.le_refl _⟩
        have HB2 := Lib.hid (HB1.out.trans (ht.below HD.out HS1.out))
        have HD2 := Lib.hid ht.dev
        have HO0 : Hid (w2.ownsRow w.heap.size 9 1 (.slice none 0 0) 0 (texts D1.has 0)) := World.ownsRow_nil _ _ _ _
        have HRD : Hid (∀ i, rdOf D1 i = D1.has i) := fun i => by unfold rdOf; rw [HP1.out]; rfl
        have HRE : Hid (∀ i, readE D1 i = 0) := fun i => by unfold readE; rw [HW1.out.calm.pow, HW1.out.calm.mnt, HW1.out.flt]; rfl
        clear ht hp1 hw1 hD1 HW HD HPL HE HB1 HS1
        go_wp2_with fail
        go_loopw [10, 11] (fun r x wr => ∃ k : Nat, k ≤ 4 ∧ x = .int .i64 (k : Int) ∧ Hid (wr.ownsRow w.heap.size 9 1 r k (texts D1.has k)) ∧ Hid (DevAt wr w.heap.size sb bb mb pv1 D1) ∧ Hid (Below w.heap.size w wr)) (fun _ x _ => 4 - (intOf x).toNat)
        case atStart => exact ⟨0, by omega, rfl, HO0, HD2, HB2⟩
        case round =>
          clear HO0 HD2 HB2
          obtain ⟨k, hk, rfl, HO, HD, HB⟩ := hrel
          have hsz := HB.out.size
          by_cases hlt4 : k < 4
          · have HRY := Lib.hid (Read_yes k _ HD.out (by rw [HW1.out.n]; exact hlt4) (HRE.out k) (by rw [HP1.out]; simp))
            go_wp2_with fail
            refine HRY.out.mono ?_
            rintro e w3 ⟨rfl, hw3⟩
            rw [HRD.out k] at hw3
            have hb3 : Below wr.heap.size wr w3 := by rw [hw3]; exact (Below.refl _ _).alloc (Nat.le_refl _) _
            have hk3 : Bk w3 wr.heap.size 67 ((D1.has k).map bv).toArray := by rw [hw3]; exact Bk.new _ _ _
            have hcv := conv_out w3 _ _ (HD.out.ok.has k) hk3
            obtain ⟨S, hS⟩ : ∃ S, str (D1.has k) = S := ⟨_, rfl⟩
            rw [hS] at hcv
            have HS := Lib.hid hS
            have HO3 := Lib.hid (own_below HO.out hb3)
            have HD3 := Lib.hid (HD.out.up hb3)
            have HB3 := Lib.hid (HB.out.trans (hb3.mono hsz))
            have hs3 := HB3.out.size
            obtain ⟨g3, hg3⟩ : ∃ g, wr.heap.size = g := ⟨_, rfl⟩
            rw [hg3] at hcv ⊢
            obtain ⟨Ar, cr, rfl, hkc, hcm⟩ := own_len HO3.out
            unfold maxLen at hcm
            clear hb3 hk3 hw3 hS HRY hg3
            go_wp2_with (at_builtin; refine wpList_append_own _ rfl _ _ 44 rfl w.heap.size 9 i0 (.string ByteArray.empty) 1 16 Try.underlying44 hi.out hz0.out hz1.out hz2.out rfl (by decide) _ _ _ rfl (HO3.out.alloc _) ⟨w3.heap.size, 0, none⟩ 1 1 [.string S] rfl rfl ?g1 ?g2 ?g3 ?g4 ?g5 ?_)
            case g1 =>
              intro j u hj
              match j, hj with
              | 0, hj => simp at hj; subst hj; simp [Addr.add]
            case g2 => intro u hu; simp at hu; subst hu; rfl
            case g3 => unfold maxLen; omega
            case g4 => omega
            case g5 => simp; omega
            intro v2 w4 hown4 hgr4 _
            have HO4 : Hid (w4.ownsRow w.heap.size 9 1 v2 (k + 1) (texts D1.has (k + 1))) := by
              show World.ownsRow _ _ _ _ _ _ _
              rw [texts_succ, HS.out]; exact hown4
            have HB4 : Hid (Below w.heap.size w w4) := (HB3.out.alloc hs3 _).grown hgr4 (by simp; omega) (fun g hg => (HO3.out.lt g hg).1)
            have HD4 : Hid (DevAt w4 w.heap.size sb bb mb pv1 D1) := (HD3.out.up ((Below.refl _ _).alloc (Nat.le_refl _) _)).keep fun j hj => hgr4.block j (by have := (HD3.out.lt hj).2; simp; omega) (fun e => by
              obtain ⟨_, _, cs, hb⟩ := own_lt HO3.out e.symm
              exact HD3.out.off hb (by decide) (by decide) (by decide) hj)
            clear hown4 hgr4 hcv
            go_wp2_with fail
            go_roundw
            case rel => exact ⟨k + 1, by omega, by go_num, HO4, HD4, HB4⟩
            case measure => simp [intOf]; omega
          · obtain rfl : k = 4 := by omega
            have HF0 : Hid (From l2 0 D1.pend ∧ D1.has = D1.has) := ⟨by rw [HP1.out]; exact fun p hp => (nomatch hp), rfl⟩
            obtain ⟨Ar, cr, rfl, hkc, hcm⟩ := own_len HO.out
            unfold maxLen at hcm
            clear hlt4 hk hsz
            go_wp2_with fail
            obtain ⟨wo, hwo⟩ : ∃ wo : World, wo = wr := ⟨_, rfl⟩
            subst hwo
            go_loopw [14] (fun x wr => ∃ (k : Nat) (D : Dv) (pv : Value), k ≤ n2 ∧ k ≤ 20 ∧ x = .int .i64 (k : Int) ∧ Hid (Works D 4 k) ∧ Hid (From l2 k D.pend ∧ D.has = D1.has) ∧ Hid (wr.ownsRow w.heap.size 9 1 (.slice Ar 4 cr) 4 (texts D1.has 4)) ∧ Hid (DevAt wr w.heap.size sb bb mb pv D) ∧ Hid (Below w.heap.size w wr)) (fun x _ => 20 - (intOf x).toNat)
            case atStart => exact ⟨0, D1, pv1, Nat.zero_le _, by omega, rfl, HW1, ⟨HF0.out.1, rfl⟩, HO, HD, HB⟩
            case round =>
              clear HD HB HO
              obtain ⟨k, D, pv, hk, hk20, rfl, HW, HF, HO, HD, HB⟩ := hrel
              have hsz := HB.out.size
              by_cases hgo : k < n2 ∧ k < 20
              · obtain ⟨hlt, h20⟩ := hgo
                obtain ⟨a, ha⟩ : ∃ a, l2[k]? = some a := ⟨_, List.getElem?_eq_getElem (by rw [HN2.out]; exact hlt)⟩
                have HA := Lib.hid ha
                obtain ⟨b, o, rfl, hbB, hcell⟩ := act_cells HL2.out ha
                have k1 : ∀ w', Below w.heap.size w w' → w'.cell? ⟨b, o + k * 6 + 1, none⟩ = some (.int .i64 a.i) := fun w' hb => (hb.cell (p := ⟨b, o + k * 6 + 1, none⟩) hbB).trans (by have := hcell 1 (by omega); simpa [actV] using this)
                have k3 : ∀ w', Below w.heap.size w w' → w'.cell? ⟨b, o + k * 6 + 3, none⟩ = some (.int .u8 (a.c.toNat : Int)) := fun w' hb => (hb.cell (p := ⟨b, o + k * 6 + 3, none⟩) hbB).trans (by have := hcell 3 (by omega); simpa [actV] using this)
                have K1 := Lib.hid k1
                have K3 := Lib.hid k3
                have hkl : (k : Int) < 20 := by omega
                obtain ⟨i, hi⟩ : ∃ i, a.i = i := ⟨_, rfl⟩
                obtain ⟨c, hc⟩ : ∃ c, a.c = c := ⟨_, rfl⟩
                rw [hi] at K1
                rw [hc] at K3
                have HI := Lib.hid hi
                have HC := Lib.hid hc
                have HALL := Lib.hid (All_any c)
                obtain ⟨ci, hci⟩ : ∃ ci : Int, (c.toNat : Int) = ci := ⟨_, rfl⟩
                rw [hci] at HALL K3
                have hbd : Below w.heap.size w wr.drew := HB.out.drew
                have HDd := Lib.hid HD.out.drew
                have HPL : Hid (D.pend.length ≤ 1000) := by have := HW.out.pend; show _ ≤ _; omega
                clear k1 k3 hcell ha hci hi hc
                go_wp2
                go_region_held3 (fun w' => w'.cell? ⟨b, o + k * 6 + 1, none⟩ = some (.int .i64 i) ∧ w'.cell? ⟨b, o + k * 6 + 3, none⟩ = some (.int .u8 ci)) (exact ⟨K1.out _ (by assumption), K3.out _ (by assumption)⟩)
                  (first
                    | (go_at_call 11; (with_reducible refine (HALL.out _).mono ?_); rintro e w3 ⟨rfl, hbk, hbl, _⟩; have hb3 := hbd.trans (hbl.mono hsz); have hd3 := HDd.out.up hbl; have hbk3 : Bk w3 wr.heap.size 5 ((allOf c).map bv).toArray := hbk)
                    | (go_at_call 14; (with_reducible refine (Write_int i wr.heap.size c _ hd3 hb3.size hbk3 HPL.out).mono ?_); rintro e w4 ⟨rfl, pv4, ht⟩; have hb4 := hb3.trans (ht.below hd3 hb3.size)))
                have HT := Lib.hid ht
                have HB4 := Lib.hid hb4
                have HW2 := Lib.hid (HW.out.act i c)
                have HF2 : Hid (From l2 (k + 1) (actW D i c).pend ∧ (actW D i c).has = D1.has) := by
                  have := HF.out.1.act HW.out.calm HW.out.flt HA.out
                  rw [HI.out, HC.out] at this
                  exact ⟨this.1, this.2.trans HF.out.2⟩
                have HO2 : Hid (w4.ownsRow w.heap.size 9 1 (.slice Ar 4 cr) 4 (texts D1.has 4)) := own_turn (own_below HO.out.drew hbl) hd3 ht
                clear ht hb4 hb3 hbk hbk3 hd3 hbd hbl
                go_wp2_with fail
                go_roundw
                case rel => exact ⟨k + 1, _, pv4, by omega, by omega, by go_num, HW2, HF2, HO2, HT.out.dev, HB4⟩
                case measure => simp [intOf]; omega
              · have hout : (k < n2 ∧ decide ((k : Int) < 20) = false) ∨ ¬ k < n2 := by
                  by_cases h : k < n2
                  · exact .inl ⟨h, by simp; omega⟩
                  · exact .inr h
                go_upto_region 19 with fail
                go_cut [86] from 79 to 101 (fun sx wc => wr = wc ∧ sx = .bool false)
                case first =>
                  rcases hout with ⟨hlt, h20⟩ | hlt
                  all_goals
                    go_wp2_with fail
                    go_meet
                    exact ⟨rfl, rfl⟩
                case rest =>
                  obtain ⟨rfl, rfl⟩ := hcut
            
                  obtain ⟨ga, rfl⟩ : ∃ ga, Ar = some ⟨ga, 0, none⟩ := by
                    rcases HO.out.2 with ⟨h, _⟩ | ⟨ga, c', cur, h, _⟩
                    · cases h
                    · injection h with h; exact ⟨ga, h⟩
                  have HMIN : Hid (∀ j : Nat, j ≤ n2 → j ≤ 20 → ¬ (j < n2 ∧ j < 20) → j = k) := Lib.hid fun j h1 h2 h3 => by omega
                  have HPL : Hid (D.pend.length ≤ 1000) := by have := HW.out.pend; show _ ≤ _; omega
                  have HS := Lib.hid hsz
                  clear hgo hk hk20 hsz hkc hcm
                  go_wp2_with fail
                  refine (Crash_any A3 n3 cap3 w.heap.size far _ HD.out HPL.out HN3.out (fun w' hf => HR.out.below (HB.out.trans (hf.below (fun k hk => (HD.out.lt hk).1) HS.out)))).mono ?_
                  rintro e w5 ⟨rfl, pv5, ht⟩
                  have HO5 := Lib.hid (own_turn HO.out HD.out ht)
                  have HB5 := Lib.hid (HB.out.trans (ht.below HD.out HS.out))
                  have HD5 := Lib.hid ht.dev
                  have HS5 := Lib.hid HB5.out.size
                  have HDP : Hid (∀ p ∈ D.pend, p.2.length = 128) := fun p hp => (HD.out.ok.pend p hp).2
                  have HDH : Hid (∀ i, (D1.has i).length = 128) := fun i => by have := HD.out.ok.has i; rw [HF.out.2] at this; exact this
                  clear ht HO HB HD HS
                  go_wp2_with fail
                  refine (On_any _ HD5.out).mono ?_
                  rintro e w6 ⟨rfl, ht⟩
                  obtain ⟨D6, hD6⟩ : ∃ D6 : Dv, D6 = { crashD D far with pow := true, bud := -1, pend := [] } := ⟨_, rfl⟩
                  rw [← hD6] at ht
                  have HO6 := Lib.hid (own_turn HO5.out HD5.out ht)
                  have HB6 := Lib.hid (HB5.out.trans (ht.below HD5.out HS5.out))
                  have HD6 := Lib.hid ht.dev
                  have hh6 : ∀ i, D6.has i = execX D.pend (farN far) D1.has D.pend.length i := fun i => by rw [hD6, ← HF.out.2]; rfl
                  have HRE6 : Hid (∀ i, readE D6 i = 0) := fun i => by unfold readE; rw [hD6]; show (if true = false then 10 else if D.mnt = false ∨ incl (D.flt i) 1 = true then 9 else 0) = (0 : Int); rw [HW.out.calm.mnt, HW.out.flt]; rfl
                  have HRD6 : Hid (∀ i, rdOf D6 i = D6.has i) := fun i => by unfold rdOf; rw [hD6]; rfl
                  have HN6 : Hid (D6.n = 4) := by rw [hD6]; exact HW.out.n
                  have HP6 : Hid (D6.pend.length ≤ 1000) := by rw [hD6]; exact Nat.zero_le _
                  have HLOSS : Hid (n3 = 0 → ∀ i, D6.has i = D1.has i) := Lib.hid fun h i => by
                    have e : far = [] := List.eq_nil_of_length_eq_zero (HN3.out.trans h)
                    rw [hh6, e]; exact execX_none _ _ HDH.out _ i
                  have HKEY : Hid (∀ (i x : Nat) (y z : UInt8), (D6.has i)[x]? = some y → (D1.has i)[x]? = some z → ((y == z) || says l2 i y k) = true) := Lib.hid fun i x y z hy hz => by
                    rcases execX_octet D.pend (farN far) (farN_le far) D1.has HDP.out HDH.out i x D.pend.length with h | ⟨p, hp, h1, h2⟩
                    · rw [← hh6, hy, hz] at h
                      injection h with h
                      subst h; simp
                    · obtain ⟨a, ha, h3, h4⟩ := HF.out.1 p hp
                      rw [← hh6, hy, h4] at h2
                      have hx : x < 128 := by
                        have := (List.getElem?_eq_some_iff.1 hz).1
                        rwa [HDH.out] at this
                      rw [allOf_at _ _ hx] at h2
                      injection h2 with h2
                      subst h2
                      have : says l2 i a.c k = true := by
                        unfold says
                        rw [List.any_eq_true]
                        exact ⟨a, ha, by rw [h3, h1]; simp⟩
                      rw [this]; simp
                  have HH6 := Lib.hid (fun i => HD6.out.ok.has i)
                  clear ht hD6 hh6 HO5 HB5 HD5 HS5 HDP HF HW HPL
                  go_wp2_with fail
                  obtain ⟨wq, hwq⟩ : ∃ wq : World, wq = w6 := ⟨_, rfl⟩
                  subst hwq
                  go_loopw [15] (fun x wr => ∃ i : Nat, i ≤ 4 ∧ x = .int .i64 (i : Int) ∧ Hid (wr.ownsRow w.heap.size 9 1 (.slice (some ⟨ga, 0, none⟩) 4 cr) 4 (texts D1.has 4)) ∧ Hid (DevAt wr w.heap.size sb bb mb (.slice none 0 0) D6) ∧ Hid (Below w.heap.size w wr)) (fun x _ => 4 - (intOf x).toNat)
                  case atStart => exact ⟨0, by omega, rfl, HO6, HD6, HB6⟩
                  case round =>
                    clear HO6 HD6 HB6
                    obtain ⟨i, hi4, rfl, HO, HD, HB⟩ := hrel
                    have hsz := HB.out.size
                    by_cases hlt4 : i < 4
                    · have HRY := Lib.hid (Read_yes i _ HD.out (by rw [HN6.out]; exact hlt4) (HRE6.out i) HP6.out)
                      go_wp2_with fail
                      refine HRY.out.mono ?_
                      rintro e w8 ⟨rfl, hw8⟩
                      rw [HRD6.out i] at hw8
                      have hb8 : Below wr.heap.size wr w8 := by rw [hw8]; exact (Below.refl _ _).alloc (Nat.le_refl _) _
                      have hk8 : Bk w8 wr.heap.size 67 ((D6.has i).map bv).toArray := by rw [hw8]; exact Bk.new _ _ _
                      obtain ⟨g8, hg8⟩ : ∃ g, wr.heap.size = g := ⟨_, rfl⟩
                      rw [hg8] at hk8 ⊢
                      have HK8 := Lib.hid hk8
                      have HO8 := Lib.hid (own_below HO.out hb8)
                      have HD8 := Lib.hid (HD.out.up hb8)
                      have HB8 := Lib.hid (HB.out.trans (hb8.mono hsz))
                      obtain ⟨T, hT⟩ : ∃ T, str (D1.has i) = T := ⟨_, rfl⟩
                      have hcw : w8.cell? ⟨ga, i, none⟩ = some (.string T) := by
                        rw [HO8.out.cellAt i (by omega), texts_at _ _ _ hlt4, hT]
                      have HTT := Lib.hid hT
                      have hTs : T.size = 128 := by rw [← hT, str_size]; exact HDH.out i
                      have hcv : n3 = 0 → ∀ m : Nat, (convert 33 9 (.slice (some ⟨g8, 0, none⟩) 128 128)).run Try.prog (w8.drewN m) = .ok (.string T) (w8.drewN m) := fun h m => by
                        have := conv_out (w8.drewN m) g8 _ (HH6.out i) (HK8.out.drewN m)
                        rw [HLOSS.out h i, hT] at this
                        exact this
                      have HCV := Lib.hid hcv
                      clear hb8 hk8 hw8 hg8 hT hcv HRY HO HD HB hsz hi4
                      go_upto_region 28 with fail
                      go_cut [137] from 107 to 186 (fun sx wc => Hid (∃ m : Nat, wc = w8.drewN m) ∧ sx = .bool false)
                      case first =>
                        by_cases hn0 : n3 = 0
                        · have hcv := HCV.out hn0
                          have hn0' : ((n3 : Int) == 0) = true := by simpa using hn0
                          go_quiet (fail)
                          go_wp2_with fail
                          go_meet
                          exact ⟨⟨nq, rfl⟩, rfl⟩
                        · have hn0' : ((n3 : Int) == 0) = false := by simpa using hn0
                          go_quiet (fail)
                          go_wp2_with fail
                          go_meet
                          exact ⟨⟨nq, rfl⟩, rfl⟩
                      case rest =>
                        obtain ⟨hm0, rfl⟩ := hcut
                        obtain ⟨m0, hm0⟩ := hm0.out
                        have HST : Hid (St w.heap.size sb bb mb w D6 D1 ga cr g8 i wc) := by rw [hm0]; exact St.drewN ⟨HK8.out, HO8.out, HD8.out, HB8.out⟩ m0
                        clear hm0 HK8 HO8 HD8 HB8 hcw HCV
                        go_wp2_with fail
                        obtain ⟨wo, hwo⟩ : ∃ wo : World, wo = wc := ⟨_, rfl⟩
                        subst hwo
                        go_loopw [18] (fun x wr => ∃ x' : Nat, x' ≤ 128 ∧ x = .int .i64 (x' : Int) ∧ Hid (St w.heap.size sb bb mb w D6 D1 ga cr g8 i wr)) (fun x _ => 128 - (intOf x).toNat)
                        case atStart => exact ⟨0, by omega, rfl, HST⟩
                        case round =>
                          clear HST
                          obtain ⟨x, hx128, rfl, HST⟩ := hrel
                          by_cases hxl : x < 128
                          · obtain ⟨y, hy⟩ : ∃ y, (D6.has i)[x]? = some y := ⟨_, List.getElem?_eq_getElem (by rw [HH6.out i]; exact hxl)⟩
                            obtain ⟨z, hz⟩ : ∃ z, (D1.has i)[x]? = some z := ⟨_, List.getElem?_eq_getElem (by rw [HDH.out i]; exact hxl)⟩
                            have hcy : wr.cell? ⟨g8, x, none⟩ = some (.int .u8 (y.toNat : Int)) := by rw [HST.out.bk.cell, List.getElem?_toArray, List.getElem?_map, hy]; rfl
                            have hcw : wr.cell? ⟨ga, i, none⟩ = some (.string T) := by rw [HST.out.own.cellAt i (by omega), texts_at _ _ _ hlt4, HTT.out]
                            have HY := Lib.hid hy
                            have HZ := Lib.hid hz
                            have hxs : x < T.size := by omega
                            have hTx : T[x]'hxs = z := by
                              have h1 : (T[x]'hxs) = (D1.has i)[x]'(by rw [HDH.out i]; exact hxl) := by
                                have := HTT.out
                                subst this
                                rfl
                              rw [h1]
                              rw [List.getElem?_eq_getElem (by rw [HDH.out i]; exact hxl)] at hz
                              injection hz
                            have hq0 : ((y.toNat : Int) == ((T[x]'hxs).toNat : Int)) = (y == z) := by
                              rw [hTx]
                              by_cases h : y = z
                              · subst h; simp
                              · have h2 : ¬ (y.toNat : Int) = (z.toNat : Int) := fun e => h (UInt8.toNat_inj.1 (by omega))
                                have e1 : ((y.toNat : Int) == (z.toNat : Int)) = false := by simpa using fun e => h2 (by omega)
                                have e2 : (y == z) = false := by simpa using h
                                rw [e1, e2]
                            have HQ0 := Lib.hid hq0
                            clear hz hy hTx hq0
                            go_upto_region 33 with fail
                            go_quiet (fail)
                            rw [HQ0.out]
                            have HST2 := Lib.hid (HST.out.drewN nq)
                            clear HST
                            obtain ⟨wp, hwp⟩ : ∃ wp, wr.drewN nq = wp := ⟨_, rfl⟩
                            rw [hwp] at HST2 ⊢
                            clear hwp hcy hcw hxs HQ0
                            obtain ⟨q0, hq0⟩ : ∃ q0 : Bool, (y == z) = q0 := ⟨_, rfl⟩
                            rw [hq0]
                            have HQ := Lib.hid hq0
                            obtain ⟨yi, hyi⟩ : ∃ yi : Int, (y.toNat : Int) = yi := ⟨_, rfl⟩
                            have HYI := Lib.hid hyi
                            clear hq0 hyi
                            go_wp2_with fail
                            have HQS : Hid (q0 = (q0 || says l2 i y 0)) := by show _ = _; simp [says]
                            obtain ⟨wo, hwo⟩ : ∃ wo : World, wo = wp := ⟨_, rfl⟩
                            subst hwo
                            go_loopw [19, 20] (fun s19 s20 wr => ∃ (j : Nat) (q : Bool), j ≤ n2 ∧ j ≤ 20 ∧ s20 = .int .i64 (j : Int) ∧ s19 = .bool q ∧ Hid (q = (q0 || says l2 i y j)) ∧ Hid (St w.heap.size sb bb mb w D6 D1 ga cr g8 i wr)) (fun _ s _ => 20 - (intOf s).toNat)
                            case atStart => exact ⟨0, q0, by omega, by omega, rfl, rfl, HQS, HST2⟩
                            case round =>
                              clear HST2 HQS
                              obtain ⟨j, q, hj, hj20, rfl, rfl, HQJ, HST⟩ := hrel
                              by_cases hgo : j < n2 ∧ j < 20
                              · obtain ⟨hjl, hj2⟩ := hgo
                                obtain ⟨a, ha⟩ : ∃ a, l2[j]? = some a := ⟨_, List.getElem?_eq_getElem (by rw [HN2.out]; exact hjl)⟩
                                obtain ⟨b, o, rfl, hbB, hcell⟩ := act_cells HL2.out ha
                                have k1 : wr.cell? ⟨b, o + j * 6 + 1, none⟩ = some (.int .i64 a.i) := (HST.out.below.cell (p := ⟨b, o + j * 6 + 1, none⟩) hbB).trans (by have := hcell 1 (by omega); simpa [actV] using this)
                                have k3 : wr.cell? ⟨b, o + j * 6 + 3, none⟩ = some (.int .u8 (a.c.toNat : Int)) := (HST.out.below.cell (p := ⟨b, o + j * 6 + 3, none⟩) hbB).trans (by have := hcell 3 (by omega); simpa [actV] using this)
                                have hcy : wr.cell? ⟨g8, x, none⟩ = some (.int .u8 yi) := by rw [HST.out.bk.cell, List.getElem?_toArray, List.getElem?_map, HY.out, ← HYI.out]; rfl
                                obtain ⟨ai, hai⟩ : ∃ ai, a.i = ai := ⟨_, rfl⟩
                                obtain ⟨ci, hci⟩ : ∃ ci : Int, (a.c.toNat : Int) = ci := ⟨_, rfl⟩
                                rw [hai] at k1
                                rw [hci] at k3
                                have HSS := Lib.hid (says_succ ha i y)
                                have hjk : (j : Int) < 20 := by omega
                                have hjk2 : (j : Int) < (n2 : Int) := by omega
                                have HAI := Lib.hid hai
                                have HCI := Lib.hid hci
                                clear ha hcell hai hci
                                have hways : q = true ∨ (q = false ∧ (ai == (i : Int)) = false) ∨ (q = false ∧ (ai == (i : Int)) = true ∧ (yi == ci) = true ∧ (y == a.c) = true) ∨ (q = false ∧ (ai == (i : Int)) = true ∧ (yi == ci) = false ∧ (y == a.c) = false) := by
                                  cases q with
                                  | true => exact .inl rfl
                                  | false =>
                                    cases h1 : (ai == (i : Int)) with
                                    | false => exact .inr (.inl ⟨rfl, rfl⟩)
                                    | true =>
                                      by_cases h2 : y = a.c
                                      · exact .inr (.inr (.inl ⟨rfl, rfl, by rw [← HYI.out, ← HCI.out, h2]; simp, by simpa using h2⟩))
                                      · refine .inr (.inr (.inr ⟨rfl, rfl, ?_, by simpa using h2⟩))
                                        have h3 : ¬ yi = ci := fun e => h2 (UInt8.toNat_inj.1 (by have e1 := HYI.out; have e2 := HCI.out; omega))
                                        simpa using h3
                                rcases hways with hq | ⟨hq, h1⟩ | ⟨hq, h1, h2, h3⟩ | ⟨hq, h1, h2, h3⟩
                                · subst hq
                                  have HQN : Hid (true = (q0 || says l2 i y (j + 1))) := by show _ = _; rw [HSS.out, ← Bool.or_assoc, ← HQJ.out]; rfl
                                  go_upto_region 37 with fail
                                  go_quiet (fail)
                                  have HS2 := Lib.hid (HST.out.drewN nq)
                                  go_wp2_with fail
                                  go_roundw
                                  case rel => exact ⟨j + 1, true, by omega, by omega, by go_num, rfl, HQN, HS2⟩
                                  case measure => simp [intOf]; omega
                                · subst hq
                                  have HQN : Hid (false = (q0 || says l2 i y (j + 1))) := by show _ = _; rw [HSS.out, ← Bool.or_assoc, ← HQJ.out, HAI.out, h1]; rfl
                                  go_upto_region 37 with fail
                                  go_quiet (fail)
                                  have HS2 := Lib.hid (HST.out.drewN nq)
                                  go_wp2_with fail
                                  go_roundw
                                  case rel => exact ⟨j + 1, false, by omega, by omega, by go_num, rfl, HQN, HS2⟩
                                  case measure => simp [intOf]; omega
                                · subst hq
                                  have HQN : Hid (true = (q0 || says l2 i y (j + 1))) := by show _ = _; rw [HSS.out, ← Bool.or_assoc, ← HQJ.out, HAI.out, h1, h3]; rfl
                                  go_upto_region 37 with fail
                                  go_quiet (fail)
                                  have HS2 := Lib.hid (HST.out.drewN nq)
                                  go_wp2_with fail
                                  go_roundw
                                  case rel => exact ⟨j + 1, true, by omega, by omega, by go_num, rfl, HQN, HS2⟩
                                  case measure => simp [intOf]; omega
                                · subst hq
                                  have HQN : Hid (false = (q0 || says l2 i y (j + 1))) := by show _ = _; rw [HSS.out, ← Bool.or_assoc, ← HQJ.out, HAI.out, h1, h3]; rfl
                                  go_upto_region 37 with fail
                                  go_quiet (fail)
                                  have HS2 := Lib.hid (HST.out.drewN nq)
                                  go_wp2_with fail
                                  go_roundw
                                  case rel => exact ⟨j + 1, false, by omega, by omega, by go_num, rfl, HQN, HS2⟩
                                  case measure => simp [intOf]; omega
                              · have hout : (j < n2 ∧ decide ((j : Int) < 20) = false) ∨ ¬ j < n2 := by
                                  by_cases h : j < n2
                                  · exact .inl ⟨h, by simp; omega⟩
                                  · exact .inr h
                                obtain rfl : j = k := HMIN.out j hj hj20 hgo
                                have hq : q = true := by
                                  have h := HKEY.out i x y z HY.out HZ.out
                                  rw [HQJ.out, ← HQ.out]; exact h
                                subst hq
                                rcases hout with ⟨hlt, h20⟩ | hlt
                                all_goals
                                  go_wp2_with fail
                                  go_roundw
                                  case rel => exact ⟨x + 1, by omega, by go_num, HST⟩
                                  case measure => simp [intOf]; omega
                          · obtain rfl : x = 128 := by omega
                            go_wp2_with fail
                            go_roundw
                            case rel => exact ⟨i + 1, by omega, by go_num, HST.out.own, HST.out.dev, HST.out.below⟩
                            case measure => simp [intOf]; omega
                    · obtain rfl : i = 4 := by omega
                      go_wp2_with fail
                      refine (awake_any _).mono ?_
                      rintro e w9 ⟨rfl, hb⟩
                      have HB9 := Lib.hid (HB.out.trans (hb.mono hsz))
                      clear hb
                      go_wp2
                      go_ret
                      exact ⟨rfl, HB9.out⟩

set_option maxRecDepth 100000 in
theorem lifted (os : Os) (started : os.Started) (H : Type) (enc : TypeId × Value → H) :
    ReturnsInHanded {} Try.checked os 4 .any (Rows.devKeepsSpec.pre6 enc Try.prog Try.f4 Rows.devKeepsRow.domain false) (Rows.devKeepsSpec.post enc Try.prog Try.f4 false true false false) := by
  refine returnsInHanded_of_change (C := Try.checked) own started (by kernel_rfl) Try.func4
    (ChangeSpec.witness6 (enc := enc) (C := Try.checked) false ⟨#[], #[.slice none 0 0, .slice none 0 0, .slice none 0 0], []⟩ 8 (by kernel_rfl) (by kernel_rfl) (by kernel_rfl) (by kernel_rfl)) ?_
  intro W base args ds gs before hval0 hW hcnd _
  have hval : ∀ (j : Nat) t v, Try.f4.params[j]? = some t → args[j]? = some v → Value.okWide Try.prog W .any base t v := hval0
  have hW' := hW
  obtain ⟨p, q, hA0, hV, rfl, hfz, hnd⟩ := hW
  have hA : DataW.TrodAll enc Try.prog W 0 (fun _ => true) true Try.f4.params.toList args.toList ds p := hA0
  rw [Try.params4] at hA hval
  obtain ⟨v0, vs0, d0, ds0, p0, q0, hargs, rfl, rfl, h0, r0⟩ := trodAll_cons hA
  obtain ⟨v1, vs1, d1, ds1, p1, q1, rfl, rfl, rfl, h1, r1⟩ := trodAll_cons r0
  obtain ⟨v2, vs2, d2, ds2, p2, q2, rfl, rfl, rfl, h2, r2⟩ := trodAll_cons r1
  obtain ⟨rfl, rfl, rfl⟩ := trodAll_nil r2
  obtain rfl : args = #[v0, v1, v2] := by cases args; simp_all
  obtain ⟨rfl, rfl⟩ := trodVars_none hV
  obtain ⟨a0, len0, cap0, rfl⟩ := okWide_slice Try.underlying22 (hval 0 22 v0 rfl rfl)
  have lt0 : ∀ x ∈ p0, x.block < W.heap.size := by obtain ⟨m, hm⟩ := h0; exact DataW.trod_lt m _ _ _ hm
  obtain ⟨x0, rfl, hc0, hm0, hr0⟩ := acts_in h0
  obtain ⟨a1, len1, cap1, rfl⟩ := okWide_slice Try.underlying22 (hval 1 22 v1 rfl rfl)
  have lt1 : ∀ x ∈ p1, x.block < W.heap.size := by obtain ⟨m, hm⟩ := h1; exact DataW.trod_lt m _ _ _ hm
  obtain ⟨x1, rfl, hc1, hm1, hr1⟩ := acts_in h1
  obtain ⟨a2, len2, cap2, rfl⟩ := okWide_slice Try.underlying30 (hval 2 30 v2 rfl rfl)
  have lt2 : ∀ x ∈ p2, x.block < W.heap.size := by obtain ⟨m, hm⟩ := h2; exact DataW.trod_lt m _ _ _ hm
  obtain ⟨x2, rfl, hc2, hm2, hr2⟩ := ints_in Try.underlying30 Try.underlying3 (by kernel_rfl) h2
  clear hA0 hval0
  refine (walk a0 cap0 x0 a1 cap1 x1 a2 cap2 x2 W hr0 hc0 hm0 hr1 hc1 hm1 hr2 hc2 hm2).mono fun e W' ⟨he, bel⟩ => ?_
  subst he
  exact ⟨_, rfl, _, _, _, [], _, [], hW', trodAll_mk1 (shut_bool Try.underlying4 _), (trodAll_cons_mk (Below.trod laidOut (by kernel_rfl) (of_decide_eq_true (by kernel_rfl)) h0 bel lt0) (trodAll_cons_mk (Below.trod laidOut (by kernel_rfl) (of_decide_eq_true (by kernel_rfl)) h1 bel lt1) (trodAll_cons_mk (Below.trod laidOut (by kernel_rfl) (of_decide_eq_true (by kernel_rfl)) h2 bel lt2) trodAll_mk0))), rfl, bel.frame _, fun h => by cases h⟩

theorem over : Rows.devKeepsRow.holds Try.pinned (OpenSpec.ofChange Rows.devKeepsSpec) :=
  OpenClaim.holds_of_wide 4 Try.f4 rfl rfl rfl rfl rfl rfl rfl ⟨rfl, rfl, rfl, rfl, rfl⟩ rfl rfl rfl rfl rfl (by kernel_rfl) Try.func4 (by kernel_rfl)
    (of_decide_eq_true (by kernel_rfl)) (by unfold Func.isWrapper; first | (rw [if_pos (by decide +kernel)]; kernel_rfl) | (rw [if_neg (by decide +kernel)]; exact ⟨rfl, rfl⟩))
    (fun os started H enc _ => lifted os started H enc)

theorem proved : Rows.DevKeepsSaid := over
#print axioms proved
end Go.Proofs.Ytpjdnbmeedcafaa.devKeeps
