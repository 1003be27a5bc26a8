/-
  What is read of a block is what the last write of it that was taken says, flushed or not; a block that is not read, and a device that is not mounted, never answer something.
-/
import Derived.Test.YtpjdnbmeedcafaaDevLaw
import Derived.Test.YtpjdnbmeedcafaaRows
import Derived.Deep.LoopGhost
import Derived.Deep.DeepCutAuto
import Derived.Deep.CutRange
namespace Go.Proofs.Ytpjdnbmeedcafaa.devReads
open Go.ChangeShapes Go.WideShapes Go.ChangeAt Go.RowKit
set_option linter.unusedVariables false

/-- what is known of the device ahead of act k: what is read of block t, whether it is away, that block's fault -/
structure Rst (D : Dv) (t : Nat) (aw : Bool) (ft : Int) (W : List UInt8) (k : Nat) : Prop where
  n : D.n = 4
  pow : D.pow = true
  bud : D.bud = -1
  mnt : D.mnt = !aw
  flt : D.flt t = ft
  rd : rdOf D t = W
  pend : D.pend.length ≤ k
  cnt : D.cnt ≤ k
theorem Rst.up {D : Dv} {t : Nat} {aw : Bool} {ft : Int} {W : List UInt8} {k : Nat} (h : Rst D t aw ft W k) : Rst D t aw ft W (k + 1) := ⟨h.n, h.pow, h.bud, h.mnt, h.flt, h.rd, Nat.le_succ_of_le h.pend, Nat.le_succ_of_le h.cnt⟩
theorem Rst.startD {D : Dv} {t : Nat} {aw : Bool} {ft : Int} {W : List UInt8} {k : Nat} (h : Rst D t aw ft W k) : startD D = D := by
  unfold Go.Proofs.Ytpjdnbmeedcafaa.startD
  rw [if_neg (by rw [h.bud]; omega), if_neg (by rw [h.bud]; omega)]
theorem Rst.startE {D : Dv} {t : Nat} {aw : Bool} {ft : Int} {W : List UInt8} {k : Nat} (h : Rst D t aw ft W k) : startE D = if aw = true then 9 else 0 := by
  unfold Go.Proofs.Ytpjdnbmeedcafaa.startE
  rw [if_neg (by rw [h.bud, h.pow]; simp), h.mnt]
  cases aw <;> rfl
theorem execX_last (P : List (Nat × List UInt8)) (H : Nat → List UInt8) (hP : ∀ p ∈ P, p.2.length = 128) (hH : ∀ i, (H i).length = 128) (t : Nat) : ∀ k, execX P (fun _ => 128) H k t = (lastAt (P.take k) t).getD (H t)
  | 0 => rfl
  | k + 1 => by
    rw [execX, List.take_add_one]
    cases hp : P[k]? with
    | none => simp only [Option.toList_none, List.append_nil]; exact execX_last P H hP hH t k
    | some p =>
      simp only [Option.toList_some]
      rw [lastAt_snoc]
      have hl := hP p (List.mem_of_getElem? hp)
      by_cases e : p.1 = t
      · rw [if_pos e, e, upd_full (execX_length hP hH k) t _ (by rw [List.length_take]; omega), List.take_of_length_le (by omega)]; rfl
      · rw [if_neg e, upd_other _ _ (fun h => e h.symm)]
        exact execX_last P H hP hH t k
theorem rd_exec {D : Dv} (h : D.Ok) (t : Nat) : rdOf (execD D (fun _ => 128)) t = rdOf D t := by
  show execX D.pend (fun _ => 128) D.has D.pend.length t = _
  rw [execX_last D.pend D.has (fun p hp => (h.pend p hp).2) h.has t, List.take_of_length_le (Nat.le_refl _)]
  rfl
theorem Rst.flush {D : Dv} {t : Nat} {aw : Bool} {ft : Int} {W : List UInt8} {k : Nat} (h : Rst D t aw ft W k) (hok : D.Ok) : Rst (flushD D) t aw ft W (k + 1) := by
  unfold Go.Proofs.Ytpjdnbmeedcafaa.flushD
  rw [h.startD]
  split
  · exact ⟨h.n, h.pow, h.bud, h.mnt, h.flt, (rd_exec hok t).trans h.rd, by simp [execD], Nat.le_succ_of_le h.cnt⟩
  · exact h.up
theorem Rst.mount {D : Dv} {t : Nat} {aw : Bool} {ft : Int} {W : List UInt8} {k : Nat} (h : Rst D t aw ft W k) (b : Bool) : Rst { D with mnt := !b } t b ft W (k + 1) :=
  ⟨h.n, h.pow, h.bud, rfl, h.flt, h.rd, Nat.le_succ_of_le h.pend, Nat.le_succ_of_le h.cnt⟩
theorem Rst.fault {D : Dv} {t : Nat} {aw : Bool} {ft : Int} {W : List UInt8} {k : Nat} (h : Rst D t aw ft W k) (i : Nat) (q : Int) : Rst (faultD D i q) t aw (if i = t then q else ft) W (k + 1) :=
  ⟨h.n, h.pow, h.bud, h.mnt, by
    show setF D.flt i q t = _
    unfold setF
    by_cases e : i = t
    · rw [if_pos e, if_pos (by omega)]
    · rw [if_neg e, if_neg (by omega)]; exact h.flt, h.rd, Nat.le_succ_of_le h.pend, Nat.succ_le_succ h.cnt⟩
theorem Rst.write {D : Dv} {t : Nat} {aw : Bool} {ft : Int} {W : List UInt8} {k : Nat} (h : Rst D t aw ft W k) (i : Nat) (b : List UInt8) : Rst { D with pend := D.pend ++ [(i, b)] } t aw ft (if i = t then b else W) (k + 1) :=
  ⟨h.n, h.pow, h.bud, h.mnt, h.flt, by
    have e : rdOf { D with pend := D.pend ++ [(i, b)] } t = (if i = t then some b else lastAt D.pend t).getD (D.has t) := by unfold rdOf; rw [lastAt_snoc]
    rw [e]
    by_cases e2 : i = t
    · rw [if_pos e2, if_pos e2]; rfl
    · rw [if_neg e2, if_neg e2]; exact h.rd, by have := h.pend; simp; omega, Nat.le_succ_of_le h.cnt⟩
theorem Rst.readE {D : Dv} {t : Nat} {aw : Bool} {ft : Int} {W : List UInt8} {k : Nat} (h : Rst D t aw ft W k) : readE D t = if aw = true ∨ ft % 2 = 1 then 9 else 0 := by
  unfold Go.Proofs.Ytpjdnbmeedcafaa.readE
  rw [if_neg (by rw [h.pow]; simp), h.mnt, h.flt]
  cases aw <;> simp [incl]
theorem Rst.writeE {D : Dv} {t : Nat} {aw : Bool} {ft : Int} {W : List UInt8} {k : Nat} (h : Rst D t aw ft W k) (i : Nat) : writeE D i = if aw = true ∨ 1 < D.flt i then 9 else 0 := by
  unfold Go.Proofs.Ytpjdnbmeedcafaa.writeE
  rw [h.startE]
  cases aw <;> simp [incl]

/-- what holds while a write of a block of one octet is made and done -/
structure R12 (sb bb mb : Nat) (pv : Value) (D D' : Dv) (c : UInt8) (base z : Nat) (W : World) (gv : Nat) (cs : Array Value) (L : Nat → Bool) (w : World) : Prop where
  kept : ∃ pv', Kept sb bb mb pv' w gv 32 cs ∧ (L 6 = false → pv' = pv) ∧ (L 6 = true → DevAt w base sb bb mb pv' D')
  below : Below base W w
  size : L 5 = false → w.heap.size = z
  dev : L 6 = false → DevAt w base sb bb mb pv D
  bk : L 6 = false → L 5 = true → Bk w z 5 ((allOf c).map bv).toArray
section
variable {sb bb mb : Nat} {pv : Value} {D D' : Dv} {c : UInt8} {base z : Nat} {W : World} {gv : Nat} {cs : Array Value} {L : Nat → Bool} {w w' : World}
theorem R12.pure (i : Nat) (h : i ≠ 5 ∧ i ≠ 6) (hR : R12 sb bb mb pv D D' c base z W gv cs L w) : R12 sb bb mb pv D D' c base z W gv cs (setL L i) w := by
  have e5 := setL_other L (Ne.symm h.1)
  have e6 := setL_other L (Ne.symm h.2)
  exact ⟨by rw [e6]; exact hR.kept, hR.below, by rw [e5]; exact hR.size, by rw [e6]; exact hR.dev, by rw [e5, e6]; exact hR.bk⟩
theorem R12.made (hR : R12 sb bb mb pv D D' c base z W gv cs L w) (h6 : L 6 = false) (hbase : base ≤ w.heap.size) (hb : Below w.heap.size w w') (hk : Bk w' z 5 ((allOf c).map bv).toArray) : R12 sb bb mb pv D D' c base z W gv cs (setL L 5) w' := by
  have e6 := setL_other L (i := 5) (j := 6) (by decide)
  obtain ⟨pv', k1, k2, _⟩ := hR.kept
  exact ⟨⟨pv', k1.up hb, by rw [e6]; exact k2, fun h => by rw [e6, h6] at h; cases h⟩, hR.below.trans (hb.mono hbase), (fun h => by rw [setL_same] at h; cases h), fun _ => (hR.dev h6).up hb, fun _ _ => hk⟩
theorem R12.written (hR : R12 sb bb mb pv D D' c base z W gv cs L w) (h6 : L 6 = false) (h5 : L 5 = true) (hbase : base ≤ w.heap.size) {pv2 : Value} (ht : Turn base sb bb mb w pv w' pv2 D') : R12 sb bb mb pv D D' c base z W gv cs (setL L 6) w' := by
  have e5 := setL_other L (i := 6) (j := 5) (by decide)
  obtain ⟨pv', k1, k2, _⟩ := hR.kept
  have e := k2 h6
  subst e
  exact ⟨⟨pv2, k1.turn ht, (fun h => by rw [setL_same] at h; cases h), fun _ => ht.dev⟩, hR.below.trans (ht.below (hR.dev h6) hbase), (fun h => by rw [e5, h5] at h; cases h), (fun h => by rw [setL_same] at h; cases h), fun h => by rw [setL_same] at h; cases h⟩
end
def waits12 : Nat → List Nat
  | 2 => [1]
  | 4 => [3]
  | 5 => [4]
  | 6 => [0, 2, 5]
  | 7 => [6]
  | 8 => [7]
  | 9 => [8]
  | 10 => [8, 9]
  | 11 => [8]
  | 12 => [8, 10, 11]
  | 13 => [8, 12]
  | _ => []
set_option maxRecDepth 100000 in
set_option maxHeartbeats 4000000 in
theorem walk (A : Option Addr) (cap : Nat) (l : List Act') (x1 : Int) (w : World) (hl : ActsIn w w.heap.size A l) (hc : l.length ≤ cap) (hm : cap ≤ maxLen) (hx : 0 ≤ x1 ∧ x1 ≤ 255) :
    Calls Try.prog 5 #[.slice A l.length cap, .int .u8 x1] w fun e w' => e = .returned (.bool true) ∧ Below w.heap.size w w' := by
  have HL := Lib.hid hl
  obtain ⟨n, hn⟩ : ∃ n, l.length = n := ⟨_, rfl⟩
  have HN := Lib.hid hn
  unfold maxLen at hm
  have hnm : n ≤ 9223372036854775807 := by omega
  obtain ⟨h0, h1⟩ := hx
  rw [hn]
  clear hl hn hc hm
  go_enter Try.func5, Try.ntmps5
  go_wp2_with fail
  refine (New_yes 4 _ (by omega) (by omega)).mono ?_
  rintro e w1 ⟨sb, bb, mb, rfl, hd, hb⟩
  have HD1 := Lib.hid hd
  have HB1 := Lib.hid hb
  have HS1 := Lib.hid hb.size
  clear hd hb
  go_wp2_with fail
  refine (All_any 0 _).mono ?_
  rintro e w2 ⟨rfl, hbk, hb, _⟩
  have HD2 := Lib.hid (HD1.out.up hb)
  have HB2 := Lib.hid (HB1.out.trans (hb.mono HS1.out))
  have hcv := conv_all w2 _ 0 hbk
  obtain ⟨S0, hS0⟩ : ∃ S, S = str (allOf 0) := ⟨_, rfl⟩
  rw [← hS0] at hcv
  have HS0 := Lib.hid hS0
  clear hbk hb HD1 HB1 HS1 hS0
  obtain ⟨t, ht⟩ : ∃ t : Nat, x1 % 4 = (t : Int) := ⟨(x1 % 4).toNat, by omega⟩
  have ht4 : t < 4 := by omega
  have HR0 : Hid (Rst (newD 4) t false 0 (allOf 0) 0) := ⟨rfl, rfl, rfl, rfl, rfl, rfl, Nat.le_refl _, Nat.le_refl _⟩
  go_wp2_with fail
  go_loopw [8, 9, 10, 11] (fun s8 s9 s10 x wr => ∃ (k : Nat) (D : Dv) (pv : Value) (aw : Bool) (ft : Int) (Wd : List UInt8), k ≤ n ∧ k ≤ 40 ∧ x = .int .i64 (k : Int) ∧ s8 = .string (str Wd) ∧ s9 = .int .i64 ft ∧ s10 = .bool aw ∧ Hid (Rst D t aw ft Wd k) ∧ Hid (DevAt wr w.heap.size sb bb mb pv D) ∧ Hid (Below w.heap.size w wr)) (fun _ _ _ x _ => 40 - (intOf x).toNat)
  case atStart => exact ⟨0, newD 4, _, false, 0, allOf 0, Nat.zero_le _, by omega, rfl, by rw [HS0.out], rfl, rfl, HR0, HD2, HB2⟩
  case round =>
    clear HR0 HD2 HB2 HS0 hcv
    obtain ⟨k, D, pv, aw, ft, Wd, hk, hk40, rfl, rfl, rfl, rfl, HRS, HD, HB⟩ := hrel
    have hsz := HB.out.size
    by_cases hgo : k < n ∧ k < 40
    · obtain ⟨hlt, h20⟩ := hgo
      obtain ⟨a, ha⟩ : ∃ a, l[k]? = some a := ⟨_, List.getElem?_eq_getElem (by rw [HN.out]; exact hlt)⟩
      obtain ⟨b, o, rfl, hbB, hcell⟩ := act_cells HL.out ha
      have hok := HL.out.each a (List.mem_of_getElem? ha)
      have hcell' : ∀ x, x < 6 → wr.cell? ⟨b, o + k * 6 + x, none⟩ = (actV a)[x]? := fun x hx => (HB.out.cell (p := ⟨b, o + k * 6 + x, none⟩) hbB).trans (hcell x hx)
      obtain ⟨dO, i, q, c, sh, fa, fc, fr⟩ := a
      have k0 := hcell' 0 (by omega)
      have k1 := hcell' 1 (by omega)
      have k2 := hcell' 2 (by omega)
      have k3 := hcell' 3 (by omega)
      have k4 := hcell' 4 (by omega)
      have k5 := hcell' 5 (by omega)
      simp only [actV, Nat.add_zero, List.getElem?_cons_succ, List.getElem?_cons_zero] at k0 k1 k2 k3 k4 k5
      have hkl : (k : Int) < 40 := by omega
      obtain ⟨ci, hci⟩ : ∃ ci : Int, (c.toNat : Int) = ci := ⟨_, rfl⟩
      rw [hci] at k3
      obtain ⟨S, hS⟩ : ∃ S, str Wd = S := ⟨_, rfl⟩
      rw [hS]
      have HS := Lib.hid hS
      have HCI := Lib.hid hci
      have HOK := Lib.hid hok
      clear hcell hcell' ha hS hci hok
      go_upto_region 11 with fail
      obtain ⟨gv, hgv⟩ : ∃ gv, wr.heap.size = gv := ⟨_, rfl⟩
      obtain ⟨wv, hwv⟩ : ∃ wv, wr.alloc (.cells #[.int .i64 dO, .int .i64 i, .int .i64 q, .int .u8 ci, .bool sh, .slice fa fr.length fc] 32) = wv := ⟨_, rfl⟩
      rw [hwv, hgv]
      have hbv : Below wr.heap.size wr wv := by rw [← hwv]; exact (Below.refl _ _).alloc (Nat.le_refl _) _
      have HV : Hid (Bk wv gv 32 #[.int .i64 dO, .int .i64 i, .int .i64 q, .int .u8 ci, .bool sh, .slice fa fr.length fc]) := by show Bk _ _ _ _; rw [← hwv, ← hgv]; exact Bk.new _ _ _
      have HDV := Lib.hid (HD.out.up hbv)
      have HBV := Lib.hid (HB.out.trans (hbv.mono hsz))
      have HSV := Lib.hid HBV.out.size
      have HOFF := Lib.hid (HDV.out.off HV.out (by decide) (by decide) (by decide))
      have HPL : Hid (D.pend.length ≤ 1000) := by have := HRS.out.pend; show _ ≤ _; omega
      have HCN : Hid (D.cnt ≤ 1000) := by have := HRS.out.cnt; show _ ≤ _; omega
      have HNN : Hid (D.n = 4) := HRS.out.n
      have HKK : Hid (k + 1 ≤ n ∧ k + 1 ≤ 40) := ⟨by omega, by omega⟩
      have v0 : wv.cell? ⟨gv, 0, none⟩ = some (.int .i64 dO) := HV.out.cell 0
      clear hwv hgv hbv k0 k1 k2 k3 k4 k5 HD HB hsz hk hk40
      repeat ((fail_if_success (with_reducible show Code.wp _ (Code.block 2 _) _ _ _)); (first | go_values | go_skip | go_guarded | go_step | go_upon | go_back | go_simp))
      go_cut [8, 9, 10] from 30 to 126 (fun s8 s9 s10 wx => ∃ (Dx : Dv) (pvx : Value) (awx : Bool) (ftx : Int) (Wdx : List UInt8), s8 = .string (str Wdx) ∧ s9 = .int .i64 ftx ∧ s10 = .bool awx ∧ Hid (Rst Dx t awx ftx Wdx (k + 1)) ∧ Hid (DevAt wx w.heap.size sb bb mb pvx Dx) ∧ Hid (Below w.heap.size w wx))
      case first =>
        by_cases h2 : dO = 2
        · subst h2
          go_wp2_with fail
          refine (Flush_any _ HDV.out HPL.out).mono ?_
          rintro e wx ⟨rfl, pvx, ht_⟩
          obtain ⟨x3, hx3⟩ : ∃ x, startE D = x := ⟨_, rfl⟩
          rw [hx3]
          obtain ⟨Dx, hDx⟩ : ∃ Dx, flushD D = Dx := ⟨_, rfl⟩
          rw [hDx] at ht_
          have HRx : Hid (Rst Dx t aw ft Wd (k + 1)) := by rw [← hDx]; exact HRS.out.flush HDV.out.ok
          have HDx := Lib.hid ht_.dev
          have HBx := Lib.hid (HBV.out.trans (ht_.below HDV.out HSV.out))
          clear ht_ hx3 hDx v0
          go_wp2_with fail
          go_meet
          exact ⟨Dx, pvx, aw, ft, Wd, by rw [HS.out], rfl, rfl, HRx, HDx, HBx⟩
        · by_cases h6 : dO = 6
          · subst h6
            clear h2
            have v1 : wv.cell? ⟨gv, 1, none⟩ = some (.int .i64 i) := HV.out.cell 1
            have v2 : wv.cell? ⟨gv, 2, none⟩ = some (.int .i64 q) := HV.out.cell 2
            by_cases hi : inN 4 i = true
            · by_cases hq : 0 ≤ q ∧ q ≤ 3
              · obtain ⟨hi0, hi4⟩ := inN_yes hi
                obtain ⟨j, rfl⟩ : ∃ j : Nat, i = (j : Int) := ⟨i.toNat, by omega⟩
                have hjn : j < D.n := by rw [HNN.out]; omega
                have HJN := Lib.hid hjn
                have HQ := Lib.hid hq
                clear hi hq hi0 hjn
                go_wp2_with fail
                refine (Fault_yes j q _ HDV.out HJN.out HQ.out HCN.out).mono ?_
                rintro e wx ⟨rfl, ht_⟩
                have HV3 := Lib.hid (ht_.bk HV.out HOFF.out).1
                have v1' : wx.cell? ⟨gv, 1, none⟩ = some (.int .i64 (j : Int)) := HV3.out.cell 1
                have v2' : wx.cell? ⟨gv, 2, none⟩ = some (.int .i64 q) := HV3.out.cell 2
                obtain ⟨Dx, hDx⟩ : ∃ Dx, faultD D j q = Dx := ⟨_, rfl⟩
                have hR0 := HRS.out.fault j q
                rw [hDx] at ht_ hR0
                obtain ⟨pvx, hpvx⟩ : ∃ pvx, pv = pvx := ⟨_, rfl⟩
                by_cases hjt : j = t
                · rw [if_pos hjt] at hR0
                  have HRx := Lib.hid hR0
                  have heq : ((j : Int) == (t : Int)) = true := by rw [hjt]; simp
                  have HDx := Lib.hid (hpvx ▸ ht_.dev : DevAt wx w.heap.size sb bb mb pvx Dx)
                  have HBx := Lib.hid (HBV.out.trans (ht_.below HDV.out HSV.out))
                  clear ht_ hDx v0 v1 v2 hR0 hpvx hi4 hjt
                  go_wp2_with fail
                  go_meet
                  exact ⟨Dx, pvx, aw, q, Wd, by rw [HS.out], rfl, rfl, HRx, HDx, HBx⟩
                · rw [if_neg hjt] at hR0
                  have HRx := Lib.hid hR0
                  have hne : ((j : Int) == (t : Int)) = false := by simpa using fun e => hjt (by omega)
                  have HDx := Lib.hid (hpvx ▸ ht_.dev : DevAt wx w.heap.size sb bb mb pvx Dx)
                  have HBx := Lib.hid (HBV.out.trans (ht_.below HDV.out HSV.out))
                  clear ht_ hDx v0 v1 v2 hR0 hpvx hjt hi4
                  go_wp2_with fail
                  go_meet
                  exact ⟨Dx, pvx, aw, ft, Wd, by rw [HS.out], rfl, rfl, HRx, HDx, HBx⟩
              · have hqb : q < 0 ∨ 3 < q := by omega
                have hin : inN D.n i = true := by rw [HNN.out]; exact hi
                have HF := Lib.hid (Fault_kind i q wv HDV.out hin hqb)
                clear hq hqb hi hin
                go_wp2_with fail
                refine HF.out.mono ?_
                rintro e wx ⟨rfl, hwx⟩
                obtain rfl := hwx
                obtain ⟨wx, hwx⟩ : ∃ wx, wx = wv := ⟨_, rfl⟩
                subst hwx
                obtain ⟨Dx, hDx⟩ : ∃ Dx, Dx = D := ⟨_, rfl⟩
                subst hDx
                obtain ⟨pvx, hpvx⟩ : ∃ pvx, pvx = pv := ⟨_, rfl⟩
                subst hpvx
                have HRx := Lib.hid HRS.out.up
                have HDx := HDV
                have HBx := HBV
                clear v0 v1 v2 HF
                go_wp2_with fail
                go_meet
                exact ⟨Dx, pvx, aw, ft, Wd, by rw [HS.out], rfl, rfl, HRx, HDx, HBx⟩
            · have hf : inN D.n i = false := by rw [HNN.out]; simpa using hi
              have HF := Lib.hid (Fault_no i q wv HDV.out hf)
              clear hi hf
              go_wp2_with fail
              refine HF.out.mono ?_
              rintro e wx ⟨rfl, hwx⟩
              obtain rfl := hwx
              obtain ⟨wx, hwx⟩ : ∃ wx, wx = wv := ⟨_, rfl⟩
              subst hwx
              obtain ⟨Dx, hDx⟩ : ∃ Dx, Dx = D := ⟨_, rfl⟩
              subst hDx
              obtain ⟨pvx, hpvx⟩ : ∃ pvx, pvx = pv := ⟨_, rfl⟩
              subst hpvx
              have HRx := Lib.hid HRS.out.up
              have HDx := HDV
              have HBx := HBV
              clear v0 v1 v2 HF
              go_wp2_with fail
              go_meet
              exact ⟨Dx, pvx, aw, ft, Wd, by rw [HS.out], rfl, rfl, HRx, HDx, HBx⟩
          · by_cases h7 : dO = 7
            · subst h7
              clear h2 h6
              have v2 : wv.cell? ⟨gv, 2, none⟩ = some (.int .i64 q) := HV.out.cell 2
              obtain ⟨tm, htm⟩ : ∃ tm : Bool, (q.tmod 2 != 0) = tm := ⟨_, rfl⟩
              go_wp2_with fail
              refine (Mount_any _ _ HDV.out).mono ?_
              rintro e wx ⟨rfl, ht_⟩
              have hR0 := HRS.out.mount tm
              obtain ⟨Dx, hDx⟩ : ∃ Dx, Dx = { D with mnt := !tm } := ⟨_, rfl⟩
              rw [← hDx] at ht_ hR0
              obtain ⟨pvx, hpvx⟩ : ∃ pvx, pv = pvx := ⟨_, rfl⟩
              have HRx := Lib.hid hR0
              have HDx := Lib.hid (hpvx ▸ ht_.dev : DevAt wx w.heap.size sb bb mb pvx Dx)
              have HBx := Lib.hid (HBV.out.trans (ht_.below HDV.out HSV.out))
              clear ht_ hDx v0 v2 hR0 hpvx htm
              go_wp2_with fail
              go_meet
              exact ⟨Dx, pvx, tm, ft, Wd, by rw [HS.out], rfl, rfl, HRx, HDx, HBx⟩

            · have hn2 : (dO == 2) = false := by simpa using h2
              have hn6 : (dO == 6) = false := by simpa using h6
              have hn7 : (dO == 7) = false := by simpa using h7
              have v1 : wv.cell? ⟨gv, 1, none⟩ = some (.int .i64 i) := HV.out.cell 1
              have v3 : wv.cell? ⟨gv, 3, none⟩ = some (.int .u8 ci) := HV.out.cell 3
              clear h2 h6 h7
              have HALL : Hid (∀ w', Calls Try.prog 11 #[.int .u8 ci] w' fun e w'' => e = .returned (.slice (some ⟨w'.heap.size, 0, none⟩) 128 128) ∧ Bk w'' w'.heap.size 5 ((allOf c).map bv).toArray ∧ Below w'.heap.size w' w'' ∧ w''.heap.size = w'.heap.size + 1) := by rw [← HCI.out]; exact fun w' => All_any c w'
              have hbd : Below w.heap.size w wv.drew := HBV.out.drew
              have hsv : w.heap.size ≤ wv.drew.heap.size := HSV.out
              have hkd : Kept sb bb mb pv wv.drew gv 32 #[.int .i64 dO, .int .i64 i, .int .i64 q, .int .u8 ci, .bool sh, .slice fa fr.length fc] := ⟨HV.out, HOFF.out⟩
              have HDd := Lib.hid HDV.out.drew
              have HKS : Hid (∀ (pv' : Value) (w' : World), Kept sb bb mb pv' w' gv 32 #[.int .i64 dO, .int .i64 i, .int .i64 q, .int .u8 ci, .bool sh, .slice fa fr.length fc] → w'.cell? ⟨gv, 1, none⟩ = some (.int .i64 i) ∧ w'.cell? ⟨gv, 3, none⟩ = some (.int .u8 ci)) := Lib.hid fun _ w' h => ⟨h.bk.cell 1, h.bk.cell 3⟩
              have HACT := Lib.hid (fun g w' h1 h2 h3 => Write_int (base := w.heap.size) (sb := sb) (bb := bb) (mb := mb) (pv := pv) (D := D) i g c w' h1 h2 h3 HPL.out)
              obtain ⟨x3, hx3⟩ : ∃ x, actE D i = x := ⟨_, rfl⟩
              have HX3 := Lib.hid hx3
              -- what comes of the write: not taken, or taken at this block, or at another
              have hcases : ((x3 == 0) = false ∧ actW D i c = D) ∨ (x3 = 0 ∧ aw = false ∧ ∃ j : Nat, i = (j : Int) ∧ D.flt j ≤ 1 ∧ actW D i c = { D with pend := D.pend ++ [(j, allOf c)] }) := by
                rw [← hx3]
                unfold actE actW
                by_cases hi : inN D.n i = true
                · rw [if_pos hi, if_pos hi, HRS.out.writeE]
                  by_cases hb : aw = true ∨ 1 < D.flt i.toNat
                  · rw [if_pos hb]
                    refine .inl ⟨by decide, ?_⟩
                    unfold writeD
                    rw [HRS.out.writeE, if_pos hb, if_neg (by omega), HRS.out.startD]
                  · rw [if_neg hb]
                    obtain ⟨hi0, _⟩ := inN_yes hi
                    refine .inr ⟨rfl, by cases aw <;> simp at hb ⊢, i.toNat, by omega, by omega, ?_⟩
                    unfold writeD
                    rw [HRS.out.writeE, if_neg hb, if_pos rfl, HRS.out.startD]
                · rw [if_neg hi, if_neg hi]
                  exact .inl ⟨by decide, rfl⟩
              have HCS := Lib.hid hcases
              clear hcases hx3
              rcases HCS.out with ⟨hx, hW⟩ | ⟨hx, haw, j, hij, hfj, hW⟩
              · have HWW := Lib.hid hW
                obtain ⟨z, hz⟩ : ∃ z, wv.heap.size = z := ⟨_, rfl⟩
                have HZ := Lib.hid hz
                have HWV : Hid (w.heap.size ≤ w.heap.size) := Nat.le_refl _
                have HPURE : Hid (∀ (i_ : Nat) (L : Nat → Bool) (w_ : World), i_ ≠ 5 ∧ i_ ≠ 6 → R12 sb bb mb pv D (actW D i c) c w.heap.size z w gv #[.int .i64 dO, .int .i64 i, .int .i64 q, .int .u8 ci, .bool sh, .slice fa fr.length fc] L w_ → R12 sb bb mb pv D (actW D i c) c w.heap.size z w gv #[.int .i64 dO, .int .i64 i, .int .i64 q, .int .u8 ci, .bool sh, .slice fa fr.length fc] (setL L i_) w_) := Lib.hid fun i_ L w_ h hR => hR.pure i_ h
                clear hW hz v0 v1 v3
                go_wp2
                obtain ⟨V, hV⟩ : ∃ V : Nat → Value, V = fun ix => ([.pointer (some ⟨sb, 0, none⟩), .pointer (some ⟨gv, 1, none⟩), .int .i64 i, .pointer (some ⟨gv, 3, none⟩), .int .u8 ci, .slice (some ⟨z, 0, none⟩) 128 128, .int .i64 x3, .bool false, .bool false, undef, undef, undef, undef, .bool false] : List Value).getD ix undef := ⟨_, rfl⟩
                refine wp_region_states (by kernel_rfl) 14 128 (fun ix => 46 + ix) waits12 (JR V (R12 sb bb mb pv D (actW D i c) c w.heap.size z w gv #[.int .i64 dO, .int .i64 i, .int .i64 q, .int .u8 ci, .bool sh, .slice fa fr.length fc])) (by kernel_rfl) rfl ⟨fun j hj => (nomatch hj), ⟨⟨pv, hkd, fun _ => rfl, fun h => (nomatch h)⟩, hbd, fun _ => HZ.out, fun _ => HDd.out, fun _ h => (nomatch h)⟩⟩ ?_ ?_
                · refine (all_succ (all_succ (all_succ (all_succ (all_succ (all_succ (all_succ (all_succ (all_succ (all_succ (all_succ (all_succ (all_succ (all_succ all_zero ?h0) ?h1) ?h2) ?h3) ?h4) ?h5) ?h6) ?h7) ?h8) ?h9) ?h10) ?h11) ?h12) ?h13)
                  case h0 =>
                    intro o ho L vals a w hs hi hcl hdl hJ K hK
                    cases ho
                    have e0 := hs.outS 5 (.pointer (some ⟨sb, 0, none⟩)) (by omega) (fun ix hi => by show (46 + ix) ≠ 5; omega) rfl
                    go_simp
                    exact hK _ _ (hJ.step (by rw [hV]; rfl) (HPURE.out _ _ _ (by decide) hJ.world))
                  case h1 =>
                    intro o ho L vals a w hs hi hcl hdl hJ K hK
                    cases ho
                    have e0 := hs.outS 12 (.pointer (some ⟨gv, 0, none⟩)) (by omega) (fun ix hi => by show (46 + ix) ≠ 12; omega) rfl
                    go_simp
                    exact hK _ _ (hJ.step (by rw [hV]; rfl) (HPURE.out _ _ _ (by decide) hJ.world))
                  case h2 =>
                    intro o ho L vals a w hs hi hcl hdl hJ K hK
                    cases ho
                    have e0 := hs.depS hJ 1 47 (.pointer (some ⟨gv, 1, none⟩)) (hdl 1 (by simp [waits12])) (by omega) rfl (by omega) (by rw [hV]; rfl)
                    obtain ⟨_, hkp, _, _⟩ := hJ.world.kept
                    have hc := (HKS.out _ _ hkp).1
                    go_simp
                    exact hK _ _ (hJ.step (by rw [hV]; rfl) (HPURE.out _ _ _ (by decide) hJ.world))
                  case h3 =>
                    intro o ho L vals a w hs hi hcl hdl hJ K hK
                    cases ho
                    have e0 := hs.outS 12 (.pointer (some ⟨gv, 0, none⟩)) (by omega) (fun ix hi => by show (46 + ix) ≠ 12; omega) rfl
                    go_simp
                    exact hK _ _ (hJ.step (by rw [hV]; rfl) (HPURE.out _ _ _ (by decide) hJ.world))
                  case h4 =>
                    intro o ho L vals a w hs hi hcl hdl hJ K hK
                    cases ho
                    have e0 := hs.depS hJ 3 49 (.pointer (some ⟨gv, 3, none⟩)) (hdl 3 (by simp [waits12])) (by omega) rfl (by omega) (by rw [hV]; rfl)
                    obtain ⟨_, hkp, _, _⟩ := hJ.world.kept
                    have hc := (HKS.out _ _ hkp).2
                    go_simp
                    exact hK _ _ (hJ.step (by rw [hV]; rfl) (HPURE.out _ _ _ (by decide) hJ.world))
                  case h5 =>
                    intro o ho L vals a w hs hi hcl hdl hJ K hK
                    cases ho
                    have e0 := hs.depS hJ 4 50 (.int .u8 ci) (hdl 4 (by simp [waits12])) (by omega) rfl (by omega) (by rw [hV]; rfl)
                    have l6 : L 6 = false := by
                      cases h : L 6 with
                      | false => rfl
                      | true => rw [hcl 6 h 5 (by simp [waits12])] at hi; cases hi
                    have HR := Lib.hid hJ.world
                    have hsz : w.heap.size = z := HR.out.size hi
                    have HSZ := Lib.hid hsz
                    clear hsz
                    go_simp
                    refine (HALL.out _).mono ?_
                    rintro e w' ⟨rfl, hbk, hbl, _⟩
                    rw [HSZ.out] at hbk ⊢
                    exact hK _ _ (hJ.step (by rw [hV]; rfl) (HR.out.made l6 (Nat.le_trans HWV.out HR.out.below.size) hbl hbk))
                  case h6 =>
                    intro o ho L vals a w hs hi hcl hdl hJ K hK
                    cases ho
                    have e0 := hs.depS hJ 0 46 (.pointer (some ⟨sb, 0, none⟩)) (hdl 0 (by simp [waits12])) (by omega) rfl (by omega) (by rw [hV]; rfl)
                    have e1 := hs.depS hJ 2 48 (.int .i64 i) (hdl 2 (by simp [waits12])) (by omega) rfl (by omega) (by rw [hV]; rfl)
                    have e2 := hs.depS hJ 5 51 (.slice (some ⟨z, 0, none⟩) 128 128) (hdl 5 (by simp [waits12])) (by omega) rfl (by omega) (by rw [hV]; rfl)
                    have l5 : L 5 = true := hdl 5 (by simp [waits12])
                    have HR := Lib.hid hJ.world
                    go_simp
                    refine (HACT.out _ _ (HR.out.dev hi) (Nat.le_trans HWV.out HR.out.below.size) (HR.out.bk hi l5)).mono ?_
                    rintro e w' ⟨rfl, pv', ht_⟩
                    rw [HX3.out]
                    exact hK _ _ (hJ.step (by rw [hV]; rfl) (HR.out.written hi l5 (Nat.le_trans HWV.out HR.out.below.size) ht_))
                  case h7 =>
                    intro o ho L vals a w hs hi hcl hdl hJ K hK
                    cases ho
                    have e0 := hs.depS hJ 6 52 (.int .i64 x3) (hdl 6 (by simp [waits12])) (by omega) rfl (by omega) (by rw [hV]; rfl)
                    go_simp
                    exact hK _ _ (hJ.step (by rw [hV]; rfl) (HPURE.out _ _ _ (by decide) hJ.world))
                  case h8 =>
                    intro o ho L vals a w hs hi hcl hdl hJ K hK
                    cases ho
                    have e0 := hs.depS hJ 7 53 (.bool false) (hdl 7 (by simp [waits12])) (by omega) rfl (by omega) (by rw [hV]; rfl)
                    go_simp
                    exact hK _ _ (hJ.step (by rw [hV]; rfl) (HPURE.out _ _ _ (by decide) hJ.world))
                  case h9 =>
                    intro o ho L vals a w hs hi hcl hdl hJ K hK
                    cases ho
                    have e0 := hs.outS 12 (.pointer (some ⟨gv, 0, none⟩)) (by omega) (fun ix hi => by show (46 + ix) ≠ 12; omega) rfl
                    have e1 := hs.depS hJ 8 54 (.bool false) (hdl 8 (by simp [waits12])) (by omega) rfl (by omega) (by rw [hV]; rfl)
                    go_simp
                    exact hK _ _ (hJ.step (by rw [hV]; rfl) (HPURE.out _ _ _ (by decide) hJ.world))
                  case h10 =>
                    intro o ho L vals a w hs hi hcl hdl hJ K hK
                    cases ho
                    have e0 := hs.depS hJ 8 54 (.bool false) (hdl 8 (by simp [waits12])) (by omega) rfl (by omega) (by rw [hV]; rfl)
                    have e1 := hs.depS hJ 9 55 (undef) (hdl 9 (by simp [waits12])) (by omega) rfl (by omega) (by rw [hV]; rfl)
                    go_simp
                    exact hK _ _ (hJ.step (by rw [hV]; rfl) (HPURE.out _ _ _ (by decide) hJ.world))
                  case h11 =>
                    intro o ho L vals a w hs hi hcl hdl hJ K hK
                    cases ho
                    have e0 := hs.outS 7 (.int .i64 (t : Int)) (by omega) (fun ix hi => by show (46 + ix) ≠ 7; omega) rfl
                    have e1 := hs.depS hJ 8 54 (.bool false) (hdl 8 (by simp [waits12])) (by omega) rfl (by omega) (by rw [hV]; rfl)
                    go_simp
                    exact hK _ _ (hJ.step (by rw [hV]; rfl) (HPURE.out _ _ _ (by decide) hJ.world))
                  case h12 =>
                    intro o ho L vals a w hs hi hcl hdl hJ K hK
                    cases ho
                    have e0 := hs.depS hJ 8 54 (.bool false) (hdl 8 (by simp [waits12])) (by omega) rfl (by omega) (by rw [hV]; rfl)
                    have e1 := hs.depS hJ 10 56 (undef) (hdl 10 (by simp [waits12])) (by omega) rfl (by omega) (by rw [hV]; rfl)
                    have e2 := hs.depS hJ 11 57 (undef) (hdl 11 (by simp [waits12])) (by omega) rfl (by omega) (by rw [hV]; rfl)
                    go_simp
                    exact hK _ _ (hJ.step (by rw [hV]; rfl) (HPURE.out _ _ _ (by decide) hJ.world))
                  case h13 =>
                    intro o ho L vals a w hs hi hcl hdl hJ K hK
                    cases ho
                    have e0 := hs.depS hJ 8 54 (.bool false) (hdl 8 (by simp [waits12])) (by omega) rfl (by omega) (by rw [hV]; rfl)
                    have e1 := hs.depS hJ 12 58 (undef) (hdl 12 (by simp [waits12])) (by omega) rfl (by omega) (by rw [hV]; rfl)
                    go_simp
                    exact hK _ _ (hJ.step (by rw [hV]; rfl) (HPURE.out _ _ _ (by decide) hJ.world))
                · intro vals a w hs hJ
                  obtain ⟨ha, hw⟩ := hs.doneR rfl rfl (fun ix jx _ _ h => by show (46 + jx) ≠ (46 + ix); omega) hJ
                  obtain ⟨pvx, _, _, hdx⟩ := hw.kept
                  have hdx := hdx (by decide)
                  rw [HWW.out] at hdx
                  have HDx := Lib.hid hdx
                  have HBx := Lib.hid hw.below
                  clear hw hs hJ hdx
                  subst ha
                  rw [hV]
                  clear hV
                  simp only [putAll, List.setIfInBounds_toArray, List.set_cons_zero, List.set_cons_succ, List.getD_cons_zero, List.getD_cons_succ, Nat.reduceAdd]
                  have HRx := Lib.hid HRS.out.up
                  go_wp2_with fail
                  go_meet
                  exact ⟨D, pvx, aw, ft, Wd, by rw [HS.out], rfl, rfl, HRx, HDx, HBx⟩
              · subst hx
                have HWW := Lib.hid hW
                have HFJ := Lib.hid hfj
                have HR0 := Lib.hid (HRS.out.write j (allOf c))
                subst hij
                clear hW hfj
                by_cases hjt : j = t
                · have heq : ((j : Int) == (t : Int)) = true := by rw [hjt]; simp
                  have HRx := HR0.out
                  rw [if_pos hjt] at HRx
                  have HRx := Lib.hid HRx
                  have hft1 : ft ≤ 1 := by have := HFJ.out; rw [hjt, HRS.out.flt] at this; exact this
                  have hft2 : decide (ft > 1) = false := by simpa using hft1
                  clear hjt
                  go_wp2
                  go_region_held3 (fun w' => w'.cell? ⟨gv, 1, none⟩ = some (.int .i64 (j : Int)) ∧ w'.cell? ⟨gv, 3, none⟩ = some (.int .u8 ci)) (exact HKS.out _ _ (by assumption))
                    (first
                      | (go_at_call 11; (with_reducible refine (HALL.out _).mono ?_); rintro e w3 ⟨rfl, hbk, hbl, _⟩; have hb3 := hbd.trans (hbl.mono hsv); have hd3 := HDd.out.up hbl; have hk3 := hkd.up hbl; have hbk3 : Bk w3 wv.heap.size 5 ((allOf c).map bv).toArray := hbk)
                      | (go_at_call 14; (with_reducible refine (HACT.out _ _ hd3 hb3.size hbk3).mono ?_); rintro e wx ⟨rfl, pvx, ht_⟩; rw [HX3.out]; have hb4 := hb3.trans (ht_.below hd3 hb3.size); have hk4 := hk3.turn ht_))
                  rw [HWW.out] at ht_
                  have HDx4 := Lib.hid ht_.dev
                  have HB4 := Lib.hid hb4
                  have HS4 := Lib.hid hb4.size
                  have hc3 : wx.cell? ⟨gv, 3, none⟩ = some (.int .u8 ci) := hk4.bk.cell 3
                  clear ht_ hb4 hb3 hbk hbk3 hd3 hbd hbl hk3 hk4 hkd v0 v1 v3
                  go_wp2_with fail
                  refine (HALL.out _).mono ?_
                  rintro e wy ⟨rfl, hbk, hb, _⟩
                  have hcv := conv_all wy _ c hbk
                  obtain ⟨Sc, hSc⟩ : ∃ Sc, str (allOf c) = Sc := ⟨_, rfl⟩
                  rw [hSc] at hcv
                  have HSC := Lib.hid hSc
                  have HDx := Lib.hid (HDx4.out.up hb)
                  have HBx := Lib.hid (HB4.out.trans (hb.mono HS4.out))
                  clear hbk hb hSc
                  go_wp2_with fail
                  go_meet
                  exact ⟨_, pvx, aw, ft, allOf c, by rw [HSC.out], rfl, by first | rfl | rw [haw], HRx, HDx, HBx⟩
                · have hne : ((j : Int) == (t : Int)) = false := by simpa using fun e => hjt (by omega)
                  have HRx := HR0.out
                  rw [if_neg hjt] at HRx
                  have HRx := Lib.hid HRx
                  clear hjt
                  go_wp2
                  go_region_held3 (fun w' => w'.cell? ⟨gv, 1, none⟩ = some (.int .i64 (j : Int)) ∧ w'.cell? ⟨gv, 3, none⟩ = some (.int .u8 ci)) (exact HKS.out _ _ (by assumption))
                    (first
                      | (go_at_call 11; (with_reducible refine (HALL.out _).mono ?_); rintro e w3 ⟨rfl, hbk, hbl, _⟩; have hb3 := hbd.trans (hbl.mono hsv); have hd3 := HDd.out.up hbl; have hk3 := hkd.up hbl; have hbk3 : Bk w3 wv.heap.size 5 ((allOf c).map bv).toArray := hbk)
                      | (go_at_call 14; (with_reducible refine (HACT.out _ _ hd3 hb3.size hbk3).mono ?_); rintro e wx ⟨rfl, pvx, ht_⟩; rw [HX3.out]; have hb4 := hb3.trans (ht_.below hd3 hb3.size); have hk4 := hk3.turn ht_))
                  rw [HWW.out] at ht_
                  have HDx := Lib.hid ht_.dev
                  have HBx := Lib.hid hb4
                  clear ht_ hb4 hb3 hbk hbk3 hd3 hbd hbl hk3 hk4 hkd v0 v1 v3
                  go_wp2_with fail
                  go_meet
                  exact ⟨_, pvx, aw, ft, Wd, by rw [HS.out], rfl, by first | rfl | rw [haw], HRx, HDx, HBx⟩

      case rest =>
        clear HRS HPL HCN HNN HDV HBV HSV HOFF HS v0
        obtain ⟨Dx, pvx, awx, ftx, Wdx, rfl, rfl, rfl, HRx, HDx, HBx⟩ := hcut
        obtain ⟨wx, hwx⟩ : ∃ wx, wc = wx := ⟨_, rfl⟩
        subst hwx
        obtain ⟨wx, hwx⟩ : ∃ wx, wx = wc := ⟨_, rfl⟩
        subst hwx
        obtain ⟨S2, hS2⟩ : ∃ S2, str Wdx = S2 := ⟨_, rfl⟩
        rw [hS2]
        have HS := Lib.hid hS2
        clear hS2
        have HSx := Lib.hid HBx.out.size
        have HE := Lib.hid HRx.out.readE
        have hft : 0 ≤ ftx ∧ ftx ≤ 3 := by have := HDx.out.ok.flt t; rw [HRx.out.flt] at this; exact this
        have hcases : awx = true ∨ (awx = false ∧ (ftx = 1 ∨ ftx = 3)) ∨ (awx = false ∧ (ftx = 0 ∨ ftx = 2)) := by
          cases hh : (awx : Bool)
          · right
            by_cases h1 : ftx = 1 ∨ ftx = 3
            · exact .inl ⟨rfl, h1⟩
            · exact .inr ⟨rfl, by omega⟩
          · exact .inl rfl
        have HTN : Hid (t < Dx.n) := by show _ < _; rw [HRx.out.n]; exact ht4
        have HPx : Hid (Dx.pend.length ≤ 1000) := by have := HRx.out.pend; have := HKK.out.2; show _ ≤ _; omega
        clear hft
        rcases hcases with haw | ⟨haw, hft⟩ | ⟨haw, hft⟩
        · have HE9 : Hid (readE Dx t = 9) := by show _ = _; rw [HE.out, if_pos (.inl haw)]
          first
            | (exact absurd haw (by decide))
            | (go_wp2_with fail
               refine (Read_off t _ HDx.out HTN.out (by rw [HE9.out]; omega)).mono ?_
               rintro e w8 ⟨rfl, hw8⟩
               rw [HE9.out]
               obtain rfl := hw8
               go_wp2_with fail
               go_roundw
               case rel => exact ⟨k + 1, Dx, pvx, awx, ftx, Wdx, HKK.out.1, HKK.out.2, by go_num, by rw [HS.out], rfl, by first | rfl | rw [haw], HRx, HDx, HBx⟩
               case measure => have := HKK.out.2; simp [intOf]; omega)
        · have HE9 : Hid (readE Dx t = 9) := by show _ = _; rw [HE.out, if_pos (.inr (by omega))]
          first
            | (exact absurd haw (by decide))
            | (rcases hft with hft | hft
               all_goals first
                 | (exact absurd hft (by omega))
                 | (go_wp2_with fail
                    refine (Read_off t _ HDx.out HTN.out (by rw [HE9.out]; omega)).mono ?_
                    rintro e w8 ⟨rfl, hw8⟩
                    rw [HE9.out]
                    obtain rfl := hw8
                    go_wp2_with fail
                    go_roundw
                    case rel => exact ⟨k + 1, Dx, pvx, awx, ftx, Wdx, HKK.out.1, HKK.out.2, by go_num, by rw [HS.out], by first | rfl | rw [hft], by first | rfl | rw [haw], HRx, HDx, HBx⟩
                    case measure => have := HKK.out.2; simp [intOf]; omega))
        · have HE9 : Hid (readE Dx t = 0) := by
            show _ = _
            rw [HE.out, if_neg (by rw [haw]; simp; omega)]
          first
            | (exact absurd haw (by decide))
            | (rcases hft with hft | hft
               all_goals first
                 | (exact absurd hft (by omega))
                 | (go_wp2_with fail
                    refine (Read_yes t _ HDx.out HTN.out HE9.out HPx.out).mono ?_
                    rintro e w8 ⟨rfl, hw8⟩
                    obtain ⟨g8, hg8⟩ : ∃ g, wx.heap.size = g := ⟨_, rfl⟩
                    have hb8 : Below wx.heap.size wx w8 := by rw [hw8]; exact (Below.refl _ _).alloc (Nat.le_refl _) _
                    have hk8 : Bk w8 wx.heap.size 67 ((rdOf Dx t).map bv).toArray := by rw [hw8]; exact Bk.new _ _ _
                    have hcv := conv_out w8 _ _ (rdOf_length HDx.out.ok t) hk8
                    rw [HRx.out.rd, HS.out] at hcv
                    rw [hg8] at hcv ⊢
                    have HD8 := Lib.hid (HDx.out.up hb8)
                    have HB8 := Lib.hid (HBx.out.trans (hb8.mono HSx.out))
                    clear hb8 hk8 hw8 hg8
                    go_wp2_with fail
                    go_roundw
                    case rel => exact ⟨k + 1, Dx, pvx, awx, ftx, Wdx, HKK.out.1, HKK.out.2, by go_num, by rw [HS.out], by first | rfl | rw [hft], by first | rfl | rw [haw], HRx, HD8, HB8⟩
                    case measure => have := HKK.out.2; simp [intOf]; omega))
    · have hout : (k < n ∧ decide ((k : Int) < 40) = false) ∨ ¬ k < n := by
        by_cases h : k < n
        · exact .inl ⟨h, by simp; omega⟩
        · exact .inr h
      rcases hout with ⟨hlt, h20⟩ | hlt
      all_goals
        go_wp2_with fail
        refine (awake_any _).mono ?_
        rintro e w9 ⟨rfl, hb⟩
        have HB9 := Lib.hid (HB.out.trans (hb.mono hsz))
        clear hb
        go_wp2
        go_ret
        exact ⟨rfl, HB9.out⟩

set_option maxRecDepth 100000 in
theorem lifted (os : Os) (started : os.Started) (H : Type) (enc : TypeId × Value → H) :
    ReturnsInHanded {} Try.checked os 5 .any (Rows.devReadsSpec.pre6 enc Try.prog Try.f5 Rows.devReadsRow.domain false) (Rows.devReadsSpec.post enc Try.prog Try.f5 false true false false) := by
  refine returnsInHanded_of_change (C := Try.checked) own started (by kernel_rfl) Try.func5
    (ChangeSpec.witness6 (enc := enc) (C := Try.checked) false ⟨#[], #[.slice none 0 0, .int .u8 0], []⟩ 8 (by kernel_rfl) (by kernel_rfl) (by kernel_rfl) (by kernel_rfl)) ?_
  intro W base args ds gs before hval0 hW hcnd _
  have hval : ∀ (j : Nat) t v, Try.f5.params[j]? = some t → args[j]? = some v → Value.okWide Try.prog W .any base t v := hval0
  have hW' := hW
  obtain ⟨p, q, hA0, hV, rfl, hfz, hnd⟩ := hW
  have hA : DataW.TrodAll enc Try.prog W 0 (fun _ => true) true Try.f5.params.toList args.toList ds p := hA0
  rw [Try.params5] at hA hval
  obtain ⟨v0, vs0, d0, ds0, p0, q0, hargs, rfl, rfl, h0, r0⟩ := trodAll_cons hA
  obtain ⟨v1, vs1, d1, ds1, p1, q1, rfl, rfl, rfl, h1, r1⟩ := trodAll_cons r0
  obtain ⟨rfl, rfl, rfl⟩ := trodAll_nil r1
  obtain rfl : args = #[v0, v1] := by cases args; simp_all
  obtain ⟨rfl, rfl⟩ := trodVars_none hV
  obtain ⟨a0, len0, cap0, rfl⟩ := okWide_slice Try.underlying22 (hval 0 22 v0 rfl rfl)
  have lt0 : ∀ x ∈ p0, x.block < W.heap.size := by obtain ⟨m, hm⟩ := h0; exact DataW.trod_lt m _ _ _ hm
  obtain ⟨x0, rfl, hc0, hm0, hr0⟩ := acts_in h0
  obtain ⟨x1, rfl, rfl, rfl, wx1⟩ := open_int Try.underlying5 (hval 1 5 v1 rfl rfl) h1
  have hx1 := bounds_u8 wx1
  clear hA0 hval0
  refine (walk a0 cap0 x0 x1 W hr0 hc0 hm0 hx1).mono fun e W' ⟨he, bel⟩ => ?_
  subst he
  exact ⟨_, rfl, _, _, _, [], _, [], hW', trodAll_mk1 (shut_bool Try.underlying4 _), (trodAll_cons_mk (Below.trod laidOut (by kernel_rfl) (of_decide_eq_true (by kernel_rfl)) h0 bel lt0) (trodAll_cons_mk (shut_int Try.underlying5 wx1) trodAll_mk0)), rfl, bel.frame _, fun h => by cases h⟩

theorem over : Rows.devReadsRow.holds Try.pinned (OpenSpec.ofChange Rows.devReadsSpec) :=
  OpenClaim.holds_of_wide 5 Try.f5 rfl rfl rfl rfl rfl rfl rfl ⟨rfl, rfl, rfl, rfl, rfl⟩ rfl rfl rfl rfl rfl (by kernel_rfl) Try.func5 (by kernel_rfl)
    (of_decide_eq_true (by kernel_rfl)) (by unfold Func.isWrapper; first | (rw [if_pos (by decide +kernel)]; kernel_rfl) | (rw [if_neg (by decide +kernel)]; exact ⟨rfl, rfl⟩))
    (fun os started H enc _ => lifted os started H enc)

theorem proved : Rows.DevReadsSaid := over
#print axioms proved
end Go.Proofs.Ytpjdnbmeedcafaa.devReads
