/-
  Blocks are whole in the part that is made of them; one of them with one up to 32 bits beside one another turned over is not. Conditions: crc.halves holds what its text lays, tied to the program.
-/
import Derived.Test.YtjibjojnkieliaaDoorSumAwake
import Derived.Test.YtjibjojnkieliaaDoorCrcTab
import Derived.Test.YtjibjojnkieliaaDoorCrcBits
import Derived.Test.YtjibjojnkieliaaDoorOpenTurned
import Derived.Test.YtjibjojnkieliaaDoorCards
import Derived.Test.YtjibjojnkieliaaDoorTie
import Derived.SevenTiedAt
import Derived.Deep.AppendLies
namespace Go.Proofs.YtjibjojnkieliaaDoor.summaryHolds
open Go.ChangeShapes Go.WideShapes Go.ChangeAt Go.RowKit
set_option linter.unusedVariables false

theorem parts_up {w w' : World} {A : Option Addr} {ps : List Part} (h : PartsIn w w.heap.size A ps) (hb : Below w.heap.size w w') : PartsIn w' w'.heap.size A ps :=
  ⟨(h.1.below hb).mono hb.size, fun p hp => ⟨((h.2 p hp).1.below hb).mono hb.size, (h.2 p hp).2⟩⟩
theorem ofOk_iff (s x : Int) (f : Bool) (L : List En) (qs : List Part) : ofOk s x f L qs = true ↔ ptOk ⟨s, x, f, L⟩ = true ∧ Pair L (octs qs) := by
  rw [ofOk, Bool.and_eq_true, pair_iff L qs _ _ rfl rfl]
theorem noP_not (bs : List (List UInt8)) : ¬ WholeP noP bs := fun h => absurd h.1 (by decide)
set_option maxRecDepth 100000 in
set_option maxHeartbeats 4000000 in
theorem cut (s x : Int) (f : Bool) (A : Option Addr) (n m c : Nat) (L : List En) (A' : Option Addr) (n' c' : Nat) (ps : List Part) (at_ turn : Int) (w : World) (hl : L.length = m) (hm : m ≤ 20) (hr : Rd w w.heap.size A (ensV L)) (hat : 0 ≤ at_ ∧ at_ ≤ 18446744073709551615) (htu : 0 ≤ turn ∧ turn ≤ 4294967295) (ht : Tab w)
    (hp : PartsIn w w.heap.size A' ps) (hpl : ps.length = n') (hpc : n' ≤ c') (hpm : c' ≤ maxLen)
    (hfew : ∀ w', Below w.heap.size w w' → Calls Tryd.prog 8 #[.slice A n c] w' fun e w'' => e = .returned (.slice A m c) ∧ w' = w'') :
    Calls Tryd.prog 6 #[.agg #[.int .i64 s, .int .i64 x, .bool f, .slice A n c, .slice A' n' c', .int .u64 at_, .int .u32 turn]] w fun e w' => e = .returned (.bool true) ∧ Below w.heap.size w w' := by
  have HFEW := Lib.hid hfew
  have HL := Lib.hid hl
  have HR := Lib.hid hr
  have HT := Lib.hid ht
  have HP := Lib.hid hp
  have HPL := Lib.hid hpl
  have HPC := Lib.hid (And.intro hpc hpm)
  have K0 := Bk.new w 51 #[.int .i64 s, .int .i64 x, .bool f, .slice A n c, .slice A' n' c', .int .u64 at_, .int .u32 turn]
  have HBA := Lib.hid ((Below.refl w.heap.size w).alloc (Nat.le_refl _) (.cells #[.int .i64 s, .int .i64 x, .bool f, .slice A n c, .slice A' n' c', .int .u64 at_, .int .u32 turn] 51))
  have HK0 := Lib.hid K0
  have j0 := K0.cell 0
  have j1 := K0.cell 1
  have j2 := K0.cell 2
  have j3 := K0.cell 3
  have j4 := K0.cell 4
  have j5 := K0.cell 5
  have j6 := K0.cell 6
  simp only [List.getElem?_toArray, List.getElem?_cons_succ, List.getElem?_cons_zero] at j0 j1 j2 j3 j4 j5 j6
  clear hfew hl hr ht hp hpl hpc hpm K0
  go_enter Tryd.func6, Tryd.ntmps6
  go_upto_region 1 with fail
  go_region
  have HB0 : Hid (Below w.heap.size w (((w.alloc (.cells #[.int .i64 s, .int .i64 x, .bool f, .slice A n c, .slice A' n' c', .int .u64 at_, .int .u32 turn] 51)).alloc (.cells #[.int .i64 s, .int .i64 x, .bool f, .slice A n c] 24)).drew)) := (HBA.out.alloc HBA.out.size _).drew
  have KT := Lib.hid ((HK0.out.alloc (.cells #[.int .i64 s, .int .i64 x, .bool f, .slice A n c] 24)).drew)
  have KP := (Bk.new (w.alloc (.cells #[.int .i64 s, .int .i64 x, .bool f, .slice A n c, .slice A' n' c', .int .u64 at_, .int .u32 turn] 51)) 24 #[.int .i64 s, .int .i64 x, .bool f, .slice A n c]).drew
  rw [World.alloc_size'] at KP
  have KP := Lib.hid KP
  obtain ⟨wb, hwb⟩ : ∃ wb, ((w.alloc (.cells #[.int .i64 s, .int .i64 x, .bool f, .slice A n c, .slice A' n' c', .int .u64 at_, .int .u32 turn] 51)).alloc (.cells #[.int .i64 s, .int .i64 x, .bool f, .slice A n c] 24)).drew = wb := ⟨_, rfl⟩
  rw [hwb] at HB0 KT KP ⊢
  clear hwb j0 j1 j2 j3 j4 j5 j6 HK0 HBA
  obtain ⟨k0, k1, k2, k3, f0, f1, f2, f3⟩ := ent_cells KP.out
  go_wp2_with fail
  refine (HFEW.out _ HB0.out).mono ?_
  rintro e w1 ⟨rfl, rfl⟩
  have HKP := Lib.hid (ent3 KP.out (.slice A m c))
  have HKT : Hid (Bk (wb.setCell ⟨w.heap.size + 1, 3, none⟩ (.slice A m c)) w.heap.size 51 #[.int .i64 s, .int .i64 x, .bool f, .slice A n c, .slice A' n' c', .int .u64 at_, .int .u32 turn]) := KT.out.far (p := ⟨w.heap.size + 1, 3, none⟩) (by show w.heap.size ≠ w.heap.size + 1; omega) _
  have HB1 : Hid (Below w.heap.size w (wb.setCell ⟨w.heap.size + 1, 3, none⟩ (.slice A m c))) := HB0.out.setCell (p := ⟨w.heap.size + 1, 3, none⟩) (Nat.le_succ _) _
  obtain ⟨w2, hw2⟩ : ∃ w2, wb.setCell ⟨w.heap.size + 1, 3, none⟩ (.slice A m c) = w2 := ⟨_, rfl⟩
  rw [hw2] at HKP HKT HB1
  have HW2 := Lib.hid hw2
  clear hw2
  have j4 := HKT.out.cell 4
  simp only [List.getElem?_toArray, List.getElem?_cons_succ, List.getElem?_cons_zero] at j4
  rw [← HW2.out] at j4
  go_wp2_with fail
  first | rw [HW2.out] | skip
  clear k0 k1 k2 k3 f0 f1 f2 f3 j4
  refine (blocks_any A' n' c' ps w2 HPL.out HPC.out.1 HPC.out.2 (parts_up HP.out HB1.out)).mono ?_
  rintro e w3 ⟨A1, A2, c1, c2, rfl, hp1, hp2, hb3⟩
  have hk20 := cutL_length ps
  have hk130 := cutL_lens ps
  obtain ⟨qs, hqs⟩ : ∃ qs, cutL ps = qs := ⟨_, rfl⟩
  rw [hqs] at hp1 hp2 hk20 hk130 ⊢
  obtain ⟨k1, hk1⟩ : ∃ k1, qs.length = k1 := ⟨_, rfl⟩
  have HK20 : Hid (k1 ≤ 20) := by rw [← hk1]; exact hk20
  rw [hk1]
  have HQL := Lib.hid hk1
  have HP1 := Lib.hid hp1
  have HB3 := Lib.hid (HB1.out.trans (hb3.mono HB1.out.size))
  have HKP := Lib.hid (HKP.out.below hb3 HKP.out.lt)
  have hk20 := HK20.out
  obtain ⟨u, hu⟩ : ∃ u, ofOk s x f L qs = u := ⟨_, rfl⟩
  have HU := Lib.hid hu
  obtain ⟨P, hP⟩ : ∃ P, ofP s x f L qs = P := ⟨_, rfl⟩
  have HPP := Lib.hid hP
  have hui := ofOk_iff s x f L qs
  rw [hu] at hui
  have HUI := Lib.hid hui
  clear hb3 hp1 hp2 hqs hk1 hk130 hu hP hui
  have HOF := sumOf_any s x f A A1 m c k1 c1 L qs w3 HL.out HQL.out (by omega) (by omega) ((HR.out.below HB3.out).mono HB3.out.size) HP1.out (HT.out.up HB3.out)
  rw [HPP.out] at HOF
  obtain ⟨q, hq⟩ : ∃ q, ofQ s x f L qs = q := ⟨_, rfl⟩
  have HQ : Hid ((u = true → q = 0) ∧ (u = false → q = 1)) := by
    show _ ∧ _
    rw [← hq, ofQ, HU.out]
    exact ⟨fun h => by rw [h]; rfl, fun h => by rw [h]; rfl⟩
  rw [hq] at HOF
  clear hq
  obtain ⟨⟨Ps, Px, Pf, Pl⟩, rfl⟩ : ∃ Q, Q = P := ⟨_, rfl⟩
  obtain ⟨d0, d1, d2, d3, -⟩ := ent_cells HKP.out
  go_wp2_with fail
  refine HOF.mono ?_
  rintro e w6 ⟨v, rfl, ⟨B1, e1, rfl, he1, hm1, hr1⟩, hb6⟩
  unfold ptV
  simp only at hr1 he1 ⊢
  clear d0 d1 d2 d3 HOF
  have HX1 := Lib.hid (And.intro he1 hm1)
  have KX := Lib.hid (Bk.new w6 24 #[.int .i64 Ps, .int .i64 Px, .bool Pf, .slice B1 Pl.length e1])
  have HB67 := Lib.hid ((Below.refl w6.heap.size w6).alloc (Nat.le_refl _) (.cells #[.int .i64 Ps, .int .i64 Px, .bool Pf, .slice B1 Pl.length e1] 24))
  have HB37 := Lib.hid (hb6.trans (HB67.out.mono hb6.size))
  have HB7 := Lib.hid (HB3.out.trans (HB37.out.mono HB3.out.size))
  have HR1 := Lib.hid ((hr1.below HB67.out).mono HB67.out.size)
  have HPLM : Hid (Pl.length ≤ 9223372036854775807) := by show _ ≤ _; unfold maxLen at hm1; omega
  clear hb6 hr1 he1 hm1
  obtain ⟨c0, c1', c2', c3, -⟩ := ent_cells KX.out
  cases u
  · obtain rfl : q = 1 := HQ.out.2 rfl
    have hpn : ofP s x f L qs = noP := by rw [ofP, HU.out]; rfl
    have hpq : (⟨Ps, Px, Pf, Pl⟩ : Pt) = noP := HPP.out.symm.trans hpn
    have HWH := sumWhole_any Ps Px Pf B1 A1 Pl.length e1 k1 c1 Pl qs false _ rfl HQL.out HPLM.out (by omega) HR1.out (parts_up HP1.out HB37.out) (HT.out.up HB7.out) ⟨fun h => (nomatch h), fun h => by rw [hpq] at h; exact absurd h (noP_not _)⟩
    unfold ptV at HWH
    clear hpn hpq
    go_wp2_with fail
    refine HWH.mono ?_
    rintro e w8 ⟨rfl, hb8⟩
    have HB8 := Lib.hid (HB7.out.trans (hb8.mono HB7.out.size))
    clear hb8 HWH
    go_wp2_with fail
    refine (awake_any _ (HT.out.up HB8.out)).mono ?_
    rintro e w9 ⟨rfl, hb9⟩
    have HB9 := Lib.hid (HB8.out.trans (hb9.mono HB8.out.size))
    clear hb9
    go_wp2
    go_ret
    exact ⟨rfl, HB9.out⟩
  · obtain rfl : q = 0 := HQ.out.1 rfl
    have hpt := HUI.out.1 rfl
    have HPT := Lib.hid hpt
    have HPD : Hid ((⟨Ps, Px, Pf, Pl⟩ : Pt) = ⟨s, x, f, withSums L (octs qs)⟩) := by show _ = _; rw [← HPP.out, ofP, HU.out]; rfl
    have hkp : 1 ≤ k1 := by
      have h1 := (headOk_yes (ptOk_yes hpt.1).1).2.2.2.2.1
      have h2 := hpt.2.1
      have h3 := HQL.out
      rw [octs, List.length_map] at h2
      simp only at h1
      omega
    have HWH := sumWhole_any Ps Px Pf B1 A1 Pl.length e1 k1 c1 Pl qs true _ rfl HQL.out HPLM.out (by omega) HR1.out (parts_up HP1.out HB37.out) (HT.out.up HB7.out) ⟨fun _ => by rw [HPD.out]; exact whole_of s x f L (octs qs) hpt.1 hpt.2, fun _ => rfl⟩
    unfold ptV at HWH
    have hkz : ((k1 : Int) == 0) = false := by simp; omega
    have hkz' : ¬ (k1 : Int) = 0 := by omega
    clear hpt
    go_wp2_with fail
    refine HWH.mono ?_
    rintro e w8 ⟨rfl, hb8⟩
    have HB8 := Lib.hid (HB7.out.trans (hb8.mono HB7.out.size))
    have HB38 := Lib.hid (HB37.out.trans (hb8.mono HB37.out.size))
    have KX := Lib.hid (KX.out.below hb8 KX.out.lt)
    have HR1 := Lib.hid ((HR1.out.below hb8).mono hb8.size)
    clear hb8 HWH c0 c1' c2' c3
    obtain ⟨ha1, ha2⟩ := hat
    obtain ⟨ht1, ht2⟩ := htu
    by_cases h0 : turn = 0
    · subst h0
      go_wp2_with fail
      refine (awake_any _ (HT.out.up HB8.out)).mono ?_
      rintro e w9 ⟨rfl, hb9⟩
      have HB9 := Lib.hid (HB8.out.trans (hb9.mono HB8.out.size))
      clear hb9
      go_wp2
      go_ret
      exact ⟨rfl, HB9.out⟩
    · have hz : (turn == 0) = false := by simpa using h0
      obtain ⟨t, rfl⟩ := Int.eq_ofNat_of_zero_le ht1
      have htl : t < 4294967296 := by omega
      have ht0 : t ≠ 0 := by omega
      obtain ⟨av, rfl⟩ := Int.eq_ofNat_of_zero_le ha1
      obtain ⟨iN, hiN⟩ : ∃ iN, av / 1024 % k1 = iN := ⟨_, rfl⟩
      have hil : iN < k1 := by rw [← hiN]; exact Nat.mod_lt _ (by omega)
      have HIX : Hid (wrap64 ((av : Int) / 1024 % (k1 : Int)) = (iN : Int)) := by
        show _ = _
        rw [show (av : Int) / 1024 % (k1 : Int) = (iN : Int) by rw [← hiN]; simp]
        first | (unfold wrap64; omega) | (simp [wrap64]; omega)
      obtain ⟨i0, hi', hz0', hz1', hz2'⟩ := info_parts info_byte
      have I1 := Lib.hid (And.intro hi' (And.intro hz0' (And.intro hz1' hz2')))
      obtain ⟨p, hpi⟩ : ∃ p, qs[iN]? = some p := ⟨_, List.getElem?_eq_getElem (by rw [HQL.out]; exact hil)⟩
      have hop : (octs qs)[iN]? = some p.2.2 := by rw [octs, List.getElem?_map, hpi]; rfl
      have hp128 : p.2.2.length = 128 := HPT.out.2.2 _ (List.mem_of_getElem? hop)
      obtain ⟨hp1, hp2, hp3⟩ := HP1.out.2 p (List.mem_of_getElem? hpi)
      obtain ⟨b1, o1, hA1, -, hcs⟩ := ((HP1.out.1.below HB38.out).alloc HB38.out.size (.cells #[] 5)).plain (by simp; have := HQL.out; omega)
      cases hA1
      have hcell := hcs iN (partV p) (by simp [hpi])
      obtain ⟨pa, pc, pb⟩ := p
      simp only at hop hp128 hp1 hp2 hp3
      unfold partV at hcell
      simp only [hp128] at hcell
      have HOP := Lib.hid hop
      have HP128 := Lib.hid hp128
      have HPI := Lib.hid hpi
      have RP := Lib.hid (hp1.below HB38.out)
      have hemp : Hid ((w8.alloc (.cells #[] 5)).ownsRow w8.heap.size 5 1 (.slice (some ⟨w8.heap.size, 0, none⟩) 0 0) 0 []) := World.ownsRow_made w8 #[] 0 (Nat.le_refl _) (by simp) rfl
      have RP2 : Hid (Rd (w8.alloc (.cells #[] 5)) w3.heap.size pa (pb.map bv)) := RP.out.alloc HB38.out.size _
      have hin : (iN : Int) < (k1 : Int) := by omega
      have HIN := Lib.hid hiN
      clear hi' hz0' hz1' hz2' hpi hop hp128 hp1 hcs hiN
      go_upto_region 12 with fail
      rw [HIX.out]
      go_wp2_with (at_builtin; refine wpList_append_rd _ rfl _ _ 26 rfl w8.heap.size 5 i0 (.int .u8 0) 1 1 Tryd.underlying26 I1.out.1 I1.out.2.1 I1.out.2.2.1 I1.out.2.2.2 rfl (by decide) _ _ _ rfl hemp.out w3.heap.size pa 128 pc (pb.map bv) rfl ?l1 RP2.out ?l2 ?l3 ?l4 ?l5 ?_)
      case l1 => simp; exact HP128.out
      case l2 => intro u hu; simp at hu; obtain ⟨x, _, rfl⟩ := hu; rfl
      case l3 => unfold maxLen; omega
      case l4 => omega
      case l5 => simp
      intro vb wc hown hgrow
      have HB8c : Hid (Below w8.heap.size w8 wc) := ((Below.refl w8.heap.size w8).alloc (Nat.le_refl _) _).grown hgrow (by simp) (fun g hg => by simp [Value.ownBlock] at hg; omega)
      obtain ⟨gb, cb, rfl, hgb, hgl⟩ := hown.form (by omega)
      have HOB : Hid (wc.ownsRow w8.heap.size 5 1 (.slice (some ⟨gb, 0, none⟩) 128 cb) 128 (pb.map bv)) := hown
      clear hown hgrow hemp RP2 hgl
      obtain ⟨k, hk⟩ : ∃ k : Nat, av % 993 = k := ⟨_, rfl⟩
      have hk992 : k ≤ 992 := by omega
      obtain ⟨wd, hwd⟩ : ∃ wd : Nat, wd = t * 2 ^ (k % 8) := ⟨_, rfl⟩
      have hwl : wd < 549755813888 := by
        have h8 : k % 8 ≤ 7 := by omega
        have : 2 ^ (k % 8) ≤ 2 ^ 7 := Nat.pow_le_pow_right (by omega) h8
        have h3 : t * 2 ^ (k % 8) ≤ t * 2 ^ 7 := Nat.mul_le_mul_left _ this
        have h5 : (2 : Nat) ^ 7 = 128 := by decide
        omega
      have HKK : Hid ((av : Int) % 993 = (k : Int)) := by show _ = _; omega
      have HW : Hid (IntKind.u64.wrap ((t : Int) * 2 ^ (av % 993 % 8)) = (wd : Int)) := by
        show _ = _
        rw [hk, hwd]
        rw [show (t : Int) * 2 ^ (k % 8) = ((t * 2 ^ (k % 8) : Nat) : Int) by simp, ← hwd]
        simp [IntKind.wrap, IntKind.bits, IntKind.signed]
        omega
      have HWD := Lib.hid hwd
      have HK := Lib.hid hk
      have HT0 := Lib.hid ht0
      obtain ⟨x0, hx0⟩ : ∃ x0, x0 = pb := ⟨_, rfl⟩
      have HX0 : Hid (x0.length = 128) := by show _ = _; rw [hx0]; exact HP128.out
      have HXE := Lib.hid hx0
      rw [← hx0] at HOB
      clear hwd hk ht0 hx0
      go_wp2_with fail
      rw [HW.out, HKK.out]
      go_loopw [14] (fun i wr => ∃ (j : Nat) (x : List UInt8), j ≤ 5 ∧ k / 8 + j ≤ 128 ∧ i = .int .u64 (j : Int) ∧ Hid (x.length = 128) ∧ Hid (leN x = leN x0 ^^^ (2 ^ (8 * (k / 8)) * (wd % 2 ^ (8 * j)))) ∧ Hid (wr.ownsRow w8.heap.size 5 1 (.slice (some ⟨gb, 0, none⟩) 128 cb) 128 (x.map bv)) ∧ Hid (Below w8.heap.size w8 wr)) (fun i _ => 5 - (intOf i).toNat)
      case atStart => exact ⟨0, x0, by omega, by omega, rfl, HX0, by simp [Hid, Nat.mod_one], HOB, HB8c⟩
      case round =>
        obtain ⟨j, x, hj, hkj, rfl, HLX, HLE2, HBk, HBw⟩ := hrel
        by_cases hgo : j < 5 ∧ k / 8 + j < 128
        · obtain ⟨hj5, hj128⟩ := hgo
          obtain ⟨y, hy⟩ : ∃ y, x[k / 8 + j]? = some y := ⟨_, List.getElem?_eq_getElem (by rw [HLX.out]; exact hj128)⟩
          obtain ⟨b, hb⟩ : ∃ b : UInt8, b = UInt8.ofNat (wd / 2 ^ (8 * j)) := ⟨_, rfl⟩
          have hbn : b.toNat = wd / 2 ^ (8 * j) % 256 := by rw [hb, UInt8.toNat_ofNat']
          have HTS := Lib.hid (turn_step x _ wd j (k / 8) y b hy hbn HLE2.out)
          have hcy : wr.cell? ⟨gb, k / 8 + j, none⟩ = some (.int .u8 (y.toNat : Int)) := by
            rw [HBk.out.cellAt _ (by omega)]; simp [hy, bv]
          have hfr := HBk.out.frozenAt (k / 8 + j)
          have HXY := Lib.hid (u8_xor_nat y.toNat b.toNat y.toNat_lt b.toNat_lt)
          have HBI : Hid ((wd : Int) / 2 ^ (8 * j) % 256 = (b.toNat : Int)) := by rw [hbn]; simp [Hid]
          have hj' : (j : Int) < 5 := by omega
          have hj2 : (k : Int) / 8 + (j : Int) < 128 := by omega
          have HB' := Lib.hid hb
          have HYY := Lib.hid hy
          clear hb hbn hy
          have hy8 := y.toNat_lt
          have hsz := HBw.out.size
          go_wp2_with fail
          go_roundw
          case rel =>
            refine ⟨j + 1, x.set (k / 8 + j) (y ^^^ b), by omega, by omega, by go_num, ?_, HTS.out, ?_, HBw.out.setCell hgb _⟩
            · show _ = _; rw [List.length_set]; exact HLX.out
            · have h := (HBk.out.stored (k / 8 + j) (bv (y ^^^ b))).1
              have e : (x.map bv).set (k / 8 + j) (bv (y ^^^ b)) = (x.set (k / 8 + j) (y ^^^ b)).map bv := by simp [List.map_set]
              rw [e] at h
              rw [HBI.out, HXY.out, ← UInt8.toNat_xor]
              exact h
          case measure => simp [intOf]; omega
        · have hfin : j = 5 ∨ (k / 8 + j = 128 ∧ j ≤ 5) := by omega
          have hall := turn_all t k j htl hk992 hfin
          rw [← HWD.out] at hall
          have HBAD : Hid (sumN x ≠ sumN pb) := by
            have h := HLE2.out
            rw [hall, HXE.out] at h
            exact sum_turned pb x t k HP128.out HLX.out htl HT0.out hk992 h
          have hout : (((j : Int) < 5 ∧ decide ((k : Int) / 8 + (j : Int) < 128) = false) ∨ decide ((j : Int) < 5) = false) := by
            by_cases h : j < 5
            · exact .inl ⟨by omega, by simp; omega⟩
            · exact .inr (by simp; omega)
          clear hall hfin hgo
          rcases hout with ⟨ho1, ho2⟩ | ho1
          all_goals
            obtain ⟨wo, hwo⟩ : ∃ wo : World, wo = wr := ⟨_, rfl⟩
            subst hwo
            go_wp2_with fail
            obtain ⟨i2, hi2, hy0, hy1, hy2⟩ := info_parts info_rows
            have IR := Lib.hid (And.intro hi2 (And.intro hy0 (And.intro hy1 hy2)))
            obtain ⟨pn, hpn⟩ : ∃ pn : Part, pn = (some ⟨gb, 0, none⟩, cb, x) := ⟨_, rfl⟩
            have HPV : Hid (partV pn = .slice (some ⟨gb, 0, none⟩) 128 cb) := by show _ = _; rw [hpn, partV, HLX.out]
            obtain ⟨rs, hrs⟩ : ∃ rs, qs.set iN pn = rs := ⟨_, rfl⟩
            have HRL : Hid (rs.length = k1) := by show _ = _; rw [← hrs, List.length_set]; exact HQL.out
            have HRI : Hid (rs[iN]? = some pn) := by show _ = _; rw [← hrs, List.getElem?_set_self (by rw [HQL.out]; exact hil)]
            have HRN : Hid (∀ j, j ≠ iN → rs[j]? = qs[j]?) := fun j hne => by rw [← hrs, List.getElem?_set_ne (Ne.symm hne)]
            have HRM : Hid (∀ p ∈ rs, p ∈ qs ∨ p = pn) := fun p hp => by rw [← hrs] at hp; exact List.mem_or_eq_of_mem_set hp
            have HPN := Lib.hid hpn
            clear hi2 hy0 hy1 hy2 hpn hrs
            go_loopw [15, 16] (fun r i wr => ∃ k2 : Nat, k2 ≤ k1 ∧ i = .int .i64 (k2 : Int) ∧ Hid (wr.ownsRow wo.heap.size 26 1 r k2 ((rs.take k2).map partV)) ∧ Hid (Below wo.heap.size wo wr)) (fun _ i _ => k1 - (intOf i).toNat)
            case atStart => exact ⟨0, Nat.zero_le _, rfl, World.ownsRow_nil _ _ _ _, Below.refl _ _⟩
            case round =>
              obtain ⟨k2, hk2, rfl, HO, HB⟩ := hrel
              obtain ⟨Am, cm, hre, hcm, hcmm⟩ := own_len HO.out
              subst hre
              have hbz := HB.out.size
              by_cases hlt : k2 < k1
              · have hki : (k2 : Int) < (k1 : Int) := by omega
                by_cases he : k2 = iN
                · subst he
                  have HQK : Hid (rs[k2]? = some pn) := HRI
                  go_wp2_with (at_builtin; refine wpList_append_own _ rfl _ _ 39 rfl wo.heap.size 26 i2 (.slice none 0 0) 1 24 Tryd.underlying39 IR.out.1 IR.out.2.1 IR.out.2.2.1 IR.out.2.2.2 rfl (by decide) _ _ _ rfl (HO.out.alloc _) ⟨wr.heap.size, 0, none⟩ 1 1 [.slice (some ⟨gb, 0, none⟩) 128 cb] rfl rfl ?_ ?_ ?_ ?_ ?_ ?_)
                  · intro j u hj
                    obtain ⟨ad, e, _, hc⟩ := (Rd.new wr 26 #[.slice (some ⟨gb, 0, none⟩) 128 cb] (0, 0)) j u hj
                    cases e
                    exact hc
                  · intro u hu; simp at hu; subst hu; rfl
                  · unfold maxLen; omega
                  · omega
                  · simp; omega
                  · intro r' w5 hown5 hgrow5 _
                    have HB5 := Lib.hid ((HB.out.alloc hbz _).grown hgrow5 (by simp; omega) (fun g hg => (HO.out.lt g hg).1))
                    have HO5 : Hid (w5.ownsRow wo.heap.size 26 1 r' (k2 + 1) ((rs.take (k2 + 1)).map partV)) := by show World.ownsRow _ _ _ _ _ _ _; rw [partsV_succ rs k2 _ HQK.out, HPV.out]; rw [List.map_take]; exact hown5
                    clear hown5 hgrow5
                    go_wp2
                    go_roundw
                    case rel => exact ⟨k2 + 1, by omega, by go_num, HO5.out, HB5.out⟩
                    case measure => simp [intOf]; omega
                · have hei : ((k2 : Int) == (iN : Int)) = false := by simp; omega
                  have hei' : ¬ (k2 : Int) = (iN : Int) := by omega
                  obtain ⟨p2, hp2⟩ : ∃ p2, qs[k2]? = some p2 := ⟨_, List.getElem?_eq_getElem (by rw [HQL.out]; exact hlt)⟩
                  have HQK : Hid (rs[k2]? = some p2) := by show _ = _; rw [HRN.out k2 he]; exact hp2
                  have hb3r : Below w3.heap.size w3 wr := HB38.out.trans ((HBw.out.mono HB38.out.size).trans (HB.out.mono (Nat.le_trans HB38.out.size HBw.out.size)))
                  obtain ⟨b2, o2, hA2, -, hcs⟩ := (HP1.out.1.below hb3r).plain (by simp; have := HQL.out; omega)
                  cases hA2
                  have hcell2 := hcs k2 (partV p2) (by simp [hp2])
                  obtain ⟨qa, qc, qb⟩ := p2
                  obtain ⟨z2, hz2⟩ : ∃ z2, qb.length = z2 := ⟨_, rfl⟩
                  have HPW : Hid (partV (qa, qc, qb) = .slice qa z2 qc) := by show _ = _; rw [partV, hz2]
                  rw [HPW.out] at hcell2
                  clear hcs hp2 hz2 hb3r
                  go_wp2_with (at_builtin; refine wpList_append_own _ rfl _ _ 39 rfl wo.heap.size 26 i2 (.slice none 0 0) 1 24 Tryd.underlying39 IR.out.1 IR.out.2.1 IR.out.2.2.1 IR.out.2.2.2 rfl (by decide) _ _ _ rfl (HO.out.alloc _) ⟨wr.heap.size, 0, none⟩ 1 1 [.slice qa z2 qc] rfl rfl ?_ ?_ ?_ ?_ ?_ ?_)
                  · intro j u hj
                    obtain ⟨ad, e, _, hc⟩ := (Rd.new wr 26 #[.slice qa z2 qc] (0, 0)) j u hj
                    cases e
                    exact hc
                  · intro u hu; simp at hu; subst hu; rfl
                  · unfold maxLen; omega
                  · omega
                  · simp; omega
                  · intro r' w5 hown5 hgrow5 _
                    have HB5 := Lib.hid ((HB.out.alloc hbz _).grown hgrow5 (by simp; omega) (fun g hg => (HO.out.lt g hg).1))
                    have HO5 : Hid (w5.ownsRow wo.heap.size 26 1 r' (k2 + 1) ((rs.take (k2 + 1)).map partV)) := by show World.ownsRow _ _ _ _ _ _ _; rw [partsV_succ rs k2 _ HQK.out, HPW.out]; rw [List.map_take]; exact hown5
                    clear hown5 hgrow5
                    go_wp2
                    go_roundw
                    case rel => exact ⟨k2 + 1, by omega, by go_num, HO5.out, HB5.out⟩
                    case measure => simp [intOf]; omega
              · obtain rfl : k2 = k1 := by omega
                have hho := HO.out
                rw [List.take_of_length_le (by rw [HRL.out]; exact Nat.le_refl _)] at hho
                have HB8r : Hid (Below w8.heap.size w8 wr) := HBw.out.trans (HB.out.mono HBw.out.size)
                have hb3r : Below w3.heap.size w3 wr := HB38.out.trans (HB8r.out.mono HB38.out.size)
                have HPM : Hid (PartsIn wr wr.heap.size Am rs) := ⟨Rd.own hho, fun p hp => by
                  rcases HRM.out p hp with h | h
                  · obtain ⟨q1, q2, q3⟩ := HP1.out.2 p h
                    exact ⟨(q1.below hb3r).mono hb3r.size, q2, q3⟩
                  · subst h
                    obtain ⟨Ax, cx, hax, hcx, hcy⟩ := own_len HBk.out
                    cases hax
                    rw [HPN.out]
                    exact ⟨((Rd.own HBk.out).below HB.out).mono HB.out.size, by rw [HLX.out]; exact hcx, hcy⟩⟩
                have HNOT : Hid (¬ WholeP ⟨Ps, Px, Pf, Pl⟩ (octs rs)) := by
                  show ¬ _
                  rw [HPD.out]
                  exact whole_turned _ _ _ L (octs qs) iN pb x HPT.out.2.1 HOP.out HBAD.out (octs rs) (by rw [octs, List.getElem?_map, HRI.out, HPN.out]; rfl)
                have HBr := Lib.hid (HB8.out.trans (HB8r.out.mono HB8.out.size))
                have HWH := Lib.hid (sumWhole_any Ps Px Pf B1 Am Pl.length e1 k2 cm Pl rs false wr rfl HRL.out HPLM.out (by omega) ((HR1.out.below HB8r.out).mono HB8r.out.size) HPM.out (HT.out.up HBr.out) ⟨fun h => (nomatch h), fun h => absurd h HNOT.out⟩)
                unfold ptV at HWH
                obtain ⟨c0, c1', c2', c3, -⟩ := ent_cells (KX.out.below HB8r.out KX.out.lt)
                clear hho hb3r
                go_wp2_with fail
                refine HWH.out.mono ?_
                rintro e wz ⟨rfl, hbz'⟩
                have HBZ := Lib.hid (HBr.out.trans (hbz'.mono HBr.out.size))
                clear hbz'
                go_wp2_with fail
                refine (awake_any _ (HT.out.up HBZ.out)).mono ?_
                rintro e wq ⟨rfl, hbq⟩
                have HBQ := Lib.hid (HBZ.out.trans (hbq.mono HBZ.out.size))
                clear hbq
                go_wp2
                go_ret
                exact ⟨rfl, HBQ.out⟩

theorem walk (s x : Int) (f : Bool) (A : Option Addr) (c : Nat) (l : List En) (A' : Option Addr) (c' : Nat) (ps : List Part) (at_ turn : Int) (w : World) (h : EntsAt w A c l) (hc' : ps.length ≤ c') (hm' : c' ≤ maxLen) (hp : PartsIn w w.heap.size A' ps) (hat : 0 ≤ at_ ∧ at_ ≤ 18446744073709551615) (htu : 0 ≤ turn ∧ turn ≤ 4294967295) (ht : Tab w) :
    Calls Tryd.prog 6 #[.agg #[.int .i64 s, .int .i64 x, .bool f, .slice A l.length c, .slice A' ps.length c', .int .u64 at_, .int .u32 turn]] w fun e w' => e = .returned (.bool true) ∧ Below w.heap.size w w' := by
  obtain ⟨hc, hcm, hr, hs⟩ := h
  exact cut s x f A _ (l.take 20).length c (l.take 20) A' _ c' ps at_ turn w rfl (by rw [List.length_take]; omega) (by rw [ensV_take]; exact hr.take _) hat htu ht hp rfl hc' hm' (fun w' hb => fewEn_any w.heap.size A _ c l w' rfl (hr.below hb) hc hcm)

set_option maxRecDepth 100000 in
theorem lifted (os : Os) (started : os.Started) (H : Type) (enc : TypeId × Value → H) :
    ReturnsInHanded {} Tryd.checked os 6 .any (fun w args => (Rows.summaryHoldsSpec.pre enc Tryd.prog Tryd.f6 [] false w args ∧ laidMetH Tryd.prog laidHalves w) ∧ sizedMet enc Tryd.prog Tryd.f6 (OpenSpec.ofChange Rows.summaryHoldsSpec) false w args) (Rows.summaryHoldsSpec.post enc Tryd.prog Tryd.f6 false true false false) := by
  refine returnsInHanded_of_change_and (C := Tryd.checked) (X := fun w _ => laidMetH Tryd.prog laidHalves w) (fun _ _ _ hh h => h.of_heap hh) own started (by kernel_rfl) Tryd.func6
    (ChangeSpec.witness_shaped (enc := enc) (C := Tryd.checked) (os := os) (X := fun w _ => laidMetH Tryd.prog laidHalves w) false (World.doorLaid Tryd.prog 400 os) #[.agg #[.int .i64 0, .int .i64 0, .bool false, .slice none 0 0, .slice none 0 0, .int .u64 0, .int .u32 0]] 8 rfl (World.shaped_of_RefB (by kernel_rfl) (by kernel_rfl)) (by kernel_rfl) (by kernel_rfl) (by kernel_rfl) (door_met os _)) ?_
  intro W base args ds gs before hval0 hW _ _ hL _
  have hTab := tab_of_laid hL
  have hval : ∀ (j : Nat) t v, Tryd.f6.params[j]? = some t → args[j]? = some v → Value.okWide Tryd.prog W .any base t v := hval0
  have hW' := hW
  obtain ⟨p, q, hA0, hV, rfl, hfz, hnd⟩ := hW
  have hA : DataW.TrodAll enc Tryd.prog W 0 (fun _ => true) true Tryd.f6.params.toList args.toList ds p := hA0
  rw [Tryd.params6] at hA hval
  obtain ⟨v0, vs0, d0, ds0, p0, q0, hargs, rfl, rfl, h0, r0⟩ := trodAll_cons hA
  obtain ⟨rfl, rfl, rfl⟩ := trodAll_nil r0
  obtain rfl : args = #[v0] := by cases args; simp_all
  obtain ⟨rfl, rfl⟩ := trodVars_none hV
  have lt0 : ∀ x ∈ p0, x.block < W.heap.size := by obtain ⟨m, hm⟩ := h0; exact DataW.trod_lt m _ _ _ hm
  obtain ⟨y0_0, y0_1, y0_2, y0_3, y0_4, y0_5, y0_6, y0_7, y0_8, y0_9, y0_10, hb0, rfl⟩ := turned_in (hval 0 51 v0 rfl rfl) h0
  clear hA0 hval0
  refine (walk y0_0 y0_1 y0_2 y0_3 y0_4 y0_5 y0_6 y0_7 y0_8 y0_9 y0_10 W hb0.1 hb0.2.1 hb0.2.2.1 hb0.2.2.2.1 hb0.2.2.2.2.1 hb0.2.2.2.2.2 hTab).mono fun e W' ⟨he, bel⟩ => ?_
  subst he
  exact ⟨_, rfl, _, _, _, [], _, [], hW', trodAll_mk1 (shut_bool Tryd.underlying4 _), (trodAll_cons_mk (Below.trod laidOut (by kernel_rfl) (of_decide_eq_true (by kernel_rfl)) h0 bel lt0) trodAll_mk0), rfl, bel.frame _, fun h => by cases h⟩

theorem over : Rows.summaryHoldsRow.holds Tryd.pinned (OpenSpec.ofChange Rows.summaryHoldsSpec) :=
  OpenClaim.holds_of_wide 6 Tryd.f6 rfl rfl rfl rfl rfl rfl rfl ⟨rfl, rfl, rfl, rfl, rfl⟩ rfl rfl rfl rfl rfl (by kernel_rfl) Tryd.func6 (by kernel_rfl)
    (of_decide_eq_true (by kernel_rfl)) (by unfold Func.isWrapper; first | (rw [if_pos (by decide +kernel)]; kernel_rfl) | (rw [if_neg (by decide +kernel)]; exact ⟨rfl, rfl⟩))
    (fun os started H enc _ => lifted os started H enc)

theorem proved : Rows.SummaryHoldsCardSaid :=
  Claim7.holds_tied_plain_at .later [] [.data] true _ false
    over (fun _ h => by cases h) (by kernel_rfl) (fun _ h => by cases h) summaryHolds_row_tie rfl ⟨rfl, rfl⟩ (by kernel_rfl) rfl
    (fun f fn hf hfn => by
      obtain rfl : f = 6 := Option.some.inj ((show Tryd.prog.funcNamed "haymow/haymowlaw06.SummaryHolds" = some 6 by kernel_rfl).symm.trans hf) |>.symm
      obtain rfl : fn = Tryd.f6 := (Option.some.inj (Tryd.func6.symm.trans hfn)).symm
      exact ⟨by kernel_rfl, fun j t ht => by
        rw [Tryd.params6] at ht
        have hm : t ∈ [51] := by simpa using Array.mem_of_getElem? ht
        have hall : ([51].all fun u => !Tryd.prog.wantsStandIn u) = true := by kernel_rfl
        exact (show Tryd.prog.wantsStandIn t = false by simpa using List.all_eq_true.1 hall t hm)⟩)
    (by kernel_rfl)
#print axioms proved
end Go.Proofs.YtjibjojnkieliaaDoor.summaryHolds
