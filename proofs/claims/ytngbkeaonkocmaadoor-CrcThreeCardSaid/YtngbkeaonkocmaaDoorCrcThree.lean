/-
  Of three times as many octets the sums, exclusive-or, are the sum of the octets, exclusive-or. Conditions: crc.halves holds what its text lays, tied to the program.
-/
import Derived.Test.YtngbkeaonkocmaaDoorCrcAwake
import Derived.Test.YtngbkeaonkocmaaDoorCrcBits
import Derived.Test.YtngbkeaonkocmaaDoorCrcTab
import Derived.Test.YtngbkeaonkocmaaDoorOpen
import Derived.Test.YtngbkeaonkocmaaDoorCards
import Derived.Test.YtngbkeaonkocmaaDoorTie
import Derived.SevenTiedAt
import Derived.Deep.RegionHeld3
import Derived.Deep.AppendLies
import Derived.Deep.DeepCutAuto
import Derived.Test.YtngbkeaonkocmaaDoorRegInv
namespace Go.Proofs.YtngbkeaonkocmaaDoor.crcThree
open Go.ChangeShapes Go.WideShapes Go.ChangeAt Go.RowKit
set_option linter.unusedVariables false

/-- the last region: the slot that each operation writes; what it waits for; what it leaves -/
def slotOf (i : Nat) : Nat := if i = 24 then 6 else 52 + i
def waits : Nat → List Nat
  | 2 => [0, 1] | 3 => [2] | 4 => [3] | 7 => [5, 6] | 8 => [7] | 9 => [8] | 10 => [4, 9] | 13 => [11, 12] | 14 => [13] | 15 => [14] | 16 => [10, 15] | 18 => [17] | 19 => [18] | 20 => [16, 19] | 21 => [20] | 22 => [21] | 23 => [21, 22] | 24 => [23]
  | _ => []
/-- a new slice of one slice -/
def Wraps (u : Value) (v : Value) (w : World) : Prop := ∃ g : Nat, v = .slice (some ⟨g, 0, none⟩) 1 1 ∧ w.cell? ⟨g, 0, none⟩ = some u
theorem Wraps.up {u v : Value} {w w' : World} (h : Wraps u v w) (hb : Below w.heap.size w w') : Wraps u v w' := by
  obtain ⟨g, rfl, hc⟩ := h
  exact ⟨g, rfl, (hb.cell (p := ⟨g, 0, none⟩) (World.block_lt_of_cell? w _ hc)).trans hc⟩
def leaves (A1 A2 A3 A4 : Option Addr) (n1 n2 n3 k c1 c2 c3 c4 s1 s2 s3 s12 s4 : Nat) : Nat → Value → World → Prop
  | 0, v, _ => v = .slice A1 n1 c1 | 1, v, _ => v = .int .i64 (k : Int) | 2, v, _ => v = .slice A1 k c1 | 3, v, w => Wraps (.slice A1 k c1) v w | 4, v, _ => v = .int .u32 (s1 : Int)
  | 5, v, _ => v = .slice A2 n2 c2 | 6, v, _ => v = .int .i64 (k : Int) | 7, v, _ => v = .slice A2 k c2 | 8, v, w => Wraps (.slice A2 k c2) v w | 9, v, _ => v = .int .u32 (s2 : Int)
  | 10, v, _ => v = .int .u32 (s12 : Int)
  | 11, v, _ => v = .slice A3 n3 c3 | 12, v, _ => v = .int .i64 (k : Int) | 13, v, _ => v = .slice A3 k c3 | 14, v, w => Wraps (.slice A3 k c3) v w | 15, v, _ => v = .int .u32 (s3 : Int)
  | 16, v, _ => v = .int .u32 (s4 : Int)
  | 17, v, _ => v = .slice A4 k c4 | 18, v, w => Wraps (.slice A4 k c4) v w | 19, v, _ => v = .int .u32 (s4 : Int)
  | _, v, _ => v = .bool true
theorem leaves_mono (A1 A2 A3 A4 : Option Addr) (n1 n2 n3 k c1 c2 c3 c4 s1 s2 s3 s12 s4 : Nat) (w0 : World) (i : Nat) (v : Value) (w w' : World) (_ : Below w0.heap.size w0 w) (hb : Below w.heap.size w w') (h : leaves A1 A2 A3 A4 n1 n2 n3 k c1 c2 c3 c4 s1 s2 s3 s12 s4 i v w) : leaves A1 A2 A3 A4 n1 n2 n3 k c1 c2 c3 c4 s1 s2 s3 s12 s4 i v w' := by
  unfold leaves at *
  split at h <;> first | exact h | exact Wraps.up h hb

set_option maxRecDepth 100000 in
set_option maxHeartbeats 4000000 in
theorem cut (A1 A2 A3 : Option Addr) (n1 l1 c1 n2 l2 c2 n3 l3 c3 : Nat) (b1 b2 b3 : List UInt8) (w : World) (h1 : b1.length = n1) (h2 : b2.length = n2) (h3 : b3.length = n3)
    (m1 : n1 ≤ 300) (m2 : n2 ≤ 300) (m3 : n3 ≤ 300) (k1 : n1 ≤ c1) (k2 : n2 ≤ c2) (k3 : n3 ≤ c3) (g1 : c1 ≤ 9223372036854775807) (g2 : c2 ≤ 9223372036854775807) (g3 : c3 ≤ 9223372036854775807)
    (r1 : Rd w w.heap.size A1 (b1.map bv)) (r2 : Rd w w.heap.size A2 (b2.map bv)) (r3 : Rd w w.heap.size A3 (b3.map bv)) (ht : Tab w)
    (f1 : Calls Tryd.prog 8 #[.slice A1 l1 c1] w fun e w' => e = .returned (.slice A1 n1 c1) ∧ w = w')
    (f2 : Calls Tryd.prog 8 #[.slice A2 l2 c2] w fun e w' => e = .returned (.slice A2 n2 c2) ∧ w = w')
    (f3 : Calls Tryd.prog 8 #[.slice A3 l3 c3] w fun e w' => e = .returned (.slice A3 n3 c3) ∧ w = w') :
    Calls Tryd.prog 7 #[.slice A1 l1 c1, .slice A2 l2 c2, .slice A3 l3 c3] w fun e w' => e = .returned (.bool true) ∧ Below w.heap.size w w' := by
  have F1 := Lib.hid f1
  have F2 := Lib.hid f2
  have F3 := Lib.hid f3
  have R1 := Lib.hid r1
  have R2 := Lib.hid r2
  have R3 := Lib.hid r3
  have HT := Lib.hid ht
  have H1 := Lib.hid h1
  have H2 := Lib.hid h2
  have H3 := Lib.hid h3
  clear f1 f2 f3 r1 r2 r3 ht h1 h2 h3
  go_enter Tryd.func7, Tryd.ntmps7
  go_wp2_with fail
  refine F1.out.mono ?_
  rintro e w1 ⟨rfl, hw1⟩
  obtain rfl := hw1
  go_wp2_with fail
  refine F2.out.mono ?_
  rintro e w1 ⟨rfl, hw1⟩
  obtain rfl := hw1
  go_wp2_with fail
  refine F3.out.mono ?_
  rintro e w1 ⟨rfl, hw1⟩
  obtain rfl := hw1
  go_upto_if 21 with fail
  go_cut [7] (fun s7 wc => w = wc ∧ ∃ m : Nat, s7 = .int .i64 (m : Int) ∧ m ≤ n1 ∧ m ≤ n2)
  case first =>
    go_wp2_with fail
    all_goals go_meet
    · exact ⟨rfl, n2, rfl, by omega, by omega⟩
    · exact ⟨rfl, n1, rfl, by omega, by omega⟩
  case rest =>
    obtain ⟨rfl, m12, rfl, hm1, hm2⟩ := hcut
    go_upto_if 27 with fail
    go_cut [7] (fun s7 wc => w = wc ∧ ∃ m : Nat, s7 = .int .i64 (m : Int) ∧ m ≤ n1 ∧ m ≤ n2 ∧ m ≤ n3)
    case first =>
      go_wp2_with fail
      all_goals go_meet
      · exact ⟨rfl, n3, rfl, by omega, by omega, by omega⟩
      · exact ⟨rfl, m12, rfl, by omega, by omega, by omega⟩
    case rest =>
      obtain ⟨rfl, m, rfl, hma, hmb, hmc⟩ := hcut
      clear hm1 hm2
      obtain ⟨i0, hi', hz0', hz1', hz2'⟩ := info_parts info_u8
      have hi := Lib.hid hi'
      have hz0 := Lib.hid hz0'
      have hz1 := Lib.hid hz1'
      have hz2 := Lib.hid hz2'
      clear hi' hz0' hz1' hz2'
      go_wp2_with fail
      go_loopw [8, 9] (fun r i wr => ∃ k : Nat, k ≤ m ∧ i = .int .i64 k ∧ Hid (wr.ownsRow w.heap.size 5 1 r k ((xor3 (b1.take k) (b2.take k) (b3.take k)).map bv)) ∧ Hid (Below w.heap.size w wr)) (fun _ i _ => m - (intOf i).toNat)
      case atStart => exact ⟨0, Nat.zero_le _, rfl, by simpa [Hid, xor3] using World.ownsRow_nil w w.heap.size _ 1, Below.refl _ _⟩
      case round =>
        obtain ⟨k, hk, rfl, HO, HB⟩ := hrel
        by_cases hlt : k < m
        · obtain ⟨y1, hy1⟩ : ∃ y, b1[k]? = some y := ⟨_, List.getElem?_eq_getElem (by rw [H1.out]; omega)⟩
          obtain ⟨y2, hy2⟩ : ∃ y, b2[k]? = some y := ⟨_, List.getElem?_eq_getElem (by rw [H2.out]; omega)⟩
          obtain ⟨y3, hy3⟩ : ∃ y, b3[k]? = some y := ⟨_, List.getElem?_eq_getElem (by rw [H3.out]; omega)⟩
          obtain ⟨p1, o1, rfl, q1, e1⟩ := R1.out.plain (by rw [List.length_map, H1.out]; omega)
          obtain ⟨p2, o2, rfl, q2, e2⟩ := R2.out.plain (by rw [List.length_map, H2.out]; omega)
          obtain ⟨p3, o3, rfl, q3, e3⟩ := R3.out.plain (by rw [List.length_map, H3.out]; omega)
          have d1 := e1 k (bv y1) (by rw [List.getElem?_map, hy1]; rfl)
          have d2 := e2 k (bv y2) (by rw [List.getElem?_map, hy2]; rfl)
          have d3 := e3 k (bv y3) (by rw [List.getElem?_map, hy3]; rfl)
          unfold bv at d1 d2 d3
          have HSN := Lib.hid (xor3_take b1 b2 b3 k y1 y2 y3 hy1 hy2 hy3)
          have HX : Hid (bits .xor .u8 (bits .xor .u8 (y1.toNat : Int) (y2.toNat : Int)) (y3.toNat : Int) = ((y1 ^^^ y2 ^^^ y3).toNat : Int)) := by
            show _ = _
            rw [u8_xor_nat _ _ y1.toNat_lt y2.toNat_lt, u8_xor_nat _ _ (Nat.xor_lt_two_pow (n := 8) y1.toNat_lt y2.toNat_lt) y3.toNat_lt, UInt8.toNat_xor, UInt8.toNat_xor]
          obtain ⟨v1, hv1⟩ : ∃ v : Int, v = (y1.toNat : Int) := ⟨_, rfl⟩
          obtain ⟨v2, hv2⟩ : ∃ v : Int, v = (y2.toNat : Int) := ⟨_, rfl⟩
          obtain ⟨v3, hv3⟩ : ∃ v : Int, v = (y3.toNat : Int) := ⟨_, rfl⟩
          rw [← hv1] at d1 HX
          rw [← hv2] at d2 HX
          rw [← hv3] at d3 HX
          have HK : Hid (∀ w', Below w.heap.size w w' → w'.cell? ⟨p1, o1 + k, none⟩ = some (.int .u8 v1) ∧ w'.cell? ⟨p2, o2 + k, none⟩ = some (.int .u8 v2) ∧ w'.cell? ⟨p3, o3 + k, none⟩ = some (.int .u8 v3)) := fun w' hb =>
            ⟨(hb.cell (p := ⟨p1, o1 + k, none⟩) q1).trans d1, (hb.cell (p := ⟨p2, o2 + k, none⟩) q2).trans d2, (hb.cell (p := ⟨p3, o3 + k, none⟩) q3).trans d3⟩
          have i0' : (0 : Int) ≤ (k : Int) := by omega
          have i1 : (k : Int) < (n1 : Int) := by omega
          have i2 : (k : Int) < (n2 : Int) := by omega
          have i3 : (k : Int) < (n3 : Int) := by omega
          have hlt' : (k : Int) < (m : Int) := by omega
          have hsz := HB.out.size
          clear d1 d2 d3 e1 e2 e3 hy1 hy2 hy3 hv1 hv2 hv3
          go_wp2_with fail
          go_region_held3 (fun w' => w'.cell? ⟨p1, o1 + k, none⟩ = some (.int .u8 v1) ∧ w'.cell? ⟨p2, o2 + k, none⟩ = some (.int .u8 v2) ∧ w'.cell? ⟨p3, o3 + k, none⟩ = some (.int .u8 v3))
            (first | exact HK.out _ HB.out.drew | exact HK.out _ ((HB.out.alloc hsz _).drew) | exact HK.out _ (by assumption))
            ((refine step_append_lies _ (by rfl) _ _ _ (by rfl) w.heap.size 5 i0 _ 1 1 Tryd.underlying23 hi.out hz0.out hz1.out hz2.out rfl (by omega) _ k _ (by rfl) ((HO.out.alloc _).drew)
                  ⟨wr.heap.size, 0, none⟩ 1 1 [.int .u8 (bits .xor .u8 (bits .xor .u8 v1 v2) v3)] (by rfl) (by rfl) (World.news_of_block (cs := #[.int .u8 (bits .xor .u8 (bits .xor .u8 v1 v2) v3)]) (t := 5) (fr := (0, 0)) (heap_alloc_new wr _)) (by simp [Value.oneCell'])
                  (by omega) (by unfold maxLen; omega) (by omega) (by simp; omega) (wr.heap.size + 1) (by simp) ?_; intro gg cap w1 hown1 hgrow hat hlt1; have hbw : Below w.heap.size w w1 := ((HB.out.alloc hsz _).drew).grown hgrow (by simp; omega) (fun g hg => (HO.out.lt g hg).1)))
          have HO2 : Hid (w1.ownsRow w.heap.size 5 1 (.slice (some ⟨gg, 0, none⟩) (k + 1) cap) (k + 1) ((xor3 (b1.take (k + 1)) (b2.take (k + 1)) (b3.take (k + 1))).map bv)) := by
            have e : [y1 ^^^ y2 ^^^ y3].map bv = [.int .u8 (bits .xor .u8 (bits .xor .u8 v1 v2) v3)] := by rw [HX.out]; rfl
            rw [HSN.out, List.map_append, e]
            exact hown1
          have HB2 := Lib.hid hbw
          clear hown1 hgrow hat hbw
          go_wp2_with fail
          go_roundw
          case rel => exact ⟨k + 1, by omega, by go_num, HO2, HB2⟩
          case measure => simp [intOf]; omega
        · obtain rfl : k = m := by omega
          obtain ⟨A4, c4, rfl, hkc, _⟩ := own_len HO.out
          obtain ⟨s1, hs1⟩ : ∃ s, sumN (b1.take k) = s := ⟨_, rfl⟩
          obtain ⟨s2, hs2⟩ : ∃ s, sumN (b2.take k) = s := ⟨_, rfl⟩
          obtain ⟨s3, hs3⟩ : ∃ s, sumN (b3.take k) = s := ⟨_, rfl⟩
          have l1 : (b1.take k).length = k := by rw [List.length_take, H1.out]; omega
          have l2 : (b2.take k).length = k := by rw [List.length_take, H2.out]; omega
          have l3 : (b3.take k).length = k := by rw [List.length_take, H3.out]; omega
          have l4 : (xor3 (b1.take k) (b2.take k) (b3.take k)).length = k := by rw [xor3_length _ _ _ (by omega) (by omega)]; exact l1
          have hs4 := sumN_three (b1.take k) (b2.take k) (b3.take k) (by omega) (by omega)
          rw [hs1, hs2, hs3] at hs4
          have t1 : s1 < 4294967296 := by rw [← hs1]; exact sumN_lt _
          have t2 : s2 < 4294967296 := by rw [← hs2]; exact sumN_lt _
          have t3 : s3 < 4294967296 := by rw [← hs3]; exact sumN_lt _
          obtain ⟨s12, h12⟩ : ∃ s, s = s1 ^^^ s2 := ⟨_, rfl⟩
          obtain ⟨s4, h4⟩ : ∃ s, s = s12 ^^^ s3 := ⟨_, rfl⟩
          have hx12 : bits .xor .u32 (s1 : Int) (s2 : Int) = (s12 : Int) := by rw [h12]; exact u32_xor_nat s1 s2 t1 t2
          have hx4 : bits .xor .u32 (s12 : Int) (s3 : Int) = (s4 : Int) := by rw [h4]; exact u32_xor_nat s12 s3 (by rw [h12]; exact xor_lt32 t1 t2) t3
          rw [← h12, ← h4] at hs4
          have one : ∀ (A : Option Addr) (c s : Nat) (l : List UInt8), l.length = k → sumN l = s → Rd wr wr.heap.size A (l.map bv) → ∀ w' g, Below wr.heap.size wr w' → w'.cell? ⟨g, 0, none⟩ = some (.slice A k c) →
              Calls Tryd.prog 10 #[.slice (some ⟨g, 0, none⟩) 1 1] w' fun e w'' => e = .returned (.int .u32 (s : Int)) ∧ w' = w'' := fun A c s l hl hs hrd w' g hb hc =>
            Sum_one w'.heap.size _ A 1 c k s l w' hl hs (by omega) (fun j u hj => by
              match j, hj with
              | 0, hj => simp at hj; subst hj; exact ⟨_, rfl, World.block_lt_of_cell? w' _ hc, by simpa [Addr.add] using hc⟩) ((hrd.below hb).mono hb.size) ((HT.out.up HB.out).up hb)
          have rd1 : Rd wr wr.heap.size A1 ((b1.take k).map bv) := by rw [List.map_take]; exact ((R1.out.below HB.out).mono HB.out.size).take k
          have rd2 : Rd wr wr.heap.size A2 ((b2.take k).map bv) := by rw [List.map_take]; exact ((R2.out.below HB.out).mono HB.out.size).take k
          have rd3 : Rd wr wr.heap.size A3 ((b3.take k).map bv) := by rw [List.map_take]; exact ((R3.out.below HB.out).mono HB.out.size).take k
          have S1 := Lib.hid (one A1 c1 s1 _ l1 hs1 rd1)
          have S2 := Lib.hid (one A2 c2 s2 _ l2 hs2 rd2)
          have S3 := Lib.hid (one A3 c3 s3 _ l3 hs3 rd3)
          have S4 := Lib.hid (one A4 c4 s4 _ l4 hs4.symm (Rd.own HO.out))
          have HAW : Hid (∀ w', Below wr.heap.size wr w' → Calls Tryd.prog 13 #[] w' fun e w'' => e = .returned (.bool true) ∧ Below wr.heap.size wr w'') := fun w' hb =>
            (awake_any w' ((HT.out.up HB.out).up hb)).mono fun e w'' ⟨he, hb'⟩ => ⟨he, hb.trans (hb'.mono hb.size)⟩
          have i0' : (0 : Int) ≤ (k : Int) := by omega
          have i1 : (k : Int) ≤ (c1 : Int) := by omega
          have i2 : (k : Int) ≤ (c2 : Int) := by omega
          have i3 : (k : Int) ≤ (c3 : Int) := by omega
          have X12 := Lib.hid hx12
          have X4 := Lib.hid hx4
          clear l1 l2 l3 l4 hs1 hs2 hs3 hs4 h12 h4 t1 t2 t3 one rd1 rd2 rd3 hx12 hx4
          go_wp2_with fail
          refine wp_region_leaves (by kernel_rfl) 25 76 [(0, .slice A1 n1 c1), (1, .slice A2 n2 c2), (2, .slice A3 n3 c3), (7, .int .i64 (k : Int)), (8, .slice A4 k c4)] slotOf waits (leaves A1 A2 A3 A4 n1 n2 n3 k c1 c2 c3 c4 s1 s2 s3 s12 s4)
            (by kernel_rfl) ⟨by simp, rfl, by simp⟩ (leaves_mono _ _ _ _ _ _ _ _ _ _ _ _ _ _ _ _ _ _) ?_ ?_
          · intro i hi
            match i, hi with
            | 0, _ =>
              intro o ho a w hk hb hd K hK
              cases ho
              have e0 := hk.at_ 0 0 _ rfl
              rw [Array.getD_eq_getD_getElem?] at e0
              go_simp
              exact hK _ _ (Below.refl _ _) rfl
            | 1, _ =>
              intro o ho a w hk hb hd K hK
              cases ho
              have e0 := hk.at_ 3 7 _ rfl
              rw [Array.getD_eq_getD_getElem?] at e0
              go_simp
              exact hK _ _ (Below.refl _ _) rfl
            | 2, _ =>
              intro o ho a w hk hb hd K hK
              cases ho
              have e0 := hd 0 (by simp [waits])
              have e1 := hd 1 (by simp [waits])
              simp only [leaves, slotOf, if_false, Nat.reduceAdd, Nat.reduceEqDiff, Array.getD_eq_getD_getElem?] at e0 e1
              go_simp
              exact hK _ _ (Below.refl _ _) rfl
            | 3, _ =>
              intro o ho a w hk hb hd K hK
              cases ho
              have e0 := hd 2 (by simp [waits])
              simp only [leaves, slotOf, if_false, Nat.reduceAdd, Nat.reduceEqDiff, Array.getD_eq_getD_getElem?] at e0
              go_simp
              exact hK _ _ ((Below.refl _ _).alloc (Nat.le_refl _) _) ⟨_, rfl, by go_simp⟩
            | 4, _ =>
              intro o ho a w hk hb hd K hK
              cases ho
              have e0 := hd 3 (by simp [waits])
              simp only [leaves, slotOf, if_false, Nat.reduceAdd, Nat.reduceEqDiff, Array.getD_eq_getD_getElem?] at e0
              obtain ⟨g, e0, hc⟩ := e0
              go_simp
              refine (S1.out w g hb hc).mono ?_
              rintro e w3 ⟨rfl, hw3⟩
              subst hw3
              exact hK _ _ (Below.refl _ _) rfl
            | 5, _ =>
              intro o ho a w hk hb hd K hK
              cases ho
              have e0 := hk.at_ 1 1 _ rfl
              rw [Array.getD_eq_getD_getElem?] at e0
              go_simp
              exact hK _ _ (Below.refl _ _) rfl
            | 6, _ =>
              intro o ho a w hk hb hd K hK
              cases ho
              have e0 := hk.at_ 3 7 _ rfl
              rw [Array.getD_eq_getD_getElem?] at e0
              go_simp
              exact hK _ _ (Below.refl _ _) rfl
            | 7, _ =>
              intro o ho a w hk hb hd K hK
              cases ho
              have e0 := hd 5 (by simp [waits])
              have e1 := hd 6 (by simp [waits])
              simp only [leaves, slotOf, if_false, Nat.reduceAdd, Nat.reduceEqDiff, Array.getD_eq_getD_getElem?] at e0 e1
              go_simp
              exact hK _ _ (Below.refl _ _) rfl
            | 8, _ =>
              intro o ho a w hk hb hd K hK
              cases ho
              have e0 := hd 7 (by simp [waits])
              simp only [leaves, slotOf, if_false, Nat.reduceAdd, Nat.reduceEqDiff, Array.getD_eq_getD_getElem?] at e0
              go_simp
              exact hK _ _ ((Below.refl _ _).alloc (Nat.le_refl _) _) ⟨_, rfl, by go_simp⟩
            | 9, _ =>
              intro o ho a w hk hb hd K hK
              cases ho
              have e0 := hd 8 (by simp [waits])
              simp only [leaves, slotOf, if_false, Nat.reduceAdd, Nat.reduceEqDiff, Array.getD_eq_getD_getElem?] at e0
              obtain ⟨g, e0, hc⟩ := e0
              go_simp
              refine (S2.out w g hb hc).mono ?_
              rintro e w3 ⟨rfl, hw3⟩
              subst hw3
              exact hK _ _ (Below.refl _ _) rfl
            | 10, _ =>
              intro o ho a w hk hb hd K hK
              cases ho
              have e0 := hd 4 (by simp [waits])
              have e1 := hd 9 (by simp [waits])
              simp only [leaves, slotOf, if_false, Nat.reduceAdd, Nat.reduceEqDiff, Array.getD_eq_getD_getElem?] at e0 e1
              have hx := X12.out
              go_simp
              exact hK _ _ (Below.refl _ _) rfl
            | 11, _ =>
              intro o ho a w hk hb hd K hK
              cases ho
              have e0 := hk.at_ 2 2 _ rfl
              rw [Array.getD_eq_getD_getElem?] at e0
              go_simp
              exact hK _ _ (Below.refl _ _) rfl
            | 12, _ =>
              intro o ho a w hk hb hd K hK
              cases ho
              have e0 := hk.at_ 3 7 _ rfl
              rw [Array.getD_eq_getD_getElem?] at e0
              go_simp
              exact hK _ _ (Below.refl _ _) rfl
            | 13, _ =>
              intro o ho a w hk hb hd K hK
              cases ho
              have e0 := hd 11 (by simp [waits])
              have e1 := hd 12 (by simp [waits])
              simp only [leaves, slotOf, if_false, Nat.reduceAdd, Nat.reduceEqDiff, Array.getD_eq_getD_getElem?] at e0 e1
              go_simp
              exact hK _ _ (Below.refl _ _) rfl
            | 14, _ =>
              intro o ho a w hk hb hd K hK
              cases ho
              have e0 := hd 13 (by simp [waits])
              simp only [leaves, slotOf, if_false, Nat.reduceAdd, Nat.reduceEqDiff, Array.getD_eq_getD_getElem?] at e0
              go_simp
              exact hK _ _ ((Below.refl _ _).alloc (Nat.le_refl _) _) ⟨_, rfl, by go_simp⟩
            | 15, _ =>
              intro o ho a w hk hb hd K hK
              cases ho
              have e0 := hd 14 (by simp [waits])
              simp only [leaves, slotOf, if_false, Nat.reduceAdd, Nat.reduceEqDiff, Array.getD_eq_getD_getElem?] at e0
              obtain ⟨g, e0, hc⟩ := e0
              go_simp
              refine (S3.out w g hb hc).mono ?_
              rintro e w3 ⟨rfl, hw3⟩
              subst hw3
              exact hK _ _ (Below.refl _ _) rfl
            | 16, _ =>
              intro o ho a w hk hb hd K hK
              cases ho
              have e0 := hd 10 (by simp [waits])
              have e1 := hd 15 (by simp [waits])
              simp only [leaves, slotOf, if_false, Nat.reduceAdd, Nat.reduceEqDiff, Array.getD_eq_getD_getElem?] at e0 e1
              have hx := X4.out
              go_simp
              exact hK _ _ (Below.refl _ _) rfl
            | 17, _ =>
              intro o ho a w hk hb hd K hK
              cases ho
              have e0 := hk.at_ 4 8 _ rfl
              rw [Array.getD_eq_getD_getElem?] at e0
              go_simp
              exact hK _ _ (Below.refl _ _) rfl
            | 18, _ =>
              intro o ho a w hk hb hd K hK
              cases ho
              have e0 := hd 17 (by simp [waits])
              simp only [leaves, slotOf, if_false, Nat.reduceAdd, Nat.reduceEqDiff, Array.getD_eq_getD_getElem?] at e0
              go_simp
              exact hK _ _ ((Below.refl _ _).alloc (Nat.le_refl _) _) ⟨_, rfl, by go_simp⟩
            | 19, _ =>
              intro o ho a w hk hb hd K hK
              cases ho
              have e0 := hd 18 (by simp [waits])
              simp only [leaves, slotOf, if_false, Nat.reduceAdd, Nat.reduceEqDiff, Array.getD_eq_getD_getElem?] at e0
              obtain ⟨g, e0, hc⟩ := e0
              go_simp
              refine (S4.out w g hb hc).mono ?_
              rintro e w3 ⟨rfl, hw3⟩
              subst hw3
              exact hK _ _ (Below.refl _ _) rfl
            | 20, _ =>
              intro o ho a w hk hb hd K hK
              cases ho
              have e0 := hd 16 (by simp [waits])
              have e1 := hd 19 (by simp [waits])
              simp only [leaves, slotOf, if_false, Nat.reduceAdd, Nat.reduceEqDiff, Array.getD_eq_getD_getElem?] at e0 e1
              go_simp
              exact hK _ _ (Below.refl _ _) rfl
            | 21, _ =>
              intro o ho a w hk hb hd K hK
              cases ho
              have e0 := hd 20 (by simp [waits])
              simp only [leaves, slotOf, if_false, Nat.reduceAdd, Nat.reduceEqDiff, Array.getD_eq_getD_getElem?] at e0
              go_simp
              exact hK _ _ (Below.refl _ _) rfl
            | 22, _ =>
              intro o ho a w hk hb hd K hK
              cases ho
              have e0 := hd 21 (by simp [waits])
              simp only [leaves, slotOf, if_false, Nat.reduceAdd, Nat.reduceEqDiff, Array.getD_eq_getD_getElem?] at e0
              have e1 := hk.some_ (by omega) e0
              go_simp
              refine (awake_any w ((HT.out.up HB.out).up hb)).mono ?_
              rintro e w3 ⟨rfl, hw3⟩
              exact hK _ _ hw3 rfl
            | 23, _ =>
              intro o ho a w hk hb hd K hK
              cases ho
              have e0 := hd 21 (by simp [waits])
              have e1 := hd 22 (by simp [waits])
              simp only [leaves, slotOf, if_false, Nat.reduceAdd, Nat.reduceEqDiff, Array.getD_eq_getD_getElem?] at e0 e1
              go_simp
              exact hK _ _ (Below.refl _ _) rfl
            | 24, _ =>
              intro o ho a w hk hb hd K hK
              cases ho
              have e0 := hd 23 (by simp [waits])
              simp only [leaves, slotOf, if_false, Nat.reduceAdd, Nat.reduceEqDiff, Array.getD_eq_getD_getElem?] at e0
              go_simp
              exact hK _ _ (Below.refl _ _) rfl
            | _ + 25, h => exact absurd h (by omega)
          · intro a w hk hb hR
            have e := hR 24 (by omega)
            simp only [leaves, slotOf, if_true] at e
            obtain ⟨tm, df⟩ := a
            obtain ⟨_, hdf, _⟩ := hk
            simp only at hdf e
            subst hdf
            have E := Lib.hid e
            clear e hR
            go_wp2_with fail
            go_ret
            exact ⟨by rw [E.out], HB.out.trans (hb.mono HB.out.size)⟩

theorem walk (A1 A2 A3 : Option Addr) (c1 c2 c3 : Nat) (b1 b2 b3 : List UInt8) (w : World) (r1 : Rd w w.heap.size A1 (b1.map bv)) (r2 : Rd w w.heap.size A2 (b2.map bv)) (r3 : Rd w w.heap.size A3 (b3.map bv))
    (k1 : b1.length ≤ c1) (k2 : b2.length ≤ c2) (k3 : b3.length ≤ c3) (g1 : c1 ≤ maxLen) (g2 : c2 ≤ maxLen) (g3 : c3 ≤ maxLen) (ht : Tab w) :
    Calls Tryd.prog 7 #[.slice A1 b1.length c1, .slice A2 b2.length c2, .slice A3 b3.length c3] w fun e w' => e = .returned (.bool true) ∧ Below w.heap.size w w' := by
  have f1 := few_any w.heap.size A1 c1 b1 w r1 k1 g1
  have f2 := few_any w.heap.size A2 c2 b2 w r2 k2 g2
  have f3 := few_any w.heap.size A3 c3 b3 w r3 k3 g3
  unfold maxLen at g1 g2 g3
  have R : ∀ (A : Option Addr) (l : List UInt8), Rd w w.heap.size A (l.map bv) → Rd w w.heap.size A ((l.take 300).map bv) := fun A l h => by rw [List.map_take]; exact h.take 300
  have hl : ∀ l : List UInt8, (l.take 300).length ≤ 300 ∧ (l.take 300).length ≤ l.length := fun l => by rw [List.length_take]; omega
  have h1 := hl b1
  have h2 := hl b2
  have h3 := hl b3
  exact cut A1 A2 A3 _ b1.length c1 _ b2.length c2 _ b3.length c3 (b1.take 300) (b2.take 300) (b3.take 300) w rfl rfl rfl h1.1 h2.1 h3.1 (by omega) (by omega) (by omega) g1 g2 g3 (R A1 b1 r1) (R A2 b2 r2) (R A3 b3 r3) ht f1 f2 f3

set_option maxRecDepth 100000 in
theorem lifted (os : Os) (started : os.Started) (H : Type) (enc : TypeId × Value → H) :
    ReturnsInHanded {} Tryd.checked os 7 .any (fun w args => (Rows.crcThreeSpec.pre enc Tryd.prog Tryd.f7 [] false w args ∧ laidMetH Tryd.prog laidHalves w) ∧ sizedMet enc Tryd.prog Tryd.f7 (OpenSpec.ofChange Rows.crcThreeSpec) false w args) (Rows.crcThreeSpec.post enc Tryd.prog Tryd.f7 false true false false) := by
  refine returnsInHanded_of_change_and (C := Tryd.checked) (X := fun w _ => laidMetH Tryd.prog laidHalves w) (fun _ _ _ hh h => h.of_heap hh) own started (by kernel_rfl) Tryd.func7
    (ChangeSpec.witness_shaped (enc := enc) (C := Tryd.checked) (os := os) (X := fun w _ => laidMetH Tryd.prog laidHalves w) false (World.doorLaid Tryd.prog 400 os) #[.slice none 0 0, .slice none 0 0, .slice none 0 0] 8 rfl (World.shaped_of_RefB (by kernel_rfl) (by kernel_rfl)) (by kernel_rfl) (by kernel_rfl) (by kernel_rfl) (door_met os _)) ?_
  intro W base args ds gs before hval0 hW _ _ hL _
  have hTab := tab_of_laid hL
  have hval : ∀ (j : Nat) t v, Tryd.f7.params[j]? = some t → args[j]? = some v → Value.okWide Tryd.prog W .any base t v := hval0
  have hW' := hW
  obtain ⟨p, q, hA0, hV, rfl, hfz, hnd⟩ := hW
  have hA : DataW.TrodAll enc Tryd.prog W 0 (fun _ => true) true Tryd.f7.params.toList args.toList ds p := hA0
  rw [Tryd.params7] at hA hval
  obtain ⟨v0, vs0, d0, ds0, p0, q0, hargs, rfl, rfl, h0, r0⟩ := trodAll_cons hA
  obtain ⟨v1, vs1, d1, ds1, p1, q1, rfl, rfl, rfl, h1, r1⟩ := trodAll_cons r0
  obtain ⟨v2, vs2, d2, ds2, p2, q2, rfl, rfl, rfl, h2, r2⟩ := trodAll_cons r1
  obtain ⟨rfl, rfl, rfl⟩ := trodAll_nil r2
  obtain rfl : args = #[v0, v1, v2] := by cases args; simp_all
  obtain ⟨rfl, rfl⟩ := trodVars_none hV
  obtain ⟨a0, len0, cap0, rfl⟩ := okWide_slice Tryd.underlying23 (hval 0 23 v0 rfl rfl)
  have lt0 : ∀ x ∈ p0, x.block < W.heap.size := by obtain ⟨m, hm⟩ := h0; exact DataW.trod_lt m _ _ _ hm
  obtain ⟨x0, rfl, hc0, hm0, hr0⟩ := bytes_in Tryd.underlying23 Tryd.underlying5 (by kernel_rfl) h0
  obtain ⟨a1, len1, cap1, rfl⟩ := okWide_slice Tryd.underlying23 (hval 1 23 v1 rfl rfl)
  have lt1 : ∀ x ∈ p1, x.block < W.heap.size := by obtain ⟨m, hm⟩ := h1; exact DataW.trod_lt m _ _ _ hm
  obtain ⟨x1, rfl, hc1, hm1, hr1⟩ := bytes_in Tryd.underlying23 Tryd.underlying5 (by kernel_rfl) h1
  obtain ⟨a2, len2, cap2, rfl⟩ := okWide_slice Tryd.underlying23 (hval 2 23 v2 rfl rfl)
  have lt2 : ∀ x ∈ p2, x.block < W.heap.size := by obtain ⟨m, hm⟩ := h2; exact DataW.trod_lt m _ _ _ hm
  obtain ⟨x2, rfl, hc2, hm2, hr2⟩ := bytes_in Tryd.underlying23 Tryd.underlying5 (by kernel_rfl) h2
  clear hA0 hval0
  refine (walk a0 a1 a2 cap0 cap1 cap2 x0 x1 x2 W hr0 hr1 hr2 hc0 hc1 hc2 hm0 hm1 hm2 hTab).mono fun e W' ⟨he, bel⟩ => ?_
  subst he
  exact ⟨_, rfl, _, _, _, [], _, [], hW', trodAll_mk1 (shut_bool Tryd.underlying4 _), (trodAll_cons_mk (Below.trod laidOut (by kernel_rfl) (of_decide_eq_true (by kernel_rfl)) h0 bel lt0) (trodAll_cons_mk (Below.trod laidOut (by kernel_rfl) (of_decide_eq_true (by kernel_rfl)) h1 bel lt1) (trodAll_cons_mk (Below.trod laidOut (by kernel_rfl) (of_decide_eq_true (by kernel_rfl)) h2 bel lt2) trodAll_mk0))), rfl, bel.frame _, fun h => by cases h⟩

theorem over : Rows.crcThreeRow.holds Tryd.pinned (OpenSpec.ofChange Rows.crcThreeSpec) :=
  OpenClaim.holds_of_wide 7 Tryd.f7 rfl rfl rfl rfl rfl rfl rfl ⟨rfl, rfl, rfl, rfl, rfl⟩ rfl rfl rfl rfl rfl (by kernel_rfl) Tryd.func7 (by kernel_rfl)
    (of_decide_eq_true (by kernel_rfl)) (by unfold Func.isWrapper; first | (rw [if_pos (by decide +kernel)]; kernel_rfl) | (rw [if_neg (by decide +kernel)]; exact ⟨rfl, rfl⟩))
    (fun os started H enc _ => lifted os started H enc)

theorem proved : Rows.CrcThreeCardSaid :=
  Claim7.holds_tied_plain_at .later [] [.data] true _ false
    over (fun _ h => by cases h) (by kernel_rfl) (fun _ h => by cases h) crcThree_row_tie rfl ⟨rfl, rfl⟩ (by kernel_rfl) rfl
    (fun f fn hf hfn => by
      obtain rfl : f = 7 := Option.some.inj ((show Tryd.prog.funcNamed "haymow/haymowlaw02.CrcThree" = some 7 by kernel_rfl).symm.trans hf) |>.symm
      obtain rfl : fn = Tryd.f7 := (Option.some.inj (Tryd.func7.symm.trans hfn)).symm
      exact ⟨by kernel_rfl, fun j t ht => by
        rw [Tryd.params7] at ht
        have hm : t ∈ [23, 23, 23] := by simpa using Array.mem_of_getElem? ht
        have hall : ([23, 23, 23].all fun u => !Tryd.prog.wantsStandIn u) = true := by kernel_rfl
        exact (show Tryd.prog.wantsStandIn t = false by simpa using List.all_eq_true.1 hall t hm)⟩)
    (by kernel_rfl)
#print axioms proved
end Go.Proofs.YtngbkeaonkocmaaDoor.crcThree
