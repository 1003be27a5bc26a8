/-
  The block of any pointers is the document's, or refused, and is read as it was; whatever octets there are are the document's pointers, or refused with its error. Conditions: crc.halves holds what its text lays, tied to the program.
-/
import Derived.Test.YtjhnabhieihifaaDoorInoEq
import Derived.Test.YtjhnabhieihifaaDoorRef07b
import Derived.Test.YtjhnabhieihifaaDoorRef07c
import Derived.Test.YtjhnabhieihifaaDoorRef07d
import Derived.Test.YtjhnabhieihifaaDoorCrcTab
import Derived.Test.YtjhnabhieihifaaDoorOpenIno
import Derived.Test.YtjhnabhieihifaaDoorCards
import Derived.Test.YtjhnabhieihifaaDoorTie
import Derived.SevenTiedAt
import Derived.Deep.RegionHeld3
import Derived.BigQuiet
namespace Go.Proofs.YtjhnabhieihifaaDoor.inodeNodes
open Go.ChangeShapes Go.WideShapes Go.ChangeAt Go.RowKit
set_option maxRecDepth 100000
set_option linter.unusedVariables false

def slotN7 (i : Nat) : Nat := 81 + i
def waitN7 : Nat → List Nat
  | 1 => [0]
  | 3 => [2]
  | 4 => [1, 3]
  | 5 => [4]
  | 6 => [5]
  | 7 => [5, 6]
  | 8 => [5, 7]
  | 9 => [8]
  | 10 => [9]
  | 11 => [9]
  | 12 => [9, 10, 11]
  | 13 => [9, 12]
  | 14 => [13]
  | 15 => [14]
  | 16 => [14, 15]
  | 17 => [14, 16]
  | 18 => [17]
  | 19 => [18]
  | 20 => [18, 19]
  | 21 => [20]
  | _ => []
def leaveN7 (g c c7 : Nat) (A A7 : Option Addr) (B : List UInt8) : Nat → Value → World → Prop
  | 0, v, _ => v = .slice (some ⟨g, 0, none⟩) 128 128
  | 1, v, _ => v = .string (str B)
  | 2, v, _ => v = .slice A 15 c
  | 3, v, _ => v = .string (str B)
  | 4, v, _ => v = .bool true
  | 5, v, _ => v = .bool true
  | 6, v, _ => v = .int .i64 0
  | 7, v, _ => v = .bool true
  | 8, v, _ => v = .bool true
  | 9, v, _ => v = .bool true
  | 10, v, _ => v = .slice A7 15 c7
  | 11, v, _ => v = .slice A 15 c
  | 12, v, _ => v = .bool true
  | 13, v, _ => v = .bool true
  | 14, v, _ => v = .bool true
  | 15, v, _ => v = .int .i64 0
  | 16, v, _ => v = .bool true
  | 17, v, _ => v = .bool true
  | 18, v, _ => v = .bool true
  | 19, v, _ => v = .bool true
  | 20, v, _ => v = .bool true
  | _, _, _ => True

set_option maxHeartbeats 4000000 in
theorem cut_no (A : Option Addr) (n0 n c : Nat) (l : List Pr) (A' : Option Addr) (m c' : Nat) (bs0 : List UInt8) (w : World) (hn : l.length = n) (hn30 : n ≤ 30) (hr : Rd w w.heap.size A (prsV l)) (hs : prSums l) (hm : bs0.length = m) (hc' : m ≤ c') (hcm' : c' ≤ maxLen) (hr' : Rd w w.heap.size A' (bs0.map bv)) (hT : Tab w) (hno : n ≠ 15 ∨ l.all prOk = false)
    (hcm : c ≤ maxLen) (hcut : (n0 ≤ 30 ∧ n0 = n) ∨ (30 < n0 ∧ n = 30 ∧ (∃ b o, A = some ⟨b, o, none⟩) ∧ n0 ≤ c)) :
    Calls Tryd.prog 5 #[.slice A n0 c, .slice A' m c'] w fun e w' => e = .returned (.bool true) ∧ Below w.heap.size w w' := by
  obtain ⟨bs, hbs⟩ : ∃ bs, bs0.take 200 = bs := ⟨_, rfl⟩
  obtain ⟨k, hk⟩ : ∃ k, bs.length = k := ⟨_, rfl⟩
  obtain ⟨hkn, hk2⟩ := fit200 hm hbs hk
  have HF := Lib.hid (fewI_any w.heap.size A' m k c' bs0 w hm (by rw [hbs, hk]) hr' hc' hcm')
  have hR : Rd w w.heap.size A' (bs.map bv) := by rw [← hbs, List.map_take]; exact hr'.take 200
  obtain ⟨q, hq⟩ : ∃ q, nodQ bs = q := ⟨_, rfl⟩
  obtain ⟨P, hP⟩ : ∃ P, nodR bs = P := ⟨_, rfl⟩
  have HRE := Lib.hid (inoRead_any A' k c' bs q P w hk hR (by omega) hcm' hT hq hP)
  have HC : Hid (∀ w', Below w.heap.size w w' → (convert 28 9 (.slice A' k c')).run Tryd.prog w' = .ok (.string (str bs)) w') := fun w' hb =>
    run_conv 28 5 9 Tryd.underlying28 Tryd.underlying5 under_strI k c' hk (hR.below hb)
  have HRR := Lib.hid (fun w' => refReadI_any bs q P w' (by omega) hq hP)
  have HL := Lib.hid hn
  have HR := Lib.hid hr
  have HS := Lib.hid hs
  have HT := Lib.hid hT
  have HNO := Lib.hid hno
  clear hno
  unfold maxLen at hcm
  clear hn hr hs hm hc' hcm' hr' hT hbs hk hkn hk2 hR hq hP
  rcases hcut with ⟨h1, h3⟩ | ⟨h1, h3, ⟨b0, o0, rfl⟩, h2⟩
  case' inl => subst n0
  case' inr => subst h3
  case' inl => have hno : ¬ (30 : Int) < (n : Int) := by omega
  case' inr => have hyes : (30 : Int) < (n0 : Int) := by omega
  all_goals
    go_enter Tryd.func5, Tryd.ntmps5
    go_wp2_with fail
    refine HF.out.mono ?_
    rintro e w1 ⟨rfl, rfl⟩
    go_wp2_with fail
    refine HRE.out.mono ?_
    rintro e w1 ⟨A1, n1, c1, rfl, hl1, hn1, hc1, hr1, hb1⟩
    have HB1 := Lib.hid hb1
    have HR1 := Lib.hid hr1
    have HL1 := Lib.hid hl1
    have HN1 := Lib.hid (Nat.le_trans hn1 hc1)
    have hcv := HC.out w1 hb1
    clear hb1 hr1 hl1 hn1 hc1 HRE HF
    go_wp2_with fail
    refine (HRR.out w1).mono ?_
    rintro e w2 ⟨A2, n2, c2, rfl, hl2, hn2, hr2, hb2⟩
    have HB2 := Lib.hid (HB1.out.trans (hb2.mono HB1.out.size))
    have HR1 := Lib.hid ((HR1.out.below hb2).mono hb2.size)
    have HR2 := Lib.hid hr2
    have HL2 := Lib.hid hl2
    have HN2 := Lib.hid hn2
    clear hb2 hr2 hl2 hn2 hcv HB1
    go_wp2_with fail
    refine (refSameI_any w2.heap.size w2.heap.size A1 A2 n1 c1 n2 c2 P P true w2 HL1.out HL2.out (Nat.le_trans HN1.out (by omega)) (Nat.le_trans HN2.out (by omega)) HR1.out HR2.out (Nat.le_refl _) (Nat.le_refl _) ⟨fun _ => rfl, fun _ => rfl⟩).mono ?_
    rintro e w3 ⟨rfl, hb3⟩
    have HB3 := Lib.hid (HB2.out.trans (hb3.mono HB2.out.size))
    clear hb3 HB2 HR1 HR2 HL1 HL2 HN1 HN2
    go_wp2_with fail
    refine (node_no w.heap.size _ _ c l w3 HL.out (by omega) (HR.out.below HB3.out) HB3.out.size HNO.out).mono ?_
    rintro e w4 ⟨rfl, hb4⟩
    have HB4 := Lib.hid (HB3.out.trans (hb4.mono HB3.out.size))
    clear hb4 HB3
    go_wp2
    go_loopw [11, 12] (fun v i wr => ∃ (k : Nat) (q : Bool), k ≤ l.length ∧ i = .int .i64 k ∧ v = .bool q ∧ Hid (q = (decide (l.length = 15) && (l.take k).all prOk)) ∧ Hid (Below w.heap.size w wr)) (fun _ i _ => l.length - (intOf i).toNat)
    case atStart => exact ⟨0, _, Nat.zero_le _, rfl, rfl, by show _ = _; simp only [List.take_zero, List.all_nil, Bool.and_true]; rw [HL.out]; first | rfl | (rw [Bool.eq_iff_iff]; simp only [beq_iff_eq, decide_eq_true_eq]; omega), HB4.out⟩
    case round =>
      obtain ⟨k, q, hk, rfl, rfl, HQ, HB⟩ := hrel
      clear HB4
      by_cases hlt : k < l.length
      · have hlt' := hlt
        rw [HL.out] at hlt'
        obtain ⟨y, hy⟩ : ∃ y, l[k]? = some y := ⟨_, List.getElem?_eq_getElem (by have := HL.out; omega)⟩
        have HNX : Hid ((decide (l.length = 15) && (l.take (k + 1)).all prOk) = (q && prOk y)) := by
          show _ = _
          rw [HQ.out, List.take_add_one, hy, List.all_append, ← Bool.and_assoc]
          simp
        cases q
        · go_wp2
          go_roundw
          case rel => exact ⟨k + 1, false, by omega, by go_num, rfl, by show _ = _; rw [HNX.out]; rfl, HB.out⟩
          case measure => simp [intOf]; omega
        · have hc := HR.out.below HB.out
          obtain ⟨bA, oA, eA, _, _⟩ := hc.plain (by rw [prsV_length]; have := HL.out; omega)
          first | (injection eA with eA; injection eA with eb eo; subst b0 o0) | subst eA
          obtain ⟨n0', n1'⟩ := prsV_get l k y hy
          have c0 : wr.cell? ⟨bA, oA + k * 2, none⟩ = some (.int .i64 y.at_) := by obtain ⟨ad, e, _, hc⟩ := hc _ _ n0'; cases e; rwa [add_plain] at hc
          have c1' : wr.cell? ⟨bA, oA + k * 2 + 1, none⟩ = some (.int .u32 (y.sum : Int)) := by obtain ⟨ad, e, _, hc⟩ := hc _ _ n1'; cases e; rwa [add_plain, ← Nat.add_assoc] at hc
          obtain ⟨ok, hok⟩ : ∃ ok, prOk y = ok := ⟨_, rfl⟩
          have HO := Lib.hid (refPointer_any y ok wr hok)
          have HOK := Lib.hid hok
          clear hc n0' n1' hy hok
          go_wp2_with fail
          refine HO.out.mono ?_
          rintro e w6 ⟨rfl, hb6⟩
          have HB6 := Lib.hid (HB.out.trans (hb6.mono HB.out.size))
          clear hb6 c0 c1' HO
          go_wp2
          go_roundw
          case rel => exact ⟨k + 1, ok, by omega, by go_num, rfl, by show _ = _; rw [HNX.out, HOK.out]; rfl, HB6.out⟩
          case measure => simp [intOf]; omega
      · have hlt' := hlt
        rw [HL.out] at hlt'
        obtain rfl : q = false := by
          rw [HQ.out, List.take_of_length_le (by omega)]
          rcases HNO.out with h | h
          · rw [decide_eq_false (by rw [HL.out]; exact h)]; rfl
          · rw [h, Bool.and_false]
        go_wp2_with fail
        refine (awakeI_any _ (HT.out.up HB.out)).mono ?_
        rintro e w9 ⟨rfl, hb9⟩
        have HB9 := Lib.hid (HB.out.trans (hb9.mono HB.out.size))
        clear hb9
        go_wp2
        go_ret
        exact ⟨rfl, HB9.out⟩

set_option maxHeartbeats 8000000 in
theorem cut_yes (A : Option Addr) (n0 c : Nat) (l : List Pr) (A' : Option Addr) (m c' : Nat) (bs0 : List UInt8) (w : World) (hn : l.length = 15) (hn30 : 15 ≤ 30) (hr : Rd w w.heap.size A (prsV l)) (hs : prSums l) (hm : bs0.length = m) (hc' : m ≤ c') (hcm' : c' ≤ maxLen) (hr' : Rd w w.heap.size A' (bs0.map bv)) (hT : Tab w) (hok : l.all prOk = true)
    (hcm : c ≤ maxLen) (hcut : (n0 ≤ 30 ∧ n0 = 15) ∨ (30 < n0 ∧ 15 = 30 ∧ (∃ b o, A = some ⟨b, o, none⟩) ∧ n0 ≤ c)) :
    Calls Tryd.prog 5 #[.slice A n0 c, .slice A' m c'] w fun e w' => e = .returned (.bool true) ∧ Below w.heap.size w w' := by
  obtain ⟨bs, hbs⟩ : ∃ bs, bs0.take 200 = bs := ⟨_, rfl⟩
  obtain ⟨k, hk⟩ : ∃ k, bs.length = k := ⟨_, rfl⟩
  obtain ⟨hkn, hk2⟩ := fit200 hm hbs hk
  have HF := Lib.hid (fewI_any w.heap.size A' m k c' bs0 w hm (by rw [hbs, hk]) hr' hc' hcm')
  have hR : Rd w w.heap.size A' (bs.map bv) := by rw [← hbs, List.map_take]; exact hr'.take 200
  obtain ⟨q, hq⟩ : ∃ q, nodQ bs = q := ⟨_, rfl⟩
  obtain ⟨P, hP⟩ : ∃ P, nodR bs = P := ⟨_, rfl⟩
  have HRE := Lib.hid (inoRead_any A' k c' bs q P w hk hR (by omega) hcm' hT hq hP)
  have HC : Hid (∀ w', Below w.heap.size w w' → (convert 28 9 (.slice A' k c')).run Tryd.prog w' = .ok (.string (str bs)) w') := fun w' hb =>
    run_conv 28 5 9 Tryd.underlying28 Tryd.underlying5 under_strI k c' hk (hR.below hb)
  have HRR := Lib.hid (fun w' => refReadI_any bs q P w' (by omega) hq hP)
  have HL := Lib.hid hn
  have HR := Lib.hid hr
  have HS := Lib.hid hs
  have HT := Lib.hid hT
  have HOK := Lib.hid hok
  obtain ⟨B, hB⟩ : ∃ B, nodB l = B := ⟨_, rfl⟩
  have HBB := Lib.hid hB
  have HBL : Hid (B.length = 128) := by show _ = _; rw [← hB]; exact nodB_len l hn
  have HQ0 : Hid (nodQ B = 0) := by show _ = _; rw [← hB]; exact nodQ_nod hn hok hs
  have HR0 : Hid (nodR B = l) := by show _ = _; rw [← hB]; exact nodR_nod hn hok hs
  clear hok hB
  unfold maxLen at hcm
  clear hn hr hs hm hc' hcm' hr' hT hbs hk hkn hk2 hR hq hP
  rcases hcut with ⟨h1, h3⟩ | ⟨h1, h3, ⟨b0, o0, rfl⟩, h2⟩
  case' inl => subst n0
  case' inr => exact absurd h3 (by decide)
  case' inl => have hno : ¬ (30 : Int) < (15 : Int) := by omega
  all_goals
    go_enter Tryd.func5, Tryd.ntmps5
    go_wp2_with fail
    refine HF.out.mono ?_
    rintro e w1 ⟨rfl, rfl⟩
    go_wp2_with fail
    refine HRE.out.mono ?_
    rintro e w1 ⟨A1, n1, c1, rfl, hl1, hn1, hc1, hr1, hb1⟩
    have HB1 := Lib.hid hb1
    have HR1 := Lib.hid hr1
    have HL1 := Lib.hid hl1
    have HN1 := Lib.hid (Nat.le_trans hn1 hc1)
    have hcv := HC.out w1 hb1
    clear hb1 hr1 hl1 hn1 hc1 HRE HF
    go_wp2_with fail
    refine (HRR.out w1).mono ?_
    rintro e w2 ⟨A2, n2, c2, rfl, hl2, hn2, hr2, hb2⟩
    have HB2 := Lib.hid (HB1.out.trans (hb2.mono HB1.out.size))
    have HR1 := Lib.hid ((HR1.out.below hb2).mono hb2.size)
    have HR2 := Lib.hid hr2
    have HL2 := Lib.hid hl2
    have HN2 := Lib.hid hn2
    clear hb2 hr2 hl2 hn2 hcv HB1
    go_wp2_with fail
    refine (refSameI_any w2.heap.size w2.heap.size A1 A2 n1 c1 n2 c2 P P true w2 HL1.out HL2.out (Nat.le_trans HN1.out (by omega)) (Nat.le_trans HN2.out (by omega)) HR1.out HR2.out (Nat.le_refl _) (Nat.le_refl _) ⟨fun _ => rfl, fun _ => rfl⟩).mono ?_
    rintro e w3 ⟨rfl, hb3⟩
    have HB3 := Lib.hid (HB2.out.trans (hb3.mono HB2.out.size))
    clear hb3 HB2 HR1 HR2 HL1 HL2 HN1 HN2
    go_wp2_with fail
    refine (node_yes w.heap.size A c l w3 HL.out (HR.out.below HB3.out) HB3.out.size HOK.out HS.out (HT.out.up HB3.out)).mono ?_
    rintro e w4 ⟨g, rfl, hg, hbk, hb4⟩
    have HB4 := Lib.hid (HB3.out.trans (hb4.mono HB3.out.size))
    rw [HBB.out] at hbk
    have HBK4 := Lib.hid hbk
    clear hb4 hg hbk HB3
    go_wp2
    go_loopw [11, 12] (fun v i wr => ∃ k : Nat, k ≤ 15 ∧ i = .int .i64 k ∧ v = .bool true ∧ Hid (Below w4.heap.size w4 wr)) (fun _ i _ => 15 - (intOf i).toNat)
    case atStart => exact ⟨0, Nat.zero_le _, rfl, rfl, Below.refl _ _⟩
    case round =>
      obtain ⟨k, hk, rfl, rfl, HB⟩ := hrel
      by_cases hlt : k < 15
      · obtain ⟨y, hy⟩ : ∃ y, l[k]? = some y := ⟨_, List.getElem?_eq_getElem (by have := HL.out; omega)⟩
        have hc := HR.out.below (HB4.out.trans (HB.out.mono HB4.out.size))
        obtain ⟨bA, oA, eA, _, _⟩ := hc.plain (by rw [prsV_length]; have := HL.out; omega)
        first | (injection eA with eA; injection eA with eb eo; subst b0 o0) | subst eA
        obtain ⟨n0', n1'⟩ := prsV_get l k y hy
        have c0 : wr.cell? ⟨bA, oA + k * 2, none⟩ = some (.int .i64 y.at_) := by obtain ⟨ad, e, _, hc⟩ := hc _ _ n0'; cases e; rwa [add_plain] at hc
        have c1' : wr.cell? ⟨bA, oA + k * 2 + 1, none⟩ = some (.int .u32 (y.sum : Int)) := by obtain ⟨ad, e, _, hc⟩ := hc _ _ n1'; cases e; rwa [add_plain, ← Nat.add_assoc] at hc
        have HO := Lib.hid (refPointer_any y true wr (List.all_eq_true.1 HOK.out y (List.mem_of_getElem? hy)))
        clear hc n0' n1' hy
        go_wp2_with fail
        refine HO.out.mono ?_
        rintro e w6 ⟨rfl, hb6⟩
        have HB6 := Lib.hid (HB.out.trans (hb6.mono HB.out.size))
        clear hb6 c0 c1' HO
        go_wp2
        go_roundw
        case rel => exact ⟨k + 1, by omega, by go_num, rfl, HB6.out⟩
        case measure => simp [intOf]; omega
      · have HBR := Lib.hid (HB4.out.trans (HB.out.mono HB4.out.size))
        have HRB : Hid (∀ w', Below wr.heap.size wr w' → Rd w' w'.heap.size (some ⟨g, 0, none⟩) (B.map bv)) := fun w' hb => by
          have h := HBK4.out.below (HB.out.trans (hb.mono HB.out.size)) HBK4.out.lt
          simpa using Rd.bk h
        go_wp2_with fail
        refine (inoRead_any (some ⟨g, 0, none⟩) 128 128 B 0 l wr HBL.out (HRB.out wr (Below.refl _ _)) (Nat.le_refl _) (by simp [maxLen]) (HT.out.up HBR.out) HQ0.out HR0.out).mono ?_
        rintro e w7 ⟨A7, n7, c7, rfl, hl7, hn7, hc7, hr7, hb7⟩
        obtain rfl : n7 = 15 := hl7.symm.trans HL.out
        have HB7 := Lib.hid (HBR.out.trans (hb7.mono HBR.out.size))
        have HB67 := Lib.hid hb7
        have HR7 := Lib.hid hr7
        clear hb7 hr7 hl7
        go_wp2_with fail
        have HCX : Hid (∀ w', Below w7.heap.size w7 w' → (convert 28 9 (.slice (some ⟨g, 0, none⟩) 128 128)).run Tryd.prog w' = .ok (.string (str B)) w') := fun w' hb =>
          run_conv 28 5 9 Tryd.underlying28 Tryd.underlying5 under_strI 128 128 HBL.out (HRB.out _ (HB67.out.trans (hb.mono HB67.out.size)))
        have HRN := Lib.hid (fun w' (hb : Below w7.heap.size w7 w') => by
          have h := refNodeI_any w.heap.size A c l w' HL.out (HR.out.below (HB7.out.trans (hb.mono HB7.out.size))) (HB7.out.trans (hb.mono HB7.out.size)).size (List.all_eq_true.1 HOK.out) HS.out
          rw [HBB.out] at h
          exact h)
        have HSM := Lib.hid (fun w' (hb : Below w7.heap.size w7 w') => refSameI_any w7.heap.size w.heap.size A7 A 15 c7 15 c l l true w' HL.out HL.out (by omega) (by omega) (HR7.out.below hb) (HR.out.below (HB7.out.trans (hb.mono HB7.out.size))) hb.size (HB7.out.trans (hb.mono HB7.out.size)).size ⟨fun _ => rfl, fun _ => rfl⟩)
        have HAW := Lib.hid (fun w' (hb : Below w7.heap.size w7 w') => awakeI_any w' (HT.out.up (HB7.out.trans (hb.mono HB7.out.size))))
        refine wp_region_tail (by kernel_rfl) 21 102 slotN7 waitN7 (leaveN7 g c c7 A A7 B) rfl
          (by kernel_rfl) (fun i v w w' _ _ h => by unfold leaveN7 at *; split at h <;> exact h) ?_ ?_
        · intro i hi
          match i, hi with
          | 0, _ =>
            intro o ho a wc hk hb hd K hK
            cases ho
            have e0 := hk.rest 9 (.slice (some ⟨g, 0, none⟩) 128 128) (by omega) (by kernel_rfl) rfl
            rw [Array.getD_eq_getD_getElem?] at e0
            go_simp
            exact hK _ _ (Below.refl _ _) rfl
          | 1, _ =>
            intro o ho a wc hk hb hd K hK
            cases ho
            have e0 := hd 0 (by simp [waitN7])
            simp only [leaveN7, slotN7, Nat.reduceAdd, Array.getD_eq_getD_getElem?] at e0
            have hcv := HCX.out wc hb
            go_simp
            exact hK _ _ (Below.refl _ _) rfl
          | 2, _ =>
            intro o ho a wc hk hb hd K hK
            cases ho
            have e0 := hk.rest 0 (.slice A 15 c) (by omega) (by kernel_rfl) rfl
            rw [Array.getD_eq_getD_getElem?] at e0
            go_simp
            exact hK _ _ (Below.refl _ _) rfl
          | 3, _ =>
            intro o ho a wc hk hb hd K hK
            cases ho
            have e0 := hd 2 (by simp [waitN7])
            simp only [leaveN7, slotN7, Nat.reduceAdd, Array.getD_eq_getD_getElem?] at e0
            go_simp
            refine (HRN.out wc hb).mono ?_
            rintro e w9 ⟨rfl, hw9⟩
            exact hK _ _ hw9 rfl
          | 4, _ =>
            intro o ho a wc hk hb hd K hK
            cases ho
            have e0 := hd 1 (by simp [waitN7])
            have e1 := hd 3 (by simp [waitN7])
            simp only [leaveN7, slotN7, Nat.reduceAdd, Array.getD_eq_getD_getElem?] at e0 e1
            go_simp
            exact hK _ _ (Below.refl _ _) rfl
          | 5, _ =>
            intro o ho a wc hk hb hd K hK
            cases ho
            have e0 := hd 4 (by simp [waitN7])
            simp only [leaveN7, slotN7, Nat.reduceAdd, Array.getD_eq_getD_getElem?] at e0
            go_simp
            exact hK _ _ (Below.refl _ _) rfl
          | 6, _ =>
            intro o ho a wc hk hb hd K hK
            cases ho
            have e0 := hk.rest 10 (.int .i64 0) (by omega) (by kernel_rfl) rfl
            rw [Array.getD_eq_getD_getElem?] at e0
            have e1 := hd 5 (by simp [waitN7])
            simp only [leaveN7, slotN7, Nat.reduceAdd, Array.getD_eq_getD_getElem?] at e1
            have gs := hk.some_ (s := 86) (by omega) e1
            go_simp
            exact hK _ _ (Below.refl _ _) rfl
          | 7, _ =>
            intro o ho a wc hk hb hd K hK
            cases ho
            have e0 := hd 5 (by simp [waitN7])
            have e1 := hd 6 (by simp [waitN7])
            simp only [leaveN7, slotN7, Nat.reduceAdd, Array.getD_eq_getD_getElem?] at e0 e1
            have gs := hk.some_ (s := 86) (by omega) e0
            go_simp
            exact hK _ _ (Below.refl _ _) rfl
          | 8, _ =>
            intro o ho a wc hk hb hd K hK
            cases ho
            have e0 := hd 5 (by simp [waitN7])
            have e1 := hd 7 (by simp [waitN7])
            simp only [leaveN7, slotN7, Nat.reduceAdd, Array.getD_eq_getD_getElem?] at e0 e1
            go_simp
            exact hK _ _ (Below.refl _ _) rfl
          | 9, _ =>
            intro o ho a wc hk hb hd K hK
            cases ho
            have e0 := hd 8 (by simp [waitN7])
            simp only [leaveN7, slotN7, Nat.reduceAdd, Array.getD_eq_getD_getElem?] at e0
            go_simp
            exact hK _ _ (Below.refl _ _) rfl
          | 10, _ =>
            intro o ho a wc hk hb hd K hK
            cases ho
            have e0 := hk.rest 13 (.slice A7 15 c7) (by omega) (by kernel_rfl) rfl
            rw [Array.getD_eq_getD_getElem?] at e0
            have e1 := hd 9 (by simp [waitN7])
            simp only [leaveN7, slotN7, Nat.reduceAdd, Array.getD_eq_getD_getElem?] at e1
            have gs := hk.some_ (s := 90) (by omega) e1
            go_simp
            exact hK _ _ (Below.refl _ _) rfl
          | 11, _ =>
            intro o ho a wc hk hb hd K hK
            cases ho
            have e0 := hk.rest 0 (.slice A 15 c) (by omega) (by kernel_rfl) rfl
            rw [Array.getD_eq_getD_getElem?] at e0
            have e1 := hd 9 (by simp [waitN7])
            simp only [leaveN7, slotN7, Nat.reduceAdd, Array.getD_eq_getD_getElem?] at e1
            have gs := hk.some_ (s := 90) (by omega) e1
            go_simp
            exact hK _ _ (Below.refl _ _) rfl
          | 12, _ =>
            intro o ho a wc hk hb hd K hK
            cases ho
            have e0 := hd 9 (by simp [waitN7])
            have e1 := hd 10 (by simp [waitN7])
            have e2 := hd 11 (by simp [waitN7])
            simp only [leaveN7, slotN7, Nat.reduceAdd, Array.getD_eq_getD_getElem?] at e0 e1 e2
            have gs := hk.some_ (s := 90) (by omega) e0
            go_simp
            refine (HSM.out wc hb).mono ?_
            rintro e w9 ⟨rfl, hw9⟩
            exact hK _ _ hw9 rfl
          | 13, _ =>
            intro o ho a wc hk hb hd K hK
            cases ho
            have e0 := hd 9 (by simp [waitN7])
            have e1 := hd 12 (by simp [waitN7])
            simp only [leaveN7, slotN7, Nat.reduceAdd, Array.getD_eq_getD_getElem?] at e0 e1
            go_simp
            exact hK _ _ (Below.refl _ _) rfl
          | 14, _ =>
            intro o ho a wc hk hb hd K hK
            cases ho
            have e0 := hd 13 (by simp [waitN7])
            simp only [leaveN7, slotN7, Nat.reduceAdd, Array.getD_eq_getD_getElem?] at e0
            go_simp
            exact hK _ _ (Below.refl _ _) rfl
          | 15, _ =>
            intro o ho a wc hk hb hd K hK
            cases ho
            have e0 := hk.rest 14 (.int .i64 0) (by omega) (by kernel_rfl) rfl
            rw [Array.getD_eq_getD_getElem?] at e0
            have e1 := hd 14 (by simp [waitN7])
            simp only [leaveN7, slotN7, Nat.reduceAdd, Array.getD_eq_getD_getElem?] at e1
            have gs := hk.some_ (s := 95) (by omega) e1
            go_simp
            exact hK _ _ (Below.refl _ _) rfl
          | 16, _ =>
            intro o ho a wc hk hb hd K hK
            cases ho
            have e0 := hd 14 (by simp [waitN7])
            have e1 := hd 15 (by simp [waitN7])
            simp only [leaveN7, slotN7, Nat.reduceAdd, Array.getD_eq_getD_getElem?] at e0 e1
            have gs := hk.some_ (s := 95) (by omega) e0
            go_simp
            exact hK _ _ (Below.refl _ _) rfl
          | 17, _ =>
            intro o ho a wc hk hb hd K hK
            cases ho
            have e0 := hd 14 (by simp [waitN7])
            have e1 := hd 16 (by simp [waitN7])
            simp only [leaveN7, slotN7, Nat.reduceAdd, Array.getD_eq_getD_getElem?] at e0 e1
            go_simp
            exact hK _ _ (Below.refl _ _) rfl
          | 18, _ =>
            intro o ho a wc hk hb hd K hK
            cases ho
            have e0 := hd 17 (by simp [waitN7])
            simp only [leaveN7, slotN7, Nat.reduceAdd, Array.getD_eq_getD_getElem?] at e0
            go_simp
            exact hK _ _ (Below.refl _ _) rfl
          | 19, _ =>
            intro o ho a wc hk hb hd K hK
            cases ho
            have e0 := hd 18 (by simp [waitN7])
            simp only [leaveN7, slotN7, Nat.reduceAdd, Array.getD_eq_getD_getElem?] at e0
            have gs := hk.some_ (s := 99) (by omega) e0
            go_simp
            refine (HAW.out wc hb).mono ?_
            rintro e w9 ⟨rfl, hw9⟩
            exact hK _ _ hw9 rfl
          | 20, _ =>
            intro o ho a wc hk hb hd K hK
            cases ho
            have e0 := hd 18 (by simp [waitN7])
            have e1 := hd 19 (by simp [waitN7])
            simp only [leaveN7, slotN7, Nat.reduceAdd, Array.getD_eq_getD_getElem?] at e0 e1
            go_simp
            exact hK _ _ (Below.refl _ _) rfl
          | _ + 21, h => exact absurd h (by omega)
        · intro vals w9 hb hR
          have v0 := hR 0 (by omega)
          have v1 := hR 1 (by omega)
          have v2 := hR 2 (by omega)
          have v3 := hR 3 (by omega)
          have v4 := hR 4 (by omega)
          have v5 := hR 5 (by omega)
          have v6 := hR 6 (by omega)
          have v7 := hR 7 (by omega)
          have v8 := hR 8 (by omega)
          have v9 := hR 9 (by omega)
          have v10 := hR 10 (by omega)
          have v11 := hR 11 (by omega)
          have v12 := hR 12 (by omega)
          have v13 := hR 13 (by omega)
          have v14 := hR 14 (by omega)
          have v15 := hR 15 (by omega)
          have v16 := hR 16 (by omega)
          have v17 := hR 17 (by omega)
          have v18 := hR 18 (by omega)
          have v19 := hR 19 (by omega)
          have v20 := hR 20 (by omega)
          simp only [leaveN7] at v0 v1 v2 v3 v4 v5 v6 v7 v8 v9 v10 v11 v12 v13 v14 v15 v16 v17 v18 v19 v20
          clear hR
          simp only [putAll, slotN7, Nat.reduceAdd, List.setIfInBounds_toArray, List.set_cons_zero, List.set_cons_succ, List.drop_succ_cons, List.drop_zero, v0, v1, v2, v3, v4, v5, v6, v7, v8, v9, v10, v11, v12, v13, v14, v15, v16, v17, v18, v19, v20]
          clear v0 v1 v2 v3 v4 v5 v6 v7 v8 v9 v10 v11 v12 v13 v14 v15 v16 v17 v18 v19 v20
          have HB9 := Lib.hid (HB7.out.trans (hb.mono HB7.out.size))
          clear hb
          go_wp2
          go_ret
          exact ⟨rfl, HB9.out⟩

theorem walk (A : Option Addr) (n0 c : Nat) (l0 : List Pr) (A' : Option Addr) (m c' : Nat) (bs0 : List UInt8) (w : World) (hn : l0.length = n0) (hc : n0 ≤ c) (hcm : c ≤ maxLen) (hr : Rd w w.heap.size A (prsV l0)) (hs : prSums l0) (hm : bs0.length = m) (hc' : m ≤ c') (hcm' : c' ≤ maxLen) (hr' : Rd w w.heap.size A' (bs0.map bv)) (hT : Tab w) :
    Calls Tryd.prog 5 #[.slice A n0 c, .slice A' m c'] w fun e w' => e = .returned (.bool true) ∧ Below w.heap.size w w' := by
  have hR : Rd w w.heap.size A (prsV (l0.take 30)) := by rw [prsV_take]; exact hr.take _
  have hl := List.length_take (i := 30) (l := l0)
  have hcut : (n0 ≤ 30 ∧ n0 = (l0.take 30).length) ∨ (30 < n0 ∧ (l0.take 30).length = 30 ∧ (∃ b o, A = some ⟨b, o, none⟩) ∧ n0 ≤ c) := by
    by_cases h : n0 ≤ 30
    · exact .inl ⟨h, by omega⟩
    · obtain ⟨b, o, rfl, _, _⟩ := hr.plain (by rw [prsV_length]; omega)
      exact .inr ⟨by omega, by omega, ⟨b, o, rfl⟩, hc⟩
  obtain ⟨n, hnn⟩ : ∃ n, (l0.take 30).length = n := ⟨_, rfl⟩
  rw [hnn] at hcut
  by_cases h : n = 15 ∧ (l0.take 30).all prOk = true
  · obtain ⟨rfl, hok⟩ := h
    exact cut_yes A n0 c (l0.take 30) A' m c' bs0 w hnn (by omega) hR (prSums_take hs 30) hm hc' hcm' hr' hT hok hcm hcut
  · refine cut_no A n0 n c (l0.take 30) A' m c' bs0 w hnn (by omega) hR (prSums_take hs 30) hm hc' hcm' hr' hT ?_ hcm hcut
    by_cases h1 : n = 15
    · right
      cases h2 : (l0.take 30).all prOk with
      | false => rfl
      | true => exact absurd ⟨h1, h2⟩ h
    · exact .inl h1

set_option maxRecDepth 100000 in
theorem lifted (os : Os) (started : os.Started) (H : Type) (enc : TypeId × Value → H) :
    ReturnsInHanded {} Tryd.checked os 5 .any (fun w args => (Rows.inodeNodesSpec.pre enc Tryd.prog Tryd.f5 [] false w args ∧ laidMetH Tryd.prog laidHalves w) ∧ sizedMet enc Tryd.prog Tryd.f5 (OpenSpec.ofChange Rows.inodeNodesSpec) false w args) (Rows.inodeNodesSpec.post enc Tryd.prog Tryd.f5 false true false false) := by
  refine returnsInHanded_of_change_and (C := Tryd.checked) (X := fun w _ => laidMetH Tryd.prog laidHalves w) (fun _ _ _ hh h => h.of_heap hh) own started (by kernel_rfl) Tryd.func5
    (ChangeSpec.witness_shaped (enc := enc) (C := Tryd.checked) (os := os) (X := fun w _ => laidMetH Tryd.prog laidHalves w) false (World.doorLaid Tryd.prog 400 os) #[.slice none 0 0, .slice none 0 0] 8 rfl (World.shaped_of_RefB (by kernel_rfl) (by kernel_rfl)) (by kernel_rfl) (by kernel_rfl) (by kernel_rfl) (door_met os _)) ?_
  intro W base args ds gs before hval0 hW _ _ hL _
  have hTab := tab_of_laid hL
  have hval : ∀ (j : Nat) t v, Tryd.f5.params[j]? = some t → args[j]? = some v → Value.okWide Tryd.prog W .any base t v := hval0
  have hW' := hW
  obtain ⟨p, q, hA0, hV, rfl, hfz, hnd⟩ := hW
  have hA : DataW.TrodAll enc Tryd.prog W 0 (fun _ => true) true Tryd.f5.params.toList args.toList ds p := hA0
  rw [Tryd.params5] at hA hval
  obtain ⟨v0, vs0, d0, ds0, p0, q0, hargs, rfl, rfl, h0, r0⟩ := trodAll_cons hA
  obtain ⟨v1, vs1, d1, ds1, p1, q1, rfl, rfl, rfl, h1, r1⟩ := trodAll_cons r0
  obtain ⟨rfl, rfl, rfl⟩ := trodAll_nil r1
  obtain rfl : args = #[v0, v1] := by cases args; simp_all
  obtain ⟨rfl, rfl⟩ := trodVars_none hV
  obtain ⟨a0, len0, cap0, rfl⟩ := okWide_slice Tryd.underlying42 (hval 0 42 v0 rfl rfl)
  have lt0 : ∀ x ∈ p0, x.block < W.heap.size := by obtain ⟨m, hm⟩ := h0; exact DataW.trod_lt m _ _ _ hm
  obtain ⟨x0, hl0, hc0, hm0, hr0, hs0⟩ := ptrs_in h0
  obtain ⟨a1, len1, cap1, rfl⟩ := okWide_slice Tryd.underlying28 (hval 1 28 v1 rfl rfl)
  have lt1 : ∀ x ∈ p1, x.block < W.heap.size := by obtain ⟨m, hm⟩ := h1; exact DataW.trod_lt m _ _ _ hm
  obtain ⟨x1, rfl, hc1, hm1, hr1⟩ := bytes_in Tryd.underlying28 Tryd.underlying5 (by kernel_rfl) h1
  clear hA0 hval0
  refine (walk a0 _ cap0 x0 a1 _ cap1 x1 W hl0 hc0 hm0 hr0 hs0 rfl hc1 hm1 hr1 hTab).mono fun e W' ⟨he, bel⟩ => ?_
  subst he
  exact ⟨_, rfl, _, _, _, [], _, [], hW', trodAll_mk1 (shut_bool Tryd.underlying4 _), (trodAll_cons_mk (Below.trod laidOut (by kernel_rfl) (of_decide_eq_true (by kernel_rfl)) h0 bel lt0) (trodAll_cons_mk (Below.trod laidOut (by kernel_rfl) (of_decide_eq_true (by kernel_rfl)) h1 bel lt1) trodAll_mk0)), rfl, bel.frame _, fun h => by cases h⟩

theorem over : Rows.inodeNodesRow.holds Tryd.pinned (OpenSpec.ofChange Rows.inodeNodesSpec) :=
  OpenClaim.holds_of_wide 5 Tryd.f5 rfl rfl rfl rfl rfl rfl rfl ⟨rfl, rfl, rfl, rfl, rfl⟩ rfl rfl rfl rfl rfl (by kernel_rfl) Tryd.func5 (by kernel_rfl)
    (of_decide_eq_true (by kernel_rfl)) (by unfold Func.isWrapper; first | (rw [if_pos (by decide +kernel)]; kernel_rfl) | (rw [if_neg (by decide +kernel)]; exact ⟨rfl, rfl⟩))
    (fun os started H enc _ => lifted os started H enc)

theorem proved : Rows.InodeNodesCardSaid :=
  Claim7.holds_tied_plain_at .later [] [.data] true _ false
    over (fun _ h => by cases h) (by kernel_rfl) (fun _ h => by cases h) inodeNodes_row_tie rfl ⟨rfl, rfl⟩ (by kernel_rfl) rfl
    (fun f fn hf hfn => by
      obtain rfl : f = 5 := Option.some.inj ((show Tryd.prog.funcNamed "haymow/haymowlaw07.InodeNodes" = some 5 by kernel_rfl).symm.trans hf) |>.symm
      obtain rfl : fn = Tryd.f5 := (Option.some.inj (Tryd.func5.symm.trans hfn)).symm
      exact ⟨by kernel_rfl, fun j t ht => by
        rw [Tryd.params5] at ht
        have hm : t ∈ [42, 28] := by simpa using Array.mem_of_getElem? ht
        have hall : ([42, 28].all fun u => !Tryd.prog.wantsStandIn u) = true := by kernel_rfl
        exact (show Tryd.prog.wantsStandIn t = false by simpa using List.all_eq_true.1 hall t hm)⟩)
    (by kernel_rfl)
#print axioms proved
end Go.Proofs.YtjhnabhieihifaaDoor.inodeNodes
