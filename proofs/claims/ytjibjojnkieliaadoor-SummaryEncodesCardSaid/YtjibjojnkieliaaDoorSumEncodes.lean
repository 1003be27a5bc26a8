/-
  Every part that may be has the document's summary, and is decoded as it was; others have none. Conditions: crc.halves holds what its text lays, tied to the program.
-/
import Derived.Test.YtjibjojnkieliaaDoorSumAwake
import Derived.Test.YtjibjojnkieliaaDoorCrcTab
import Derived.Test.YtjibjojnkieliaaDoorOpenPart
import Derived.Test.YtjibjojnkieliaaDoorRegTail
import Derived.Test.YtjibjojnkieliaaDoorCards
import Derived.Test.YtjibjojnkieliaaDoorTie
import Derived.SevenTiedAt
import Derived.Deep.RegionHeld3
import Derived.BigQuiet
namespace Go.Proofs.YtjibjojnkieliaaDoor.summaryEncodes
open Go.ChangeShapes Go.WideShapes Go.ChangeAt Go.RowKit
set_option linter.unusedVariables false

def slotE3 (i : Nat) : Nat := 16 + i
def waitE3 : Nat → List Nat
  | 1 => [0]
  | 3 => [2]
  | 4 => [1, 3]
  | _ => []
def leaveE3 (g0 : Nat) (s x : Int) (f : Bool) (A : Option Addr) (m c : Nat) (t : Bool) : Nat → Value → World → Prop
  | 0, v, _ => v = .agg #[.int .i64 s, .int .i64 x, .bool f, .slice A m c]
  | 1, v, _ => v = .bool t
  | 2, v, _ => v = .agg #[.int .i64 s, .int .i64 x, .bool f, .slice A m c]
  | 3, v, _ => v = .bool t
  | _, _, _ => True
def slotE8 (i : Nat) : Nat := 39 + i
def waitE8 : Nat → List Nat
  | 1 => [0]
  | 3 => [2]
  | 4 => [1, 3]
  | 5 => [4]
  | 6 => [5]
  | 7 => [5, 6]
  | 8 => [5, 7]
  | 9 => [8]
  | 10 => [9]
  | 11 => [9]
  | 12 => [9, 10, 11]
  | 13 => [9, 12]
  | 14 => [13]
  | 15 => [14]
  | 16 => [14, 15]
  | 17 => [14, 16]
  | 18 => [17]
  | _ => []
def leaveE8 (g : Nat) (s x : Int) (f : Bool) (A A2 : Option Addr) (m c c2 : Nat) (B : List UInt8) : Nat → Value → World → Prop
  | 0, v, _ => v = .slice (some ⟨g, 0, none⟩) 128 128
  | 1, v, _ => v = .string (str B)
  | 2, v, _ => v = .agg #[.int .i64 s, .int .i64 x, .bool f, .slice A m c]
  | 3, v, _ => v = .string (str B)
  | 4, v, _ => v = .bool true
  | 5, v, _ => v = .bool true
  | 6, v, _ => v = .int .i64 0
  | 7, v, _ => v = .bool true
  | 8, v, _ => v = .bool true
  | 9, v, _ => v = .bool true
  | 10, v, _ => v = .agg #[.int .i64 s, .int .i64 x, .bool f, .slice A2 m c2]
  | 11, v, _ => v = .agg #[.int .i64 s, .int .i64 x, .bool f, .slice A m c]
  | 12, v, _ => v = .bool true
  | 13, v, _ => v = .bool true
  | 14, v, _ => v = .bool true
  | 15, v, _ => v = .int .i64 0
  | 16, v, _ => v = .bool true
  | 17, v, _ => v = .bool true
  | _, _, _ => True

set_option maxRecDepth 100000 in
set_option maxHeartbeats 2000000 in
theorem no_ (s x : Int) (f : Bool) (A : Option Addr) (n m c : Nat) (l L : List En) (w : World) (hl : L.length = m) (hc : n ≤ c) (hm : m ≤ 20) (hr : Rd w w.heap.size A (ensV L)) (ht : Tab w)
    (hfew : ∀ w', Below w.heap.size w w' → Calls Tryd.prog 8 #[.slice A n c] w' fun e w'' => e = .returned (.slice A m c) ∧ w' = w'') (hok : ptOk ⟨s, x, f, L⟩ = false) :
    Calls Tryd.prog 3 #[ptV s x f A n c] w fun e w' => e = .returned (.bool true) ∧ Below w.heap.size w w' := by
  unfold ptV
  have HFEW := Lib.hid hfew
  have HL := Lib.hid hl
  have HR := Lib.hid hr
  have HT := Lib.hid ht
  have HOK := Lib.hid hok
  have K0 := Bk.new w 24 #[.int .i64 s, .int .i64 x, .bool f, .slice A n c]
  have HB0 := Lib.hid ((Below.refl w.heap.size w).alloc (Nat.le_refl _) (.cells #[.int .i64 s, .int .i64 x, .bool f, .slice A n c] 24))
  obtain ⟨k0, k1, k2, k3, f0, f1, f2, f3⟩ := ent_cells K0
  have K1 := Lib.hid (ent3 K0 (.slice A m c))
  clear hfew hl hr ht hok
  go_enter Tryd.func3, Tryd.ntmps3
  go_wp2_with fail
  refine (HFEW.out _ HB0.out).mono ?_
  rintro e w1 ⟨rfl, hw1⟩
  have K1' := K1.out
  have HB1 : Hid (Below w.heap.size w (w1.setCell ⟨w.heap.size, 3, none⟩ (.slice A m c))) := by rw [← hw1]; exact HB0.out.setCell (p := ⟨w.heap.size, 3, none⟩) (Nat.le_refl _) _
  rw [hw1] at k0 k1 k2 k3 f0 f1 f2 f3 K1'
  have HW1 := Lib.hid hw1
  clear hw1 K0 K1
  have HK1 := Lib.hid K1'
  obtain ⟨c0, c1, c2, c3, -⟩ := ent_cells K1'
  clear K1'
  obtain ⟨w2, hw2⟩ : ∃ w2, w1.setCell ⟨w.heap.size, 3, none⟩ (.slice A m c) = w2 := ⟨_, rfl⟩
  rw [hw2] at HB1 HK1 c0 c1 c2 c3
  have hw2 := Lib.hid hw2
  go_wp2_with fail
  first | rw [hw2.out] | skip
  have HEN := sumEncode_no s x f w.heap.size A m c L w2 HL.out (by omega) (HR.out.below HB1.out) HB1.out.size HOK.out
  unfold ptV at HEN
  refine HEN.mono ?_
  rintro e w3 ⟨rfl, hb3⟩
  have HB3 := Lib.hid (HB1.out.trans (hb3.mono HB1.out.size))
  have HK3 := Lib.hid (HK1.out.below hb3 HK1.out.lt)
  have HKP : Hid (∀ w', Below w3.heap.size w3 w' → Bk w' w.heap.size 24 #[.int .i64 s, .int .i64 x, .bool f, .slice A m c]) := fun w' hb => HK3.out.below hb HK3.out.lt
  have HMAY : Hid (∀ w', Below w3.heap.size w3 w' → Calls Tryd.prog 10 #[.agg #[.int .i64 s, .int .i64 x, .bool f, .slice A m c]] w' fun e w'' => e = .returned (.bool false) ∧ Below w'.heap.size w' w'') := fun w' hb => by
    have hbb := HB3.out.trans (hb.mono HB3.out.size)
    have h := sumMay_any s x f w.heap.size A m c L false w' HL.out (by omega) (HR.out.below hbb) hbb.size HOK.out
    unfold ptV at h
    exact h
  have HRMAY : Hid (∀ w', Below w3.heap.size w3 w' → Calls Tryd.prog 11 #[.agg #[.int .i64 s, .int .i64 x, .bool f, .slice A m c]] w' fun e w'' => e = .returned (.bool false) ∧ Below w'.heap.size w' w'') := fun w' hb => by
    have hbb := HB3.out.trans (hb.mono HB3.out.size)
    have h := refMay_any s x f w.heap.size A m c L false w' HL.out (by omega) (HR.out.below hbb) hbb.size HOK.out
    unfold ptV at h
    exact h
  clear hb3 c0 c1 c2 c3
  go_upto_region 3 with fail
  refine wp_region_tail (by kernel_rfl) 4 60 slotE3 waitE3 (leaveE3 w.heap.size s x f A m c false) rfl
    (by kernel_rfl) (fun i v w w' _ _ h => by unfold leaveE3 at *; split at h <;> exact h) ?_ ?_
  · intro i hi
    match i, hi with
    | 0, _ =>
      intro o ho a wc hk hb hd K hK
      cases ho
      have e0 := hk.rest 1 (.pointer (some ⟨w.heap.size, 0, none⟩)) (by omega) (by kernel_rfl) rfl
      rw [Array.getD_eq_getD_getElem?] at e0
      obtain ⟨c0, c1, c2, c3, -⟩ := ent_cells (HKP.out _ hb)
      go_simp
      exact hK _ _ (Below.refl _ _) rfl
    | 1, _ =>
      intro o ho a wc hk hb hd K hK
      cases ho
      have e0 := hd 0 (by simp [waitE3])
      simp only [leaveE3, slotE3, Nat.reduceAdd, Array.getD_eq_getD_getElem?] at e0
      go_simp
      refine (HMAY.out _ hb).mono ?_
      rintro e w9 ⟨rfl, hb9⟩
      exact hK _ _ hb9 rfl
    | 2, _ =>
      intro o ho a wc hk hb hd K hK
      cases ho
      have e0 := hk.rest 1 (.pointer (some ⟨w.heap.size, 0, none⟩)) (by omega) (by kernel_rfl) rfl
      rw [Array.getD_eq_getD_getElem?] at e0
      obtain ⟨c0, c1, c2, c3, -⟩ := ent_cells (HKP.out _ hb)
      go_simp
      exact hK _ _ (Below.refl _ _) rfl
    | 3, _ =>
      intro o ho a wc hk hb hd K hK
      cases ho
      have e0 := hd 2 (by simp [waitE3])
      simp only [leaveE3, slotE3, Nat.reduceAdd, Array.getD_eq_getD_getElem?] at e0
      go_simp
      refine (HRMAY.out _ hb).mono ?_
      rintro e w9 ⟨rfl, hb9⟩
      exact hK _ _ hb9 rfl
    | _ + 4, h => exact absurd h (by omega)
  · intro vals w5 hb hR
    have v0 := hR 0 (by omega)
    have v1 := hR 1 (by omega)
    have v2 := hR 2 (by omega)
    have v3 := hR 3 (by omega)
    simp only [leaveE3] at v0 v1 v2 v3
    clear hR
    simp only [putAll, slotE3, Nat.reduceAdd, List.setIfInBounds_toArray, List.set_cons_zero, List.set_cons_succ, List.drop_succ_cons, List.drop_zero, v0, v1, v2, v3]
    clear v0 v1 v2 v3
    have HB5 := Lib.hid (HB3.out.trans (hb.mono HB3.out.size))
    have HB35 := Lib.hid hb
    obtain ⟨c0, c1, c2, c3, -⟩ := ent_cells (HKP.out _ hb)
    clear hb
    go_wp2_with fail
    refine (HRMAY.out _ HB35.out).mono ?_
    rintro e w6 ⟨rfl, hb6⟩
    have HB36 := Lib.hid (HB35.out.trans (hb6.mono HB35.out.size))
    have HB6 := Lib.hid (HB3.out.trans (HB36.out.mono HB3.out.size))
    clear hb6 c0 c1 c2 c3
    go_wp2_with fail
    refine (awake_any _ (HT.out.up HB6.out)).mono ?_
    rintro e w7 ⟨rfl, hb7⟩
    have HB7 := Lib.hid (HB6.out.trans (hb7.mono HB6.out.size))
    clear hb7
    go_wp2
    go_ret
    exact ⟨rfl, HB7.out⟩

set_option maxRecDepth 100000 in
set_option maxHeartbeats 2000000 in
theorem yes_ (s x : Int) (f : Bool) (A : Option Addr) (n m c : Nat) (l L : List En) (w : World) (hl : L.length = m) (hc : n ≤ c) (hm : m ≤ 20) (hr : Rd w w.heap.size A (ensV L)) (ht : Tab w)
    (hfew : ∀ w', Below w.heap.size w w' → Calls Tryd.prog 8 #[.slice A n c] w' fun e w'' => e = .returned (.slice A m c) ∧ w' = w'') (hok : ptOk ⟨s, x, f, L⟩ = true) (hs : sumsOk L) :
    Calls Tryd.prog 3 #[ptV s x f A n c] w fun e w' => e = .returned (.bool true) ∧ Below w.heap.size w w' := by
  unfold ptV
  have HFEW := Lib.hid hfew
  have HL := Lib.hid hl
  have HR := Lib.hid hr
  have HT := Lib.hid ht
  have HOK := Lib.hid hok
  have HS := Lib.hid hs
  have HBL : Hid ((octB ⟨s, x, f, L⟩).length = 128) := octB_len _ (headOk_yes (ptOk_yes hok).1).2.2.2.2.2
  have K0 := Bk.new w 24 #[.int .i64 s, .int .i64 x, .bool f, .slice A n c]
  have HB0 := Lib.hid ((Below.refl w.heap.size w).alloc (Nat.le_refl _) (.cells #[.int .i64 s, .int .i64 x, .bool f, .slice A n c] 24))
  obtain ⟨k0, k1, k2, k3, f0, f1, f2, f3⟩ := ent_cells K0
  have K1 := Lib.hid (ent3 K0 (.slice A m c))
  clear hfew hl hr ht hok hs
  go_enter Tryd.func3, Tryd.ntmps3
  go_wp2_with fail
  refine (HFEW.out _ HB0.out).mono ?_
  rintro e w1 ⟨rfl, hw1⟩
  have K1' := K1.out
  have HB1 : Hid (Below w.heap.size w (w1.setCell ⟨w.heap.size, 3, none⟩ (.slice A m c))) := by rw [← hw1]; exact HB0.out.setCell (p := ⟨w.heap.size, 3, none⟩) (Nat.le_refl _) _
  rw [hw1] at k0 k1 k2 k3 f0 f1 f2 f3 K1'
  have HW1 := Lib.hid hw1
  clear hw1 K0 K1
  have HK1 := Lib.hid K1'
  obtain ⟨c0, c1, c2, c3, -⟩ := ent_cells K1'
  clear K1'
  obtain ⟨w2, hw2⟩ : ∃ w2, w1.setCell ⟨w.heap.size, 3, none⟩ (.slice A m c) = w2 := ⟨_, rfl⟩
  rw [hw2] at HB1 HK1 c0 c1 c2 c3
  have hw2 := Lib.hid hw2
  go_wp2_with fail
  first | rw [hw2.out] | skip
  have HEN := sumEncode_yes s x f w.heap.size A m c L w2 HL.out (HR.out.below HB1.out) HB1.out.size HOK.out HS.out (HT.out.up HB1.out)
  unfold ptV at HEN
  refine HEN.mono ?_
  rintro e w3 ⟨g, rfl, hg, hkg, hb3⟩
  have HKG := Lib.hid hkg
  clear hg hkg HEN
  have HB3 := Lib.hid (HB1.out.trans (hb3.mono HB1.out.size))
  have HK3 := Lib.hid (HK1.out.below hb3 HK1.out.lt)
  have HKP : Hid (∀ w', Below w3.heap.size w3 w' → Bk w' w.heap.size 24 #[.int .i64 s, .int .i64 x, .bool f, .slice A m c]) := fun w' hb => HK3.out.below hb HK3.out.lt
  have HMAY : Hid (∀ w', Below w3.heap.size w3 w' → Calls Tryd.prog 10 #[.agg #[.int .i64 s, .int .i64 x, .bool f, .slice A m c]] w' fun e w'' => e = .returned (.bool true) ∧ Below w'.heap.size w' w'') := fun w' hb => by
    have hbb := HB3.out.trans (hb.mono HB3.out.size)
    have h := sumMay_any s x f w.heap.size A m c L true w' HL.out (by omega) (HR.out.below hbb) hbb.size HOK.out
    unfold ptV at h
    exact h
  have HRMAY : Hid (∀ w', Below w3.heap.size w3 w' → Calls Tryd.prog 11 #[.agg #[.int .i64 s, .int .i64 x, .bool f, .slice A m c]] w' fun e w'' => e = .returned (.bool true) ∧ Below w'.heap.size w' w'') := fun w' hb => by
    have hbb := HB3.out.trans (hb.mono HB3.out.size)
    have h := refMay_any s x f w.heap.size A m c L true w' HL.out (by omega) (HR.out.below hbb) hbb.size HOK.out
    unfold ptV at h
    exact h
  clear hb3 c0 c1 c2 c3
  go_upto_region 3 with fail
  refine wp_region_tail (by kernel_rfl) 4 60 slotE3 waitE3 (leaveE3 w.heap.size s x f A m c true) rfl
    (by kernel_rfl) (fun i v w w' _ _ h => by unfold leaveE3 at *; split at h <;> exact h) ?_ ?_
  · intro i hi
    match i, hi with
    | 0, _ =>
      intro o ho a wc hk hb hd K hK
      cases ho
      have e0 := hk.rest 1 (.pointer (some ⟨w.heap.size, 0, none⟩)) (by omega) (by kernel_rfl) rfl
      rw [Array.getD_eq_getD_getElem?] at e0
      obtain ⟨c0, c1, c2, c3, -⟩ := ent_cells (HKP.out _ hb)
      go_simp
      exact hK _ _ (Below.refl _ _) rfl
    | 1, _ =>
      intro o ho a wc hk hb hd K hK
      cases ho
      have e0 := hd 0 (by simp [waitE3])
      simp only [leaveE3, slotE3, Nat.reduceAdd, Array.getD_eq_getD_getElem?] at e0
      go_simp
      refine (HMAY.out _ hb).mono ?_
      rintro e w9 ⟨rfl, hb9⟩
      exact hK _ _ hb9 rfl
    | 2, _ =>
      intro o ho a wc hk hb hd K hK
      cases ho
      have e0 := hk.rest 1 (.pointer (some ⟨w.heap.size, 0, none⟩)) (by omega) (by kernel_rfl) rfl
      rw [Array.getD_eq_getD_getElem?] at e0
      obtain ⟨c0, c1, c2, c3, -⟩ := ent_cells (HKP.out _ hb)
      go_simp
      exact hK _ _ (Below.refl _ _) rfl
    | 3, _ =>
      intro o ho a wc hk hb hd K hK
      cases ho
      have e0 := hd 2 (by simp [waitE3])
      simp only [leaveE3, slotE3, Nat.reduceAdd, Array.getD_eq_getD_getElem?] at e0
      go_simp
      refine (HRMAY.out _ hb).mono ?_
      rintro e w9 ⟨rfl, hb9⟩
      exact hK _ _ hb9 rfl
    | _ + 4, h => exact absurd h (by omega)
  · intro vals w5 hb hR
    have v0 := hR 0 (by omega)
    have v1 := hR 1 (by omega)
    have v2 := hR 2 (by omega)
    have v3 := hR 3 (by omega)
    simp only [leaveE3] at v0 v1 v2 v3
    clear hR
    simp only [putAll, slotE3, Nat.reduceAdd, List.setIfInBounds_toArray, List.set_cons_zero, List.set_cons_succ, List.drop_succ_cons, List.drop_zero, v0, v1, v2, v3]
    clear v0 v1 v2 v3
    have HB5 := Lib.hid (HB3.out.trans (hb.mono HB3.out.size))
    have HB35 := Lib.hid hb
    obtain ⟨c0, c1, c2, c3, -⟩ := ent_cells (HKP.out _ hb)
    clear hb
    go_wp2_with fail
    refine (HRMAY.out _ HB35.out).mono ?_
    rintro e w6 ⟨rfl, hb6⟩
    have HB36 := Lib.hid (HB35.out.trans (hb6.mono HB35.out.size))
    have HB6 := Lib.hid (HB3.out.trans (HB36.out.mono HB3.out.size))
    clear hb6 c0 c1 c2 c3
    have HG6 := Lib.hid (HKG.out.below HB36.out HKG.out.lt)
    have HRG : Hid (∀ w', Below w6.heap.size w6 w' → Rd w' w'.heap.size (some ⟨g, 0, none⟩) ((octB ⟨s, x, f, L⟩).map bv)) := fun w' hb => by
      have h := Rd.row (HG6.out.below hb HG6.out.lt)
      simpa using h
    have HDE := sumDecode_any w6.heap.size (some ⟨g, 0, none⟩) 128 128 (octB ⟨s, x, f, L⟩) w6 HBL.out (HRG.out _ (Below.refl _ _)) (Nat.le_refl _) (Nat.le_refl _) (by unfold maxLen; omega) (HT.out.up HB6.out)
    rw [decQ_oct HOK.out HS.out, decR_oct HOK.out HS.out] at HDE
    have HDE := Lib.hid HDE
    go_wp2_with fail
    refine HDE.out.mono ?_
    rintro e w7 ⟨v, rfl, ⟨A2, c2, rfl, hc2, hm2, hr2⟩, hb7⟩
    unfold ptV
    simp only at hr2 hc2 ⊢
    rw [HL.out] at hc2 ⊢
    have HR2 := Lib.hid hr2
    have HB67 := Lib.hid hb7
    clear hb7 hc2 hm2 hr2 HDE
    have KX := Lib.hid (Bk.new w7 24 #[.int .i64 s, .int .i64 x, .bool f, .slice A2 m c2])
    have HB78 := Lib.hid ((Below.refl w7.heap.size w7).alloc (Nat.le_refl _) (.cells #[.int .i64 s, .int .i64 x, .bool f, .slice A2 m c2] 24))
    obtain ⟨wa, hwa⟩ : ∃ wa, w7.alloc (.cells #[.int .i64 s, .int .i64 x, .bool f, .slice A2 m c2] 24) = wa := ⟨_, rfl⟩
    rw [hwa] at KX HB78
    have HWA := Lib.hid hwa
    clear hwa
    have HB6A := Lib.hid (HB67.out.trans (HB78.out.mono HB67.out.size))
    have HB3A := Lib.hid (HB36.out.trans (HB6A.out.mono HB36.out.size))
    have HBA := Lib.hid (HB3.out.trans (HB3A.out.mono HB3.out.size))
    have HK3 := Lib.hid (HKP.out _ HB3A.out)
    have HKP : Hid (∀ w', Below wa.heap.size wa w' → Bk w' w.heap.size 24 #[.int .i64 s, .int .i64 x, .bool f, .slice A m c]) := fun w' hb => HK3.out.below hb HK3.out.lt
    have HKX : Hid (∀ w', Below wa.heap.size wa w' → Bk w' w7.heap.size 24 #[.int .i64 s, .int .i64 x, .bool f, .slice A2 m c2]) := fun w' hb => KX.out.below hb KX.out.lt
    have HCV : Hid (∀ w', Below wa.heap.size wa w' → (convert 26 9 (.slice (some ⟨g, 0, none⟩) 128 128)).run Tryd.prog w' = .ok (.string (str (octB ⟨s, x, f, L⟩))) w') := fun w' hb =>
      run_conv 26 5 9 Tryd.underlying26 Tryd.underlying5 under_strC 128 128 HBL.out (HRG.out w' (HB6A.out.trans (hb.mono HB6A.out.size)))
    have HRENC : Hid (∀ w', Below wa.heap.size wa w' → Calls Tryd.prog 14 #[.agg #[.int .i64 s, .int .i64 x, .bool f, .slice A m c]] w' fun e w'' => e = .returned (.string (str (octB ⟨s, x, f, L⟩))) ∧ Below w'.heap.size w' w'') := fun w' hb => by
      have hbb := HBA.out.trans (hb.mono HBA.out.size)
      have h := refEncode_any s x f w.heap.size A m c L w' HL.out (HR.out.below hbb) hbb.size HOK.out HS.out
      unfold ptV at h
      exact h
    have HSAME : Hid (∀ w', Below wa.heap.size wa w' → Calls Tryd.prog 15 #[.agg #[.int .i64 s, .int .i64 x, .bool f, .slice A2 m c2], .agg #[.int .i64 s, .int .i64 x, .bool f, .slice A m c]] w' fun e w'' => e = .returned (.bool true) ∧ Below w'.heap.size w' w'') := fun w' hb => by
      have hbb := HBA.out.trans (hb.mono HBA.out.size)
      have hb7 := HB78.out.trans (hb.mono HB78.out.size)
      have h := refSame_any s x f A2 m c2 L s x f A m c L true w' HL.out HL.out (by omega) (by omega) ((HR2.out.below hb7).mono hb7.size) ((HR.out.below hbb).mono hbb.size) ⟨fun _ => rfl, fun _ => rfl⟩
      unfold ptV at h
      exact h
    go_upto_region 8 with fail
    first | rw [HWA.out] | skip
    refine wp_region_tail (by kernel_rfl) 18 60 slotE8 waitE8 (leaveE8 g s x f A A2 m c c2 (octB ⟨s, x, f, L⟩)) rfl
      (by kernel_rfl) (fun i v w w' _ _ h => by unfold leaveE8 at *; split at h <;> exact h) ?_ ?_
    · intro i hi
      match i, hi with
      | 0, _ =>
        intro o ho a wc hk hb hd K hK
        cases ho
        have e0 := hk.rest 3 (.slice (some ⟨g, 0, none⟩) 128 128) (by omega) (by kernel_rfl) rfl
        rw [Array.getD_eq_getD_getElem?] at e0
        go_simp
        exact hK _ _ (Below.refl _ _) rfl
      | 1, _ =>
        intro o ho a wc hk hb hd K hK
        cases ho
        have e0 := hd 0 (by simp [waitE8])
        simp only [leaveE8, slotE8, Nat.reduceAdd, Array.getD_eq_getD_getElem?] at e0
        have hcv := HCV.out _ hb
        go_simp
        exact hK _ _ (Below.refl _ _) rfl
      | 2, _ =>
        intro o ho a wc hk hb hd K hK
        cases ho
        have e0 := hk.rest 1 (.pointer (some ⟨w.heap.size, 0, none⟩)) (by omega) (by kernel_rfl) rfl
        rw [Array.getD_eq_getD_getElem?] at e0
        obtain ⟨c0, c1, c2, c3, -⟩ := ent_cells (HKP.out _ hb)
        go_simp
        exact hK _ _ (Below.refl _ _) rfl
      | 3, _ =>
        intro o ho a wc hk hb hd K hK
        cases ho
        have e0 := hd 2 (by simp [waitE8])
        simp only [leaveE8, slotE8, Nat.reduceAdd, Array.getD_eq_getD_getElem?] at e0
        go_simp
        refine (HRENC.out _ hb).mono ?_
        rintro e w9 ⟨rfl, hb9⟩
        exact hK _ _ hb9 rfl
      | 4, _ =>
        intro o ho a wc hk hb hd K hK
        cases ho
        have e0 := hd 1 (by simp [waitE8])
        have e1 := hd 3 (by simp [waitE8])
        simp only [leaveE8, slotE8, Nat.reduceAdd, Array.getD_eq_getD_getElem?] at e0 e1
        go_simp
        exact hK _ _ (Below.refl _ _) rfl
      | 5, _ =>
        intro o ho a wc hk hb hd K hK
        cases ho
        have e0 := hd 4 (by simp [waitE8])
        simp only [leaveE8, slotE8, Nat.reduceAdd, Array.getD_eq_getD_getElem?] at e0
        go_simp
        exact hK _ _ (Below.refl _ _) rfl
      | 6, _ =>
        intro o ho a wc hk hb hd K hK
        cases ho
        have e0 := hk.rest 4 (.int .i64 0) (by omega) (by kernel_rfl) rfl
        rw [Array.getD_eq_getD_getElem?] at e0
        have e1 := hd 5 (by simp [waitE8])
        simp only [leaveE8, slotE8, Nat.reduceAdd, Array.getD_eq_getD_getElem?] at e1
        have gs := hk.some_ (s := 44) (by omega) e1
        go_simp
        exact hK _ _ (Below.refl _ _) rfl
      | 7, _ =>
        intro o ho a wc hk hb hd K hK
        cases ho
        have e0 := hd 5 (by simp [waitE8])
        have e1 := hd 6 (by simp [waitE8])
        simp only [leaveE8, slotE8, Nat.reduceAdd, Array.getD_eq_getD_getElem?] at e0 e1
        have gs := hk.some_ (s := 44) (by omega) e0
        go_simp
        exact hK _ _ (Below.refl _ _) rfl
      | 8, _ =>
        intro o ho a wc hk hb hd K hK
        cases ho
        have e0 := hd 5 (by simp [waitE8])
        have e1 := hd 7 (by simp [waitE8])
        simp only [leaveE8, slotE8, Nat.reduceAdd, Array.getD_eq_getD_getElem?] at e0 e1
        go_simp
        exact hK _ _ (Below.refl _ _) rfl
      | 9, _ =>
        intro o ho a wc hk hb hd K hK
        cases ho
        have e0 := hd 8 (by simp [waitE8])
        simp only [leaveE8, slotE8, Nat.reduceAdd, Array.getD_eq_getD_getElem?] at e0
        go_simp
        exact hK _ _ (Below.refl _ _) rfl
      | 10, _ =>
        intro o ho a wc hk hb hd K hK
        cases ho
        have e0 := hk.rest 5 (.pointer (some ⟨w7.heap.size, 0, none⟩)) (by omega) (by kernel_rfl) rfl
        rw [Array.getD_eq_getD_getElem?] at e0
        have e1 := hd 9 (by simp [waitE8])
        simp only [leaveE8, slotE8, Nat.reduceAdd, Array.getD_eq_getD_getElem?] at e1
        have gs := hk.some_ (s := 48) (by omega) e1
        obtain ⟨c0, c1, c2, c3, -⟩ := ent_cells (HKX.out _ hb)
        go_simp
        exact hK _ _ (Below.refl _ _) rfl
      | 11, _ =>
        intro o ho a wc hk hb hd K hK
        cases ho
        have e0 := hk.rest 1 (.pointer (some ⟨w.heap.size, 0, none⟩)) (by omega) (by kernel_rfl) rfl
        rw [Array.getD_eq_getD_getElem?] at e0
        have e1 := hd 9 (by simp [waitE8])
        simp only [leaveE8, slotE8, Nat.reduceAdd, Array.getD_eq_getD_getElem?] at e1
        have gs := hk.some_ (s := 48) (by omega) e1
        obtain ⟨c0, c1, c2, c3, -⟩ := ent_cells (HKP.out _ hb)
        go_simp
        exact hK _ _ (Below.refl _ _) rfl
      | 12, _ =>
        intro o ho a wc hk hb hd K hK
        cases ho
        have e0 := hd 9 (by simp [waitE8])
        have e1 := hd 10 (by simp [waitE8])
        have e2 := hd 11 (by simp [waitE8])
        simp only [leaveE8, slotE8, Nat.reduceAdd, Array.getD_eq_getD_getElem?] at e0 e1 e2
        have gs := hk.some_ (s := 48) (by omega) e0
        go_simp
        refine (HSAME.out _ hb).mono ?_
        rintro e w9 ⟨rfl, hb9⟩
        exact hK _ _ hb9 rfl
      | 13, _ =>
        intro o ho a wc hk hb hd K hK
        cases ho
        have e0 := hd 9 (by simp [waitE8])
        have e1 := hd 12 (by simp [waitE8])
        simp only [leaveE8, slotE8, Nat.reduceAdd, Array.getD_eq_getD_getElem?] at e0 e1
        go_simp
        exact hK _ _ (Below.refl _ _) rfl
      | 14, _ =>
        intro o ho a wc hk hb hd K hK
        cases ho
        have e0 := hd 13 (by simp [waitE8])
        simp only [leaveE8, slotE8, Nat.reduceAdd, Array.getD_eq_getD_getElem?] at e0
        go_simp
        exact hK _ _ (Below.refl _ _) rfl
      | 15, _ =>
        intro o ho a wc hk hb hd K hK
        cases ho
        have e0 := hk.rest 6 (.int .i64 0) (by omega) (by kernel_rfl) rfl
        rw [Array.getD_eq_getD_getElem?] at e0
        have e1 := hd 14 (by simp [waitE8])
        simp only [leaveE8, slotE8, Nat.reduceAdd, Array.getD_eq_getD_getElem?] at e1
        have gs := hk.some_ (s := 53) (by omega) e1
        go_simp
        exact hK _ _ (Below.refl _ _) rfl
      | 16, _ =>
        intro o ho a wc hk hb hd K hK
        cases ho
        have e0 := hd 14 (by simp [waitE8])
        have e1 := hd 15 (by simp [waitE8])
        simp only [leaveE8, slotE8, Nat.reduceAdd, Array.getD_eq_getD_getElem?] at e0 e1
        have gs := hk.some_ (s := 53) (by omega) e0
        go_simp
        exact hK _ _ (Below.refl _ _) rfl
      | 17, _ =>
        intro o ho a wc hk hb hd K hK
        cases ho
        have e0 := hd 14 (by simp [waitE8])
        have e1 := hd 16 (by simp [waitE8])
        simp only [leaveE8, slotE8, Nat.reduceAdd, Array.getD_eq_getD_getElem?] at e0 e1
        go_simp
        exact hK _ _ (Below.refl _ _) rfl
      | _ + 18, h => exact absurd h (by omega)
    · intro vals w8 hb hR
      have v0 := hR 0 (by omega)
      have v1 := hR 1 (by omega)
      have v2 := hR 2 (by omega)
      have v3 := hR 3 (by omega)
      have v4 := hR 4 (by omega)
      have v5 := hR 5 (by omega)
      have v6 := hR 6 (by omega)
      have v7 := hR 7 (by omega)
      have v8 := hR 8 (by omega)
      have v9 := hR 9 (by omega)
      have v10 := hR 10 (by omega)
      have v11 := hR 11 (by omega)
      have v12 := hR 12 (by omega)
      have v13 := hR 13 (by omega)
      have v14 := hR 14 (by omega)
      have v15 := hR 15 (by omega)
      have v16 := hR 16 (by omega)
      have v17 := hR 17 (by omega)
      simp only [leaveE8] at v0 v1 v2 v3 v4 v5 v6 v7 v8 v9 v10 v11 v12 v13 v14 v15 v16 v17
      clear hR
      simp only [putAll, slotE8, Nat.reduceAdd, List.setIfInBounds_toArray, List.set_cons_zero, List.set_cons_succ, List.drop_succ_cons, List.drop_zero, v0, v1, v2, v3, v4, v5, v6, v7, v8, v9, v10, v11, v12, v13, v14, v15, v16, v17]
      clear v0 v1 v2 v3 v4 v5 v6 v7 v8 v9 v10 v11 v12 v13 v14 v15 v16 v17
      have HB8 := Lib.hid (HBA.out.trans (hb.mono HBA.out.size))
      clear hb
      go_wp2_with fail
      refine (awake_any _ (HT.out.up HB8.out)).mono ?_
      rintro e w9 ⟨rfl, hb9⟩
      have HB9 := Lib.hid (HB8.out.trans (hb9.mono HB8.out.size))
      clear hb9
      go_wp2
      go_ret
      exact ⟨rfl, HB9.out⟩
theorem walk (s x : Int) (f : Bool) (A : Option Addr) (c : Nat) (l : List En) (w : World) (h : EntsAt w A c l) (ht : Tab w) :
    Calls Tryd.prog 3 #[ptV s x f A l.length c] w fun e w' => e = .returned (.bool true) ∧ Below w.heap.size w w' := by
  obtain ⟨hc, hcm, hr, hs⟩ := h
  have hR : Rd w w.heap.size A (ensV (l.take 20)) := by rw [ensV_take]; exact hr.take _
  have hl : (l.take 20).length ≤ 20 := by rw [List.length_take]; omega
  have hfew : ∀ w', Below w.heap.size w w' → Calls Tryd.prog 8 #[.slice A l.length c] w' fun e w'' => e = .returned (.slice A (l.take 20).length c) ∧ w' = w'' := fun w' hb => fewEn_any w.heap.size A l.length c l w' rfl (hr.below hb) hc hcm
  cases hok : ptOk ⟨s, x, f, l.take 20⟩
  · exact no_ s x f A _ _ c l _ w rfl hc hl hR ht hfew hok
  · exact yes_ s x f A _ _ c l _ w rfl hc hl hR ht hfew hok (sumsOk_take hs 20)

set_option maxRecDepth 100000 in
theorem lifted (os : Os) (started : os.Started) (H : Type) (enc : TypeId × Value → H) :
    ReturnsInHanded {} Tryd.checked os 3 .any (fun w args => (Rows.summaryEncodesSpec.pre enc Tryd.prog Tryd.f3 [] false w args ∧ laidMetH Tryd.prog laidHalves w) ∧ sizedMet enc Tryd.prog Tryd.f3 (OpenSpec.ofChange Rows.summaryEncodesSpec) false w args) (Rows.summaryEncodesSpec.post enc Tryd.prog Tryd.f3 false true false false) := by
  refine returnsInHanded_of_change_and (C := Tryd.checked) (X := fun w _ => laidMetH Tryd.prog laidHalves w) (fun _ _ _ hh h => h.of_heap hh) own started (by kernel_rfl) Tryd.func3
    (ChangeSpec.witness_shaped (enc := enc) (C := Tryd.checked) (os := os) (X := fun w _ => laidMetH Tryd.prog laidHalves w) false (World.doorLaid Tryd.prog 400 os) #[.agg #[.int .i64 0, .int .i64 0, .bool false, .slice none 0 0]] 8 rfl (World.shaped_of_RefB (by kernel_rfl) (by kernel_rfl)) (by kernel_rfl) (by kernel_rfl) (by kernel_rfl) (door_met os _)) ?_
  intro W base args ds gs before hval0 hW _ _ hL _
  have hTab := tab_of_laid hL
  have hval : ∀ (j : Nat) t v, Tryd.f3.params[j]? = some t → args[j]? = some v → Value.okWide Tryd.prog W .any base t v := hval0
  have hW' := hW
  obtain ⟨p, q, hA0, hV, rfl, hfz, hnd⟩ := hW
  have hA : DataW.TrodAll enc Tryd.prog W 0 (fun _ => true) true Tryd.f3.params.toList args.toList ds p := hA0
  rw [Tryd.params3] at hA hval
  obtain ⟨v0, vs0, d0, ds0, p0, q0, hargs, rfl, rfl, h0, r0⟩ := trodAll_cons hA
  obtain ⟨rfl, rfl, rfl⟩ := trodAll_nil r0
  obtain rfl : args = #[v0] := by cases args; simp_all
  obtain ⟨rfl, rfl⟩ := trodVars_none hV
  have lt0 : ∀ x ∈ p0, x.block < W.heap.size := by obtain ⟨m, hm⟩ := h0; exact DataW.trod_lt m _ _ _ hm
  obtain ⟨y0_0, y0_1, y0_2, y0_3, y0_4, y0_5, hb0, rfl⟩ := part_in (hval 0 24 v0 rfl rfl) h0
  clear hA0 hval0
  refine (walk y0_0 y0_1 y0_2 y0_3 y0_4 y0_5 W hb0 hTab).mono fun e W' ⟨he, bel⟩ => ?_
  subst he
  exact ⟨_, rfl, _, _, _, [], _, [], hW', trodAll_mk1 (shut_bool Tryd.underlying4 _), (trodAll_cons_mk (Below.trod laidOut (by kernel_rfl) (of_decide_eq_true (by kernel_rfl)) h0 bel lt0) trodAll_mk0), rfl, bel.frame _, fun h => by cases h⟩

theorem over : Rows.summaryEncodesRow.holds Tryd.pinned (OpenSpec.ofChange Rows.summaryEncodesSpec) :=
  OpenClaim.holds_of_wide 3 Tryd.f3 rfl rfl rfl rfl rfl rfl rfl ⟨rfl, rfl, rfl, rfl, rfl⟩ rfl rfl rfl rfl rfl (by kernel_rfl) Tryd.func3 (by kernel_rfl)
    (of_decide_eq_true (by kernel_rfl)) (by unfold Func.isWrapper; first | (rw [if_pos (by decide +kernel)]; kernel_rfl) | (rw [if_neg (by decide +kernel)]; exact ⟨rfl, rfl⟩))
    (fun os started H enc _ => lifted os started H enc)

theorem proved : Rows.SummaryEncodesCardSaid :=
  Claim7.holds_tied_plain_at .later [] [.data] true _ false
    over (fun _ h => by cases h) (by kernel_rfl) (fun _ h => by cases h) summaryEncodes_row_tie rfl ⟨rfl, rfl⟩ (by kernel_rfl) rfl
    (fun f fn hf hfn => by
      obtain rfl : f = 3 := Option.some.inj ((show Tryd.prog.funcNamed "haymow/haymowlaw06.SummaryEncodes" = some 3 by kernel_rfl).symm.trans hf) |>.symm
      obtain rfl : fn = Tryd.f3 := (Option.some.inj (Tryd.func3.symm.trans hfn)).symm
      exact ⟨by kernel_rfl, fun j t ht => by
        rw [Tryd.params3] at ht
        have hm : t ∈ [24] := by simpa using Array.mem_of_getElem? ht
        have hall : ([24].all fun u => !Tryd.prog.wantsStandIn u) = true := by kernel_rfl
        exact (show Tryd.prog.wantsStandIn t = false by simpa using List.all_eq_true.1 hall t hm)⟩)
    (by kernel_rfl)
#print axioms proved
end Go.Proofs.YtjibjojnkieliaaDoor.summaryEncodes
