/-
  Every inode that may be, of every number, has the document's block, and is decoded as it was; of another number it is refused; others have none. Conditions: crc.halves holds what its text lays, tied to the program.
-/
import Derived.Test.YtjhnabhieihifaaDoorInoEq
import Derived.Test.YtjhnabhieihifaaDoorRef07b
import Derived.Test.YtjhnabhieihifaaDoorRef07c
import Derived.Test.YtjhnabhieihifaaDoorRef07d
import Derived.Test.YtjhnabhieihifaaDoorCrcTab
import Derived.Test.YtjhnabhieihifaaDoorOpenIno
import Derived.Test.YtjhnabhieihifaaDoorCards
import Derived.Test.YtjhnabhieihifaaDoorTie
import Derived.SevenTiedAt
import Derived.Deep.RegionHeld3
import Derived.BigQuiet
namespace Go.Proofs.YtjhnabhieihifaaDoor.inodeEncodes
open Go.ChangeShapes Go.WideShapes Go.ChangeAt Go.RowKit
set_option maxRecDepth 100000
set_option linter.unusedVariables false

section
variable {o : Oper} {a : Act} {w : World} {K : Act → World → Prop} {Q : Exit → Act → World → Prop}
theorem wp_load_ino (y : Operand) (ho : o.op = .load 27 y) (g : Nat) (t : TypeId) (x : Ino) (hy : a.eval y = .pointer (some ⟨g, 0, none⟩)) (hp : x.p.length = 9) (hk : Bk w g t (inoC x)) (h : K (a.put o.dst (.agg (inoC x))) w) : o.wp Tryd.prog a w K Q := by
  obtain ⟨d, hu, hd⟩ := und_ino
  exact wp_load_mid 27 y ho g 0 hy (inoV x) d (fun j v hv => by rw [Nat.zero_add, hk.cell]; simpa [inoC] using hv) hu hd (by rw [inf_ino]; simp [inoV, prsV_length, hp]) h
end
def slotM2 (i : Nat) : Nat := 19 + i
def waitM2 : Nat → List Nat
  | 1 => [0]
  | 3 => [2]
  | 4 => [1, 3]
  | _ => []
def leaveM2 (x : Ino) (t : Bool) : Nat → Value → World → Prop
  | 0, v, _ => v = .agg (inoC x)
  | 1, v, _ => v = .bool t
  | 2, v, _ => v = .agg (inoC x)
  | 3, v, _ => v = .bool t
  | _, _, _ => True
def slotM8 (i : Nat) : Nat := 57 + i
def waitM8 : Nat → List Nat
  | 1 => [0]
  | 4 => [2, 3]
  | 5 => [1, 4]
  | 6 => [5]
  | 7 => [6]
  | 8 => [6, 7]
  | 9 => [6, 8]
  | 10 => [9]
  | 11 => [10]
  | 12 => [10]
  | 13 => [10, 11, 12]
  | 14 => [10, 13]
  | 15 => [14]
  | 16 => [15]
  | 17 => [15, 16]
  | 18 => [15, 17]
  | _ => []
def leaveM8 (g : Nat) (B : List UInt8) (m : Int) (x : Ino) : Nat → Value → World → Prop
  | 0, v, _ => v = .slice (some ⟨g, 0, none⟩) 128 128
  | 1, v, _ => v = .string (str B)
  | 2, v, _ => v = .int .i64 m
  | 3, v, _ => v = .agg (inoC x)
  | 4, v, _ => v = .string (str B)
  | 5, v, _ => v = .bool false
  | 6, v, _ => v = .bool false
  | 7, v, _ => v = .int .i64 0
  | 8, v, _ => v = .bool false
  | 9, v, _ => v = .bool false
  | 10, v, _ => v = .bool false
  | 11, v, _ => v = .agg (inoC x)
  | 12, v, _ => v = .agg (inoC x)
  | 13, v, _ => v = .bool false
  | 14, v, _ => v = .bool false
  | 15, v, _ => v = .bool false
  | 16, v, _ => v = .int .i64 0
  | 17, v, _ => v = .bool false
  | _, _, _ => True

set_option maxHeartbeats 4000000 in
theorem walk_no (m other : Int) (x : Ino) (t : Bool) (w : World) (hx9 : x.p.length = 9) (ht : inoOk x = t) (hT : Tab w) (hno : ¬ (1 ≤ m ∧ m ≤ 39) ∨ t = false) :
    Calls Tryd.prog 3 #[.int .i64 m, .int .i64 other, .agg (inoC x)] w fun e w' => e = .returned (.bool true) ∧ Below w.heap.size w w' := by
  have HX9 := Lib.hid hx9
  have HTO := Lib.hid ht
  have HT := Lib.hid hT
  have HNO := Lib.hid hno
  have K0 := Lib.hid (Bk.new w 27 (inoC x))
  have HB0 := Lib.hid ((Below.refl w.heap.size w).alloc (Nat.le_refl _) (.cells (inoC x) 27))
  obtain ⟨w0, hw0⟩ : ∃ w0, w.alloc (.cells (inoC x) 27) = w0 := ⟨_, rfl⟩
  rw [hw0] at K0 HB0
  have HW0 := Lib.hid hw0
  clear hx9 ht hT hw0 hno
  go_enter Tryd.func3, Tryd.ntmps3
  go_wp2_with (first | (rw [HW0.out]; refine wpList_load_ino rfl _ rfl w.heap.size _ x rfl HX9.out K0.out ?_) | (refine wpList_load_ino rfl _ rfl w.heap.size _ x rfl HX9.out K0.out ?_))
  refine (inoEncode_no m x w0 HX9.out (HNO.out.imp id fun h => HTO.out.trans h)).mono ?_
  rintro e w2 ⟨rfl, hb2⟩
  have K2 := Lib.hid (K0.out.below hb2 K0.out.lt)
  have HB2 := Lib.hid (HB0.out.trans (hb2.mono HB0.out.size))
  have HK : Hid (∀ w', Below w2.heap.size w2 w' → Bk w' w.heap.size 27 (inoC x)) := fun w' hb => K2.out.below hb K2.out.lt
  clear hb2 K0 HB0 HW0
  go_wp2_with fail
  refine wp_region_tail (by kernel_rfl) 4 95 slotM2 waitM2 (leaveM2 x t) rfl
    (by kernel_rfl) (fun i v w w' _ _ h => by unfold leaveM2 at *; split at h <;> exact h) ?_ ?_
  · intro i hi
    match i, hi with
    | 0, _ =>
      intro o ho a wc hk hb hd K hK
      cases ho
      have e0 := hk.rest 5 (.pointer (some ⟨w.heap.size, 0, none⟩)) (by omega) (by kernel_rfl) rfl
      rw [Array.getD_eq_getD_getElem?] at e0
      refine (if_pos (show Region.wanted _ _ = true from rfl)).mpr ?_
      rw [← Array.getD_eq_getD_getElem?] at e0
      exact wp_load_ino _ rfl w.heap.size _ x e0 HX9.out (HK.out _ hb) (hK _ _ (Below.refl _ _) rfl)
    | 1, _ =>
      intro o ho a wc hk hb hd K hK
      cases ho
      have e0 := hd 0 (by simp [waitM2])
      simp only [leaveM2, slotM2, Nat.reduceAdd, Array.getD_eq_getD_getElem?] at e0
      go_simp
      refine (inoMay_any x t wc HX9.out HTO.out).mono ?_
      rintro e w9 ⟨rfl, hw9⟩
      exact hK _ _ hw9 rfl
    | 2, _ =>
      intro o ho a wc hk hb hd K hK
      cases ho
      have e0 := hk.rest 5 (.pointer (some ⟨w.heap.size, 0, none⟩)) (by omega) (by kernel_rfl) rfl
      rw [Array.getD_eq_getD_getElem?] at e0
      refine (if_pos (show Region.wanted _ _ = true from rfl)).mpr ?_
      rw [← Array.getD_eq_getD_getElem?] at e0
      exact wp_load_ino _ rfl w.heap.size _ x e0 HX9.out (HK.out _ hb) (hK _ _ (Below.refl _ _) rfl)
    | 3, _ =>
      intro o ho a wc hk hb hd K hK
      cases ho
      have e0 := hd 2 (by simp [waitM2])
      simp only [leaveM2, slotM2, Nat.reduceAdd, Array.getD_eq_getD_getElem?] at e0
      go_simp
      refine (refMayI_any x t wc HX9.out HTO.out).mono ?_
      rintro e w9 ⟨rfl, hw9⟩
      exact hK _ _ hw9 rfl
    | _ + 4, h => exact absurd h (by omega)
  · intro vals w3 hb hR
    have v0 := hR 0 (by omega)
    have v1 := hR 1 (by omega)
    have v2 := hR 2 (by omega)
    have v3 := hR 3 (by omega)
    simp only [leaveM2] at v0 v1 v2 v3
    clear hR
    simp only [putAll, slotM2, Nat.reduceAdd, List.setIfInBounds_toArray, List.set_cons_zero, List.set_cons_succ, List.drop_succ_cons, List.drop_zero, v0, v1, v2, v3]
    clear v0 v1 v2 v3
    have HB3 := Lib.hid (HB2.out.trans (hb.mono HB2.out.size))
    have K3 := Lib.hid (HK.out _ hb)
    clear hb HK K2 HB2
    by_cases hm : 1 ≤ m ∧ m ≤ 39
    · obtain rfl : t = false := HNO.out.resolve_left fun h => h hm
      have d1 : decide (m < 1) = false := decide_eq_false (by omega)
      have d2 : decide (39 < m) = false := decide_eq_false (by omega)
      clear hm
      go_wp2_with (refine wpList_load_ino rfl _ rfl w.heap.size _ x rfl HX9.out K3.out ?_)
      refine (refMayI_any x false w3 HX9.out HTO.out).mono ?_
      rintro e w4 ⟨rfl, hb4⟩
      have HB3 := Lib.hid (HB3.out.trans (hb4.mono HB3.out.size))
      clear hb4 K3
      go_wp2_with fail
      refine (awakeI_any _ (HT.out.up HB3.out)).mono ?_
      rintro e w7 ⟨rfl, hb7⟩
      have HB7 := Lib.hid (HB3.out.trans (hb7.mono HB3.out.size))
      clear hb7
      go_wp2
      go_ret
      exact ⟨rfl, HB7.out⟩
    · rcases (show m < 1 ∨ (1 ≤ m ∧ 39 < m) by omega) with r1 | ⟨r1, r2⟩
      all_goals
        clear hm
        go_wp2_with fail
        refine (awakeI_any _ (HT.out.up HB3.out)).mono ?_
        rintro e w7 ⟨rfl, hb7⟩
        have HB7 := Lib.hid (HB3.out.trans (hb7.mono HB3.out.size))
        clear hb7
        go_wp2
        go_ret
        exact ⟨rfl, HB7.out⟩

set_option maxHeartbeats 4000000 in
theorem walk_yes (m other : Int) (x : Ino) (w : World) (hx9 : x.p.length = 9) (hxi : inoI x) (hm : 1 ≤ m ∧ m ≤ 39) (ht : inoOk x = true) (hs : prSums x.p) (hT : Tab w) :
    Calls Tryd.prog 3 #[.int .i64 m, .int .i64 other, .agg (inoC x)] w fun e w' => e = .returned (.bool true) ∧ Below w.heap.size w w' := by
  obtain ⟨t, htt⟩ : ∃ t : Bool, t = true := ⟨_, rfl⟩
  have HX9 := Lib.hid hx9
  have HXI := Lib.hid hxi
  have HTO : Hid (inoOk x = t) := by show _ = _; rw [htt]; exact ht
  have HT := Lib.hid hT
  have HM := Lib.hid hm
  have HOK := Lib.hid ht
  have HS := Lib.hid hs
  obtain ⟨B, hB⟩ : ∃ B, inoB m x = B := ⟨_, rfl⟩
  have HB := Lib.hid hB
  have HBL : Hid (B.length = 128) := by show _ = _; rw [← hB]; exact inoB_len m x hx9
  have HQ0 : Hid (decIQ m B = 0) := by show _ = _; rw [← hB]; exact decIQ_ino hm ht hx9 hs
  have HR0 : Hid (decIR m B = x) := by show _ = _; rw [← hB]; exact decIR_ino hm ht hx9 hs
  obtain ⟨q2, hq2⟩ : ∃ q2, decIQ other B = q2 := ⟨_, rfl⟩
  obtain ⟨z, hz⟩ : ∃ z, decIR other B = z := ⟨_, rfl⟩
  have HQ2 := Lib.hid hq2
  have HZ2 := Lib.hid hz
  have HZ9 : Hid (z.p.length = 9) := by show _ = _; rw [← hz]; exact decIR_p other B
  have HZI : Hid (inoI z) := by show inoI z; rw [← hz]; exact inoI_decR other B
  have HNE : Hid (other ≠ m → q2 ≠ 0 ∧ z = noI) := fun hne => by
    have h : decIQ other B ≠ 0 := by rw [← hB]; exact decIQ_other hm ht hx9 hs hne
    exact ⟨hq2 ▸ h, hz ▸ decIR_not h⟩
  have K0 := Lib.hid (Bk.new w 27 (inoC x))
  have HB0 := Lib.hid ((Below.refl w.heap.size w).alloc (Nat.le_refl _) (.cells (inoC x) 27))
  obtain ⟨w0, hw0⟩ : ∃ w0, w.alloc (.cells (inoC x) 27) = w0 := ⟨_, rfl⟩
  rw [hw0] at K0 HB0
  have HW0 := Lib.hid hw0
  clear hx9 hxi ht hT hw0 hm hs hB hq2 hz
  go_enter Tryd.func3, Tryd.ntmps3
  go_wp2_with (first | (rw [HW0.out]; refine wpList_load_ino rfl _ rfl w.heap.size _ x rfl HX9.out K0.out ?_) | (refine wpList_load_ino rfl _ rfl w.heap.size _ x rfl HX9.out K0.out ?_))
  refine (inoEncode_yes m x w0 HX9.out HM.out HOK.out HS.out (HT.out.up HB0.out)).mono ?_
  rintro e w2 ⟨g, rfl, hg, hbk, hb2⟩
  rw [HB.out] at hbk
  have K2 := Lib.hid (K0.out.below hb2 K0.out.lt)
  have HB2 := Lib.hid (HB0.out.trans (hb2.mono HB0.out.size))
  have HK : Hid (∀ w', Below w2.heap.size w2 w' → Bk w' w.heap.size 27 (inoC x)) := fun w' hb => K2.out.below hb K2.out.lt
  have HRB : Hid (∀ w', Below w2.heap.size w2 w' → Rd w' w'.heap.size (some ⟨g, 0, none⟩) (B.map bv)) := fun w' hb => by simpa using Rd.bk (hbk.below hb hbk.lt)
  clear hb2 hbk hg K0 HB0 HW0
  go_wp2_with fail
  refine wp_region_tail (by kernel_rfl) 4 95 slotM2 waitM2 (leaveM2 x t) rfl
    (by kernel_rfl) (fun i v w w' _ _ h => by unfold leaveM2 at *; split at h <;> exact h) ?_ ?_
  · intro i hi
    match i, hi with
    | 0, _ =>
      intro o ho a wc hk hb hd K hK
      cases ho
      have e0 := hk.rest 5 (.pointer (some ⟨w.heap.size, 0, none⟩)) (by omega) (by kernel_rfl) rfl
      rw [Array.getD_eq_getD_getElem?] at e0
      refine (if_pos (show Region.wanted _ _ = true from rfl)).mpr ?_
      rw [← Array.getD_eq_getD_getElem?] at e0
      exact wp_load_ino _ rfl w.heap.size _ x e0 HX9.out (HK.out _ hb) (hK _ _ (Below.refl _ _) rfl)
    | 1, _ =>
      intro o ho a wc hk hb hd K hK
      cases ho
      have e0 := hd 0 (by simp [waitM2])
      simp only [leaveM2, slotM2, Nat.reduceAdd, Array.getD_eq_getD_getElem?] at e0
      go_simp
      refine (inoMay_any x t wc HX9.out HTO.out).mono ?_
      rintro e w9 ⟨rfl, hw9⟩
      exact hK _ _ hw9 rfl
    | 2, _ =>
      intro o ho a wc hk hb hd K hK
      cases ho
      have e0 := hk.rest 5 (.pointer (some ⟨w.heap.size, 0, none⟩)) (by omega) (by kernel_rfl) rfl
      rw [Array.getD_eq_getD_getElem?] at e0
      refine (if_pos (show Region.wanted _ _ = true from rfl)).mpr ?_
      rw [← Array.getD_eq_getD_getElem?] at e0
      exact wp_load_ino _ rfl w.heap.size _ x e0 HX9.out (HK.out _ hb) (hK _ _ (Below.refl _ _) rfl)
    | 3, _ =>
      intro o ho a wc hk hb hd K hK
      cases ho
      have e0 := hd 2 (by simp [waitM2])
      simp only [leaveM2, slotM2, Nat.reduceAdd, Array.getD_eq_getD_getElem?] at e0
      go_simp
      refine (refMayI_any x t wc HX9.out HTO.out).mono ?_
      rintro e w9 ⟨rfl, hw9⟩
      exact hK _ _ hw9 rfl
    | _ + 4, h => exact absurd h (by omega)
  · intro vals w3 hb hR
    have v0 := hR 0 (by omega)
    have v1 := hR 1 (by omega)
    have v2 := hR 2 (by omega)
    have v3 := hR 3 (by omega)
    simp only [leaveM2] at v0 v1 v2 v3
    clear hR
    simp only [putAll, slotM2, Nat.reduceAdd, List.setIfInBounds_toArray, List.set_cons_zero, List.set_cons_succ, List.drop_succ_cons, List.drop_zero, v0, v1, v2, v3]
    clear v0 v1 v2 v3
    have HB23 := Lib.hid hb
    have K3 := Lib.hid (HK.out _ hb)
    clear hb
    subst htt
    have d1 : decide (m < 1) = false := decide_eq_false (by have := HM.out; omega)
    have d2 : decide (39 < m) = false := decide_eq_false (by have := HM.out; omega)
    go_wp2_with (refine wpList_load_ino rfl _ rfl w.heap.size _ x rfl HX9.out K3.out ?_)
    refine (refMayI_any x true w3 HX9.out HTO.out).mono ?_
    rintro e w4 ⟨rfl, hb4⟩
    have HB24 := Lib.hid (HB23.out.trans (hb4.mono HB23.out.size))
    have HB4 := Lib.hid (HB2.out.trans (HB24.out.mono HB2.out.size))
    clear hb4 K3 HB23
    go_wp2_with fail
    refine (inoDecode_any m (some ⟨g, 0, none⟩) 128 128 B 0 x w4 HBL.out (HRB.out _ HB24.out) (Nat.le_refl _) (by simp [maxLen]) (HT.out.up HB4.out) HQ0.out HR0.out).mono ?_
    rintro e w5 ⟨rfl, hb5⟩
    have HB25 := Lib.hid (HB24.out.trans (hb5.mono HB24.out.size))
    have X5 := Lib.hid (layI_new w5)
    obtain ⟨gy, hgy⟩ : ∃ gy, w5.heap.size = gy := ⟨_, rfl⟩
    have HB25' := Lib.hid (HB25.out.trans (layI_below w5 x HB25.out.size))
    have Y5 := Lib.hid (layI_bk w5 x)
    have HGY := Lib.hid hgy
    clear hb5 hgy
    go_wp2_with (refine wpList_store_ino rfl _ _ rfl w5.heap.size _ _ x rfl rfl HX9.out rfl X5.out ?_)
    rw [← layI_def]
    rw [HGY.out] at Y5 ⊢
    obtain ⟨w5', hw5'⟩ : ∃ w5', layI w5 x = w5' := ⟨_, rfl⟩
    rw [hw5'] at HB25' Y5 ⊢
    clear hw5' X5 HB25 HGY
    have HB5 := Lib.hid (HB2.out.trans (HB25'.out.mono HB2.out.size))
    refine (inoDecode_any other (some ⟨g, 0, none⟩) 128 128 B q2 z w5' HBL.out (HRB.out _ HB25'.out) (Nat.le_refl _) (by simp [maxLen]) (HT.out.up HB5.out) HQ2.out HZ2.out).mono ?_
    rintro e w6 ⟨rfl, hb6⟩
    have HB26 := Lib.hid (HB25'.out.trans (hb6.mono HB25'.out.size))
    have X6 := Lib.hid (layI_new w6)
    obtain ⟨gz, hgz⟩ : ∃ gz, w6.heap.size = gz := ⟨_, rfl⟩
    have HB27 := Lib.hid (HB26.out.trans (layI_below w6 z HB26.out.size))
    have Y7 := Lib.hid ((Y5.out.below hb6 Y5.out.lt).layI z)
    have Z7 := Lib.hid (layI_bk w6 z)
    have HGZ := Lib.hid hgz
    clear hb6 Y5 HB25' hgz
    go_wp2_with (refine wpList_store_ino rfl _ _ rfl w6.heap.size _ _ z rfl rfl HZ9.out rfl X6.out ?_)
    rw [← layI_def]
    rw [HGZ.out] at Z7 ⊢
    obtain ⟨w7, hw7⟩ : ∃ w7, layI w6 z = w7 := ⟨_, rfl⟩
    rw [hw7] at HB27 Y7 Z7 ⊢
    clear hw7 X6 HGZ HB26 HB4 HB24 HB5
    have HK8 : Hid (∀ w', Below w7.heap.size w7 w' → Bk w' w.heap.size 27 (inoC x) ∧ Bk w' gy 27 (inoC x)) := fun w' hb => ⟨HK.out _ (HB27.out.trans (hb.mono HB27.out.size)), Y7.out.below hb Y7.out.lt⟩
    have HC : Hid (∀ w', Below w7.heap.size w7 w' → (convert 28 9 (.slice (some ⟨g, 0, none⟩) 128 128)).run Tryd.prog w' = .ok (.string (str B)) w') := fun w' hb =>
      run_conv 28 5 9 Tryd.underlying28 Tryd.underlying5 under_strI 128 128 HBL.out (HRB.out _ (HB27.out.trans (hb.mono HB27.out.size)))
    have HRE : Hid (∀ w', Calls Tryd.prog 13 #[.int .i64 m, .agg (inoC x)] w' fun e w'' => e = .returned (.string (str B)) ∧ Below w'.heap.size w' w'') := fun w' => by
      rw [← HB.out]; exact refEncodeI_any m x w' HX9.out HM.out HOK.out HS.out
    refine wp_region_tail (by kernel_rfl) 18 95 slotM8 waitM8 (leaveM8 g B m x) rfl
      (by kernel_rfl) (fun i v w w' _ _ h => by unfold leaveM8 at *; split at h <;> exact h) ?_ ?_
    · intro i hi
      match i, hi with
      | 0, _ =>
        intro o ho a wc hk hb hd K hK
        cases ho
        have e0 := hk.rest 7 (.slice (some ⟨g, 0, none⟩) 128 128) (by omega) (by kernel_rfl) rfl
        rw [Array.getD_eq_getD_getElem?] at e0
        go_simp
        exact hK _ _ (Below.refl _ _) rfl
      | 1, _ =>
        intro o ho a wc hk hb hd K hK
        cases ho
        have e0 := hd 0 (by simp [waitM8])
        simp only [leaveM8, slotM8, Nat.reduceAdd, Array.getD_eq_getD_getElem?] at e0
        have hcv := HC.out wc hb
        go_simp
        exact hK _ _ (Below.refl _ _) rfl
      | 2, _ =>
        intro o ho a wc hk hb hd K hK
        cases ho
        have e0 := hk.rest 0 (.int .i64 m) (by omega) (by kernel_rfl) rfl
        rw [Array.getD_eq_getD_getElem?] at e0
        go_simp
        exact hK _ _ (Below.refl _ _) rfl
      | 3, _ =>
        intro o ho a wc hk hb hd K hK
        cases ho
        have e0 := hk.rest 5 (.pointer (some ⟨w.heap.size, 0, none⟩)) (by omega) (by kernel_rfl) rfl
        rw [Array.getD_eq_getD_getElem?] at e0
        refine (if_pos (show Region.wanted _ _ = true from rfl)).mpr ?_
        rw [← Array.getD_eq_getD_getElem?] at e0
        exact wp_load_ino _ rfl w.heap.size _ x e0 HX9.out (HK8.out _ hb).1 (hK _ _ (Below.refl _ _) rfl)
      | 4, _ =>
        intro o ho a wc hk hb hd K hK
        cases ho
        have e0 := hd 2 (by simp [waitM8])
        have e1 := hd 3 (by simp [waitM8])
        simp only [leaveM8, slotM8, Nat.reduceAdd, Array.getD_eq_getD_getElem?] at e0 e1
        go_simp
        refine (HRE.out wc).mono ?_
        rintro e w9 ⟨rfl, hw9⟩
        exact hK _ _ hw9 rfl
      | 5, _ =>
        intro o ho a wc hk hb hd K hK
        cases ho
        have e0 := hd 1 (by simp [waitM8])
        have e1 := hd 4 (by simp [waitM8])
        simp only [leaveM8, slotM8, Nat.reduceAdd, Array.getD_eq_getD_getElem?] at e0 e1
        go_simp
        exact hK _ _ (Below.refl _ _) rfl
      | 6, _ =>
        intro o ho a wc hk hb hd K hK
        cases ho
        have e0 := hd 5 (by simp [waitM8])
        simp only [leaveM8, slotM8, Nat.reduceAdd, Array.getD_eq_getD_getElem?] at e0
        go_simp
        exact hK _ _ (Below.refl _ _) rfl
      | 7, _ =>
        intro o ho a wc hk hb hd K hK
        cases ho
        have e0 := hk.rest 8 (.int .i64 0) (by omega) (by kernel_rfl) rfl
        rw [Array.getD_eq_getD_getElem?] at e0
        have e1 := hd 6 (by simp [waitM8])
        simp only [leaveM8, slotM8, Nat.reduceAdd, Array.getD_eq_getD_getElem?] at e1
        have gs := hk.some_ (s := 63) (by omega) e1
        go_simp
        exact hK _ _ (Below.refl _ _) rfl
      | 8, _ =>
        intro o ho a wc hk hb hd K hK
        cases ho
        have e0 := hd 6 (by simp [waitM8])
        have e1 := hd 7 (by simp [waitM8])
        simp only [leaveM8, slotM8, Nat.reduceAdd, Array.getD_eq_getD_getElem?] at e0 e1
        have gs := hk.some_ (s := 63) (by omega) e0
        go_simp
        exact hK _ _ (Below.refl _ _) rfl
      | 9, _ =>
        intro o ho a wc hk hb hd K hK
        cases ho
        have e0 := hd 6 (by simp [waitM8])
        have e1 := hd 8 (by simp [waitM8])
        simp only [leaveM8, slotM8, Nat.reduceAdd, Array.getD_eq_getD_getElem?] at e0 e1
        go_simp
        exact hK _ _ (Below.refl _ _) rfl
      | 10, _ =>
        intro o ho a wc hk hb hd K hK
        cases ho
        have e0 := hd 9 (by simp [waitM8])
        simp only [leaveM8, slotM8, Nat.reduceAdd, Array.getD_eq_getD_getElem?] at e0
        go_simp
        exact hK _ _ (Below.refl _ _) rfl
      | 11, _ =>
        intro o ho a wc hk hb hd K hK
        cases ho
        have e0 := hk.rest 9 (.pointer (some ⟨gy, 0, none⟩)) (by omega) (by kernel_rfl) rfl
        rw [Array.getD_eq_getD_getElem?] at e0
        have e1 := hd 10 (by simp [waitM8])
        simp only [leaveM8, slotM8, Nat.reduceAdd, Array.getD_eq_getD_getElem?] at e1
        have gs := hk.some_ (s := 67) (by omega) e1
        refine (if_pos (show Region.wanted _ _ = true from by simp [Region.wanted, yielded, gs])).mpr ?_
        rw [← Array.getD_eq_getD_getElem?] at e0
        exact wp_load_ino _ rfl gy _ x e0 HX9.out (HK8.out _ hb).2 (hK _ _ (Below.refl _ _) rfl)
      | 12, _ =>
        intro o ho a wc hk hb hd K hK
        cases ho
        have e0 := hk.rest 5 (.pointer (some ⟨w.heap.size, 0, none⟩)) (by omega) (by kernel_rfl) rfl
        rw [Array.getD_eq_getD_getElem?] at e0
        have e1 := hd 10 (by simp [waitM8])
        simp only [leaveM8, slotM8, Nat.reduceAdd, Array.getD_eq_getD_getElem?] at e1
        have gs := hk.some_ (s := 67) (by omega) e1
        refine (if_pos (show Region.wanted _ _ = true from by simp [Region.wanted, yielded, gs])).mpr ?_
        rw [← Array.getD_eq_getD_getElem?] at e0
        exact wp_load_ino _ rfl w.heap.size _ x e0 HX9.out (HK8.out _ hb).1 (hK _ _ (Below.refl _ _) rfl)
      | 13, _ =>
        intro o ho a wc hk hb hd K hK
        cases ho
        have e0 := hd 10 (by simp [waitM8])
        have e1 := hd 11 (by simp [waitM8])
        have e2 := hd 12 (by simp [waitM8])
        simp only [leaveM8, slotM8, Nat.reduceAdd, Array.getD_eq_getD_getElem?] at e0 e1 e2
        have gs := hk.some_ (s := 67) (by omega) e0
        refine (if_pos (show Region.wanted _ _ = true from by simp [Region.wanted, yielded, gs])).mpr ?_
        rw [← Array.getD_eq_getD_getElem?] at e1 e2
        exact wp_neq_ino _ _ _ rfl x x true e1 e2 HX9.out HX9.out HXI.out HXI.out ⟨fun _ => rfl, fun _ => rfl⟩ (hK _ _ (Below.refl _ _) rfl)
      | 14, _ =>
        intro o ho a wc hk hb hd K hK
        cases ho
        have e0 := hd 10 (by simp [waitM8])
        have e1 := hd 13 (by simp [waitM8])
        simp only [leaveM8, slotM8, Nat.reduceAdd, Array.getD_eq_getD_getElem?] at e0 e1
        go_simp
        exact hK _ _ (Below.refl _ _) rfl
      | 15, _ =>
        intro o ho a wc hk hb hd K hK
        cases ho
        have e0 := hd 14 (by simp [waitM8])
        simp only [leaveM8, slotM8, Nat.reduceAdd, Array.getD_eq_getD_getElem?] at e0
        go_simp
        exact hK _ _ (Below.refl _ _) rfl
      | 16, _ =>
        intro o ho a wc hk hb hd K hK
        cases ho
        have e0 := hk.rest 10 (.int .i64 0) (by omega) (by kernel_rfl) rfl
        rw [Array.getD_eq_getD_getElem?] at e0
        have e1 := hd 15 (by simp [waitM8])
        simp only [leaveM8, slotM8, Nat.reduceAdd, Array.getD_eq_getD_getElem?] at e1
        have gs := hk.some_ (s := 72) (by omega) e1
        go_simp
        exact hK _ _ (Below.refl _ _) rfl
      | 17, _ =>
        intro o ho a wc hk hb hd K hK
        cases ho
        have e0 := hd 15 (by simp [waitM8])
        have e1 := hd 16 (by simp [waitM8])
        simp only [leaveM8, slotM8, Nat.reduceAdd, Array.getD_eq_getD_getElem?] at e0 e1
        have gs := hk.some_ (s := 72) (by omega) e0
        go_simp
        exact hK _ _ (Below.refl _ _) rfl
      | _ + 18, h => exact absurd h (by omega)
    · intro vals w8 hb hR
      have v0 := hR 0 (by omega)
      have v1 := hR 1 (by omega)
      have v2 := hR 2 (by omega)
      have v3 := hR 3 (by omega)
      have v4 := hR 4 (by omega)
      have v5 := hR 5 (by omega)
      have v6 := hR 6 (by omega)
      have v7 := hR 7 (by omega)
      have v8 := hR 8 (by omega)
      have v9 := hR 9 (by omega)
      have v10 := hR 10 (by omega)
      have v11 := hR 11 (by omega)
      have v12 := hR 12 (by omega)
      have v13 := hR 13 (by omega)
      have v14 := hR 14 (by omega)
      have v15 := hR 15 (by omega)
      have v16 := hR 16 (by omega)
      have v17 := hR 17 (by omega)
      simp only [leaveM8] at v0 v1 v2 v3 v4 v5 v6 v7 v8 v9 v10 v11 v12 v13 v14 v15 v16 v17
      clear hR
      simp only [putAll, slotM8, Nat.reduceAdd, List.setIfInBounds_toArray, List.set_cons_zero, List.set_cons_succ, List.drop_succ_cons, List.drop_zero, v0, v1, v2, v3, v4, v5, v6, v7, v8, v9, v10, v11, v12, v13, v14, v15, v16, v17]
      clear v0 v1 v2 v3 v4 v5 v6 v7 v8 v9 v10 v11 v12 v13 v14 v15 v16 v17
      have Z8 := Lib.hid (Z7.out.below hb Z7.out.lt)
      have X8 := Lib.hid (HK8.out _ hb).1
      have HB28 := Lib.hid (HB27.out.trans (hb.mono HB27.out.size))
      have HB8 := Lib.hid (HB2.out.trans (HB28.out.mono HB2.out.size))
      clear hb HK8 HC HRE Y7 Z7 HB27 HB28 HRB HK HB2
      by_cases ho : other = m
      · subst ho
        obtain rfl : z = x := HZ2.out.symm.trans HR0.out
        go_wp2_with (first | (refine wpList_load_ino rfl _ rfl gz _ z rfl HX9.out Z8.out ?_) | (refine wpList_load_ino rfl _ rfl w.heap.size _ z rfl HX9.out X8.out ?_) | (refine wpList_eql_ino rfl _ _ _ rfl z z true rfl rfl HX9.out HX9.out HXI.out HXI.out ⟨fun _ => rfl, fun _ => rfl⟩ ?_))
        refine (awakeI_any _ (HT.out.up HB8.out)).mono ?_
        rintro e w9 ⟨rfl, hb9⟩
        have HB9 := Lib.hid (HB8.out.trans (hb9.mono HB8.out.size))
        clear hb9
        go_wp2
        go_ret
        exact ⟨rfl, HB9.out⟩
      · obtain ⟨hq, rfl⟩ := HNE.out ho
        have hne : (other == m) = false := by simp [ho]
        have hq0 : (q2 == 0) = false := by simp [hq]
        have hq1 : (q2 != 0) = true := by simp [hq]
        have hq3 : decide (q2 = 0) = false := decide_eq_false hq
        clear ho
        go_wp2_with (first | (refine wpList_load_ino rfl _ rfl gz _ noI rfl rfl Z8.out ?_) | (refine wpList_eql_ino rfl _ _ _ rfl noI noI true rfl rfl rfl rfl noI_inoI noI_inoI ⟨fun _ => rfl, fun _ => rfl⟩ ?_))
        refine (awakeI_any _ (HT.out.up HB8.out)).mono ?_
        rintro e w9 ⟨rfl, hb9⟩
        have HB9 := Lib.hid (HB8.out.trans (hb9.mono HB8.out.size))
        clear hb9
        go_wp2
        go_ret
        exact ⟨rfl, HB9.out⟩

theorem walk (m other : Int) (x : Ino) (w : World) (hx9 : x.p.length = 9) (hxi : inoI x) (hT : Tab w) :
    Calls Tryd.prog 3 #[.int .i64 m, .int .i64 other, .agg (inoC x)] w fun e w' => e = .returned (.bool true) ∧ Below w.heap.size w w' := by
  by_cases hm : 1 ≤ m ∧ m ≤ 39
  · cases ht : inoOk x with
    | true => exact walk_yes m other x w hx9 hxi hm ht (fun q hq => (hxi.2.2.2.2.2 q hq).2) hT
    | false => exact walk_no m other x false w hx9 ht hT (.inr rfl)
  · exact walk_no m other x _ w hx9 rfl hT (.inl hm)

set_option maxRecDepth 100000 in
theorem lifted (os : Os) (started : os.Started) (H : Type) (enc : TypeId × Value → H) :
    ReturnsInHanded {} Tryd.checked os 3 .any (fun w args => (Rows.inodeEncodesSpec.pre enc Tryd.prog Tryd.f3 [] false w args ∧ laidMetH Tryd.prog laidHalves w) ∧ sizedMet enc Tryd.prog Tryd.f3 (OpenSpec.ofChange Rows.inodeEncodesSpec) false w args) (Rows.inodeEncodesSpec.post enc Tryd.prog Tryd.f3 false true false false) := by
  refine returnsInHanded_of_change_and (C := Tryd.checked) (X := fun w _ => laidMetH Tryd.prog laidHalves w) (fun _ _ _ hh h => h.of_heap hh) own started (by kernel_rfl) Tryd.func3
    (ChangeSpec.witness_shaped (enc := enc) (C := Tryd.checked) (os := os) (X := fun w _ => laidMetH Tryd.prog laidHalves w) false (World.doorLaid Tryd.prog 400 os) #[.int .i64 0, .int .i64 0, .agg #[.int .i64 0, .int .i64 0, .int .i64 0, .int .i64 0, .int .i64 0, .int .i64 0, .int .u32 0, .int .i64 0, .int .u32 0, .int .i64 0, .int .u32 0, .int .i64 0, .int .u32 0, .int .i64 0, .int .u32 0, .int .i64 0, .int .u32 0, .int .i64 0, .int .u32 0, .int .i64 0, .int .u32 0, .int .i64 0, .int .u32 0]] 8 rfl (World.shaped_of_RefB (by kernel_rfl) (by kernel_rfl)) (by kernel_rfl) (by kernel_rfl) (by kernel_rfl) (door_met os _)) ?_
  intro W base args ds gs before hval0 hW _ _ hL _
  have hTab := tab_of_laid hL
  have hval : ∀ (j : Nat) t v, Tryd.f3.params[j]? = some t → args[j]? = some v → Value.okWide Tryd.prog W .any base t v := hval0
  have hW' := hW
  obtain ⟨p, q, hA0, hV, rfl, hfz, hnd⟩ := hW
  have hA : DataW.TrodAll enc Tryd.prog W 0 (fun _ => true) true Tryd.f3.params.toList args.toList ds p := hA0
  rw [Tryd.params3] at hA hval
  obtain ⟨v0, vs0, d0, ds0, p0, q0, hargs, rfl, rfl, h0, r0⟩ := trodAll_cons hA
  obtain ⟨v1, vs1, d1, ds1, p1, q1, rfl, rfl, rfl, h1, r1⟩ := trodAll_cons r0
  obtain ⟨v2, vs2, d2, ds2, p2, q2, rfl, rfl, rfl, h2, r2⟩ := trodAll_cons r1
  obtain ⟨rfl, rfl, rfl⟩ := trodAll_nil r2
  obtain rfl : args = #[v0, v1, v2] := by cases args; simp_all
  obtain ⟨rfl, rfl⟩ := trodVars_none hV
  obtain ⟨x0, rfl, rfl, rfl, wx0⟩ := open_int Tryd.underlying3 (hval 0 3 v0 rfl rfl) h0
  have hx0 := bounds_i64 wx0
  obtain ⟨x1, rfl, rfl, rfl, wx1⟩ := open_int Tryd.underlying3 (hval 1 3 v1 rfl rfl) h1
  have hx1 := bounds_i64 wx1
  have lt2 : ∀ x ∈ p2, x.block < W.heap.size := by obtain ⟨m, hm⟩ := h2; exact DataW.trod_lt m _ _ _ hm
  obtain ⟨y2_0, hp2, hi2, rfl⟩ := ino_in (hval 2 27 v2 rfl rfl) h2
  clear hA0 hval0
  refine (walk x0 x1 y2_0 W hp2 hi2 hTab).mono fun e W' ⟨he, bel⟩ => ?_
  subst he
  exact ⟨_, rfl, _, _, _, [], _, [], hW', trodAll_mk1 (shut_bool Tryd.underlying4 _), (trodAll_cons_mk (shut_int Tryd.underlying3 wx0) (trodAll_cons_mk (shut_int Tryd.underlying3 wx1) (trodAll_cons_mk (Below.trod laidOut (by kernel_rfl) (of_decide_eq_true (by kernel_rfl)) h2 bel lt2) trodAll_mk0))), rfl, bel.frame _, fun h => by cases h⟩

theorem over : Rows.inodeEncodesRow.holds Tryd.pinned (OpenSpec.ofChange Rows.inodeEncodesSpec) :=
  OpenClaim.holds_of_wide 3 Tryd.f3 rfl rfl rfl rfl rfl rfl rfl ⟨rfl, rfl, rfl, rfl, rfl⟩ rfl rfl rfl rfl rfl (by kernel_rfl) Tryd.func3 (by kernel_rfl)
    (of_decide_eq_true (by kernel_rfl)) (by unfold Func.isWrapper; first | (rw [if_pos (by decide +kernel)]; kernel_rfl) | (rw [if_neg (by decide +kernel)]; exact ⟨rfl, rfl⟩))
    (fun os started H enc _ => lifted os started H enc)

theorem proved : Rows.InodeEncodesCardSaid :=
  Claim7.holds_tied_plain_at .later [] [.data] true _ false
    over (fun _ h => by cases h) (by kernel_rfl) (fun _ h => by cases h) inodeEncodes_row_tie rfl ⟨rfl, rfl⟩ (by kernel_rfl) rfl
    (fun f fn hf hfn => by
      obtain rfl : f = 3 := Option.some.inj ((show Tryd.prog.funcNamed "haymow/haymowlaw07.InodeEncodes" = some 3 by kernel_rfl).symm.trans hf) |>.symm
      obtain rfl : fn = Tryd.f3 := (Option.some.inj (Tryd.func3.symm.trans hfn)).symm
      exact ⟨by kernel_rfl, fun j t ht => by
        rw [Tryd.params3] at ht
        have hm : t ∈ [3, 3, 27] := by simpa using Array.mem_of_getElem? ht
        have hall : ([3, 3, 27].all fun u => !Tryd.prog.wantsStandIn u) = true := by kernel_rfl
        exact (show Tryd.prog.wantsStandIn t = false by simpa using List.all_eq_true.1 hall t hm)⟩)
    (by kernel_rfl)
#print axioms proved
end Go.Proofs.YtjhnabhieihifaaDoor.inodeEncodes
