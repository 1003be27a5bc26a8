/-
  What summary.Encode does. (Printed by wip/tools/sum3.py.)
-/
import Derived.Test.YtjibjojnkieliaaDoorSum2
import Derived.Test.YtjibjojnkieliaaDoorCrcSeal
import Derived.Test.YtjibjojnkieliaaDoorRegTail
namespace Go.Proofs.YtjibjojnkieliaaDoor
open Go.RowKit
set_option linter.unusedVariables false

/-- a new slice of numbers -/
def SumNums (base : Nat) (l : List Num') (n : Nat) (v : Value) (w : World) : Prop := ∃ g : Nat, v = .slice (some ⟨g, 0, none⟩) n n ∧ base ≤ g ∧ Bk w g 55 (numsV l).toArray
theorem SumNums.up {base : Nat} {l : List Num'} {n : Nat} {v : Value} {w w' : World} (h : SumNums base l n v w) (hb : Below w.heap.size w w') : SumNums base l n v w' := by
  obtain ⟨g, rfl, hg, hr⟩ := h
  exact ⟨g, rfl, hg, hr.below hb hr.lt⟩
theorem SumNums.new {base : Nat} (w : World) (cs : Array Value) (l : List Num') {n : Nat} (hB : base ≤ w.heap.size) (h : cs = (numsV l).toArray) : SumNums base l n (.slice (some ⟨w.heap.size, 0, none⟩) n n) (w.alloc (.cells cs 55)) :=
  ⟨_, rfl, hB, by rw [← h]; exact Bk.new w _ cs⟩
theorem own_of_bk' {w : World} {base e : Nat} {size g n : Nat} {xs : List Value} (h : Bk w g e xs.toArray) (hb : base ≤ g) (hl : xs.length = n * size) (hm : n ≤ maxLen) : w.ownsRow base e size (.slice (some ⟨g, 0, none⟩) n n) n xs :=
  ⟨by omega, .inr ⟨g, n, xs.toArray, rfl, hb, h, Nat.le_refl _, hm, by simp; omega, by rw [List.take_of_length_le (by simp; omega)]⟩⟩
theorem info_num : (Tryd.prog.info? 55).map (fun i => (i.zero, i.size, i.bytes)) = some (some (.agg #[.int .i64 0, .int .u64 0]), 2, 16) := by kernel_rfl

theorem sumEncode_no (s x : Int) (f : Bool) (B : Nat) (A : Option Addr) (n c : Nat) (l : List En) (w : World) (hl : l.length = n) (hn : n ≤ 9223372036854775807) (hr : Rd w B A (ensV l)) (hB : B ≤ w.heap.size) (h : ptOk ⟨s, x, f, l⟩ = false) :
    Calls Tryd.prog 9 #[ptV s x f A n c] w fun e w' => e = .returned (.tuple #[.slice none 0 0, .int .i64 1]) ∧ Below w.heap.size w w' := by
  have K0 := Bk.new w 24 #[.int .i64 s, .int .i64 x, .bool f, .slice A n c]
  have HB0 := Lib.hid ((Below.refl w.heap.size w).alloc (Nat.le_refl _) (.cells #[.int .i64 s, .int .i64 x, .bool f, .slice A n c] 24))
  obtain ⟨k0, k1, k2, k3, -⟩ := ent_cells K0
  have HM := Lib.hid (sumMay_any s x f B A n c l false _ hl hn (hr.below (HB0.out.mono hB)) (Nat.le_trans hB HB0.out.size) h)
  clear h hr hl
  unfold ptV at HM ⊢
  go_enter Tryd.func9, Tryd.ntmps9
  go_wp2_with fail
  refine HM.out.mono ?_
  rintro e w1 ⟨rfl, hb1⟩
  have HB1 := Lib.hid (HB0.out.trans (hb1.mono HB0.out.size))
  clear hb1
  go_wp2
  go_ret2
  exact ⟨rfl, HB1.out⟩

def slotS3 (i : Nat) : Nat := 12 + i
def waitS3 : Nat → List Nat
  | 2 => [1]
  | 3 => [2]
  | 5 => [4]
  | 6 => [5]
  | 8 => [7]
  | 9 => [8]
  | 10 => [9]
  | 12 => [11]
  | 13 => [12]
  | 14 => [13]
  | 15 => [0, 3, 6, 10, 14]
  | 16 => [15]
  | _ => []
def leaveS3 (b : Nat) (s x : Int) (f : Bool) (A : Option Addr) (n c : Nat) (l : List En) : Nat → Value → World → Prop
  | 0, v, _ => v = .agg #[.int .i64 4, .int .u64 1752397165]
  | 1, v, _ => v = .pointer (some ⟨b, 0, none⟩)
  | 2, v, _ => v = .int .i64 s
  | 3, v, _ => v = .agg #[.int .i64 6, .int .u64 s]
  | 4, v, _ => v = .pointer (some ⟨b, 1, none⟩)
  | 5, v, _ => v = .int .i64 x
  | 6, v, _ => v = .agg #[.int .i64 4, .int .u64 x]
  | 7, v, _ => v = .pointer (some ⟨b, 3, none⟩)
  | 8, v, _ => v = .slice A n c
  | 9, v, _ => v = .int .i64 n
  | 10, v, _ => v = .agg #[.int .i64 1, .int .u64 n]
  | 11, v, _ => v = .pointer (some ⟨b, 2, none⟩)
  | 12, v, _ => v = .bool f
  | 13, v, _ => v = .int .i64 (finN f)
  | 14, v, _ => v = .agg #[.int .i64 1, .int .u64 (finN f : Nat)]
  | 15, v, w => SumNums b (headR ⟨s, x, f, l⟩) 5 v w
  | _, _, _ => True
theorem leaveS3_mono (b : Nat) (s x : Int) (f : Bool) (A : Option Addr) (n c : Nat) (l : List En) (w0 : World) (i : Nat) (v' : Value) (w w' : World) (_ : Below w0.heap.size w0 w) (hb : Below w.heap.size w w') (h : leaveS3 b s x f A n c l i v' w) : leaveS3 b s x f A n c l i v' w' := by
  unfold leaveS3 at *
  split at h <;> first | exact h | exact SumNums.up h hb

def slotS7 (i : Nat) : Nat := 35 + i
def waitS7 : Nat → List Nat
  | 2 => [1]
  | 3 => [2]
  | 5 => [4]
  | 6 => [5]
  | 8 => [7]
  | 9 => [8]
  | 11 => [10]
  | 12 => [11]
  | 13 => [12]
  | 14 => [3, 6, 9, 13]
  | 15 => [0, 14]
  | _ => []
def leaveS7 (B0 b : Nat) (r : Value) (y1 y2 y3 : Int) (y4 : Nat) : Nat → Value → World → Prop
  | 0, v, _ => v = r
  | 1, v, _ => v = .pointer (some ⟨b, 0, none⟩)
  | 2, v, _ => v = .int .i64 y1
  | 3, v, _ => v = .agg #[.int .i64 1, .int .u64 y1]
  | 4, v, _ => v = .pointer (some ⟨b, 1, none⟩)
  | 5, v, _ => v = .int .i64 y2
  | 6, v, _ => v = .agg #[.int .i64 1, .int .u64 y2]
  | 7, v, _ => v = .pointer (some ⟨b, 2, none⟩)
  | 8, v, _ => v = .int .i64 y3
  | 9, v, _ => v = .agg #[.int .i64 2, .int .u64 y3]
  | 10, v, _ => v = .pointer (some ⟨b, 3, none⟩)
  | 11, v, _ => v = .int .u32 (y4 : Int)
  | 12, v, _ => v = .int .u64 (y4 : Int)
  | 13, v, _ => v = .agg #[.int .i64 4, .int .u64 (y4 : Int)]
  | 14, v, w => SumNums B0 (enR ⟨y1, y2, y3, y4⟩) 4 v w
  | _, _, _ => True
theorem leaveS7_mono (B0 b : Nat) (r : Value) (y1 y2 y3 : Int) (y4 : Nat) (w0 : World) (i : Nat) (v' : Value) (w w' : World) (_ : Below w0.heap.size w0 w) (hb : Below w.heap.size w w') (h : leaveS7 B0 b r y1 y2 y3 y4 i v' w) : leaveS7 B0 b r y1 y2 y3 y4 i v' w' := by
  unfold leaveS7 at *
  split at h <;> first | exact h | exact SumNums.up h hb

set_option maxRecDepth 100000 in
set_option maxHeartbeats 4000000 in
theorem sumEncode_yes (s x : Int) (f : Bool) (B : Nat) (A : Option Addr) (n c : Nat) (l : List En) (w : World) (hl : l.length = n) (hr : Rd w B A (ensV l)) (hB : B ≤ w.heap.size) (h : ptOk ⟨s, x, f, l⟩ = true) (hs : sumsOk l) (ht : Tab w) :
    Calls Tryd.prog 9 #[ptV s x f A n c] w fun e w' => ∃ g, e = .returned (.tuple #[.slice (some ⟨g, 0, none⟩) 128 128, .int .i64 0]) ∧ w.heap.size ≤ g ∧ Bk w' g 5 ((octB ⟨s, x, f, l⟩).map bv).toArray ∧ Below w.heap.size w w' := by
  obtain ⟨i0, hi, hz0, hz1, hz2⟩ := info_parts info_num
  have hi := Lib.hid hi
  have hz0 := Lib.hid hz0
  have hz1 := Lib.hid hz1
  have hz2 := Lib.hid hz2
  obtain ⟨m1, m2, m3, m4, m5, m6⟩ := headOk_yes (ptOk_yes h).1
  simp only [hl] at m1 m2 m3 m4 m5 m6
  have HOKS : Hid (∀ y ∈ l, enOk y = true) := (ptOk_yes h).2
  have K0 := Bk.new w 24 #[.int .i64 s, .int .i64 x, .bool f, .slice A n c]
  have HB0 := Lib.hid ((Below.refl w.heap.size w).alloc (Nat.le_refl _) (.cells #[.int .i64 s, .int .i64 x, .bool f, .slice A n c] 24))
  obtain ⟨k0, k1, k2, k3, -⟩ := ent_cells K0
  have HM := Lib.hid (sumMay_any s x f B A n c l true _ hl (by omega) (hr.below (HB0.out.mono hB)) (Nat.le_trans hB HB0.out.size) h)
  have HR := Lib.hid hr
  have HL := Lib.hid hl
  have HOK := Lib.hid h
  have HS := Lib.hid hs
  have HTW := Lib.hid ht
  have hfin : (finN f : Int) ≤ 1 := by unfold finN; split <;> omega
  have K0 := Lib.hid K0
  clear h hr hl hs ht
  unfold ptV at HM ⊢
  go_enter Tryd.func9, Tryd.ntmps9
  go_wp2_with fail
  refine HM.out.mono ?_
  rintro e w1 ⟨rfl, hb1⟩
  have HB1 := Lib.hid (HB0.out.trans (hb1.mono HB0.out.size))
  have K1 := Lib.hid (K0.out.below hb1 K0.out.lt)
  have HZ := Lib.hid HB1.out.size
  have HK : Hid (∀ w', Below w1.heap.size w1 w' → Bk w' w.heap.size 24 #[.int .i64 s, .int .i64 x, .bool f, .slice A n c]) := fun w' hb => K1.out.below hb K1.out.lt
  clear hb1 k0 k1 k2 k3 HB0 HM K0
  go_wp2_with fail
  refine wp_region_tail (by kernel_rfl) 16 64 slotS3 waitS3 (leaveS3 w.heap.size s x f A n c l) rfl
    (by kernel_rfl) (leaveS3_mono _ _ _ _ _ _ _ _ _) ?_ ?_
  · intro i hi
    match i, hi with
    | 0, _ =>
      intro o ho a wc hk hb hd K hK
      cases ho
      go_simp
      refine (sumNumber_any 4 1752397165 wc (by omega) (by omega)).mono ?_
      rintro e w3 ⟨rfl, hw3⟩
      exact hK _ _ hw3 rfl
    | 1, _ =>
      intro o ho a wc hk hb hd K hK
      cases ho
      have e0 := hk.rest 1 (.pointer (some ⟨w.heap.size, 0, none⟩)) (by omega) (by kernel_rfl) rfl
      rw [Array.getD_eq_getD_getElem?] at e0
      go_simp
      exact hK _ _ (Below.refl _ _) rfl
    | 2, _ =>
      intro o ho a wc hk hb hd K hK
      cases ho
      have e0 := hd 1 (by simp [waitS3])
      simp only [leaveS3, slotS3, Nat.reduceAdd, Array.getD_eq_getD_getElem?] at e0
      obtain ⟨c0, c1, c2, c3, -⟩ := ent_cells (HK.out _ hb)
      go_simp
      exact hK _ _ (Below.refl _ _) rfl
    | 3, _ =>
      intro o ho a wc hk hb hd K hK
      cases ho
      have e0 := hd 2 (by simp [waitS3])
      simp only [leaveS3, slotS3, Nat.reduceAdd, Array.getD_eq_getD_getElem?] at e0
      go_simp
      refine (sumNumber_any 6 s wc (by omega) (by omega)).mono ?_
      rintro e w3 ⟨rfl, hw3⟩
      exact hK _ _ hw3 rfl
    | 4, _ =>
      intro o ho a wc hk hb hd K hK
      cases ho
      have e0 := hk.rest 1 (.pointer (some ⟨w.heap.size, 0, none⟩)) (by omega) (by kernel_rfl) rfl
      rw [Array.getD_eq_getD_getElem?] at e0
      go_simp
      exact hK _ _ (Below.refl _ _) rfl
    | 5, _ =>
      intro o ho a wc hk hb hd K hK
      cases ho
      have e0 := hd 4 (by simp [waitS3])
      simp only [leaveS3, slotS3, Nat.reduceAdd, Array.getD_eq_getD_getElem?] at e0
      obtain ⟨c0, c1, c2, c3, -⟩ := ent_cells (HK.out _ hb)
      go_simp
      exact hK _ _ (Below.refl _ _) rfl
    | 6, _ =>
      intro o ho a wc hk hb hd K hK
      cases ho
      have e0 := hd 5 (by simp [waitS3])
      simp only [leaveS3, slotS3, Nat.reduceAdd, Array.getD_eq_getD_getElem?] at e0
      go_simp
      refine (sumNumber_any 4 x wc (by omega) (by omega)).mono ?_
      rintro e w3 ⟨rfl, hw3⟩
      exact hK _ _ hw3 rfl
    | 7, _ =>
      intro o ho a wc hk hb hd K hK
      cases ho
      have e0 := hk.rest 1 (.pointer (some ⟨w.heap.size, 0, none⟩)) (by omega) (by kernel_rfl) rfl
      rw [Array.getD_eq_getD_getElem?] at e0
      go_simp
      exact hK _ _ (Below.refl _ _) rfl
    | 8, _ =>
      intro o ho a wc hk hb hd K hK
      cases ho
      have e0 := hd 7 (by simp [waitS3])
      simp only [leaveS3, slotS3, Nat.reduceAdd, Array.getD_eq_getD_getElem?] at e0
      obtain ⟨c0, c1, c2, c3, -⟩ := ent_cells (HK.out _ hb)
      go_simp
      exact hK _ _ (Below.refl _ _) rfl
    | 9, _ =>
      intro o ho a wc hk hb hd K hK
      cases ho
      have e0 := hd 8 (by simp [waitS3])
      simp only [leaveS3, slotS3, Nat.reduceAdd, Array.getD_eq_getD_getElem?] at e0
      go_simp
      exact hK _ _ (Below.refl _ _) rfl
    | 10, _ =>
      intro o ho a wc hk hb hd K hK
      cases ho
      have e0 := hd 9 (by simp [waitS3])
      simp only [leaveS3, slotS3, Nat.reduceAdd, Array.getD_eq_getD_getElem?] at e0
      go_simp
      refine (sumNumber_any 1 n wc (by omega) (by omega)).mono ?_
      rintro e w3 ⟨rfl, hw3⟩
      exact hK _ _ hw3 rfl
    | 11, _ =>
      intro o ho a wc hk hb hd K hK
      cases ho
      have e0 := hk.rest 1 (.pointer (some ⟨w.heap.size, 0, none⟩)) (by omega) (by kernel_rfl) rfl
      rw [Array.getD_eq_getD_getElem?] at e0
      go_simp
      exact hK _ _ (Below.refl _ _) rfl
    | 12, _ =>
      intro o ho a wc hk hb hd K hK
      cases ho
      have e0 := hd 11 (by simp [waitS3])
      simp only [leaveS3, slotS3, Nat.reduceAdd, Array.getD_eq_getD_getElem?] at e0
      obtain ⟨c0, c1, c2, c3, -⟩ := ent_cells (HK.out _ hb)
      go_simp
      exact hK _ _ (Below.refl _ _) rfl
    | 13, _ =>
      intro o ho a wc hk hb hd K hK
      cases ho
      have e0 := hd 12 (by simp [waitS3])
      simp only [leaveS3, slotS3, Nat.reduceAdd, Array.getD_eq_getD_getElem?] at e0
      go_simp
      refine (sumflag_any f wc).mono ?_
      rintro e w3 ⟨rfl, rfl⟩
      exact hK _ _ (Below.refl _ _) rfl
    | 14, _ =>
      intro o ho a wc hk hb hd K hK
      cases ho
      have e0 := hd 13 (by simp [waitS3])
      simp only [leaveS3, slotS3, Nat.reduceAdd, Array.getD_eq_getD_getElem?] at e0
      go_simp
      refine (sumNumber_any 1 (finN f : Nat) wc (by omega) (by omega)).mono ?_
      rintro e w3 ⟨rfl, hw3⟩
      exact hK _ _ hw3 rfl
    | 15, _ =>
      intro o ho a wc hk hb hd K hK
      cases ho
      have e0 := hd 0 (by simp [waitS3])
      have e1 := hd 3 (by simp [waitS3])
      have e2 := hd 6 (by simp [waitS3])
      have e3 := hd 10 (by simp [waitS3])
      have e4 := hd 14 (by simp [waitS3])
      simp only [leaveS3, slotS3, Nat.reduceAdd, Array.getD_eq_getD_getElem?] at e0 e1 e2 e3 e4
      go_simp
      exact hK _ _ ((Below.refl _ _).alloc (Nat.le_refl _) _) (SumNums.new wc _ _ (Nat.le_trans HZ.out hb.size) (by have := HL.out; simp [headR, numsV]; omega))
    | _ + 16, h => exact absurd h (by omega)
  · intro vals w2 hb hR
    have v0 := hR 0 (by omega)
    have v1 := hR 1 (by omega)
    have v2 := hR 2 (by omega)
    have v3 := hR 3 (by omega)
    have v4 := hR 4 (by omega)
    have v5 := hR 5 (by omega)
    have v6 := hR 6 (by omega)
    have v7 := hR 7 (by omega)
    have v8 := hR 8 (by omega)
    have v9 := hR 9 (by omega)
    have v10 := hR 10 (by omega)
    have v11 := hR 11 (by omega)
    have v12 := hR 12 (by omega)
    have v13 := hR 13 (by omega)
    have v14 := hR 14 (by omega)
    have v15 := hR 15 (by omega)
    simp only [leaveS3] at v0 v1 v2 v3 v4 v5 v6 v7 v8 v9 v10 v11 v12 v13 v14 v15
    clear hR
    simp only [putAll, slotS3, Nat.reduceAdd, List.setIfInBounds_toArray, List.set_cons_zero, List.set_cons_succ, List.drop_succ_cons, List.drop_zero, v0, v1, v2, v3, v4, v5, v6, v7, v8, v9, v10, v11, v12, v13, v14]
    clear v0 v1 v2 v3 v4 v5 v6 v7 v8 v9 v10 v11 v12 v13 v14
    obtain ⟨g0, v15, hg0, hbk⟩ := v15
    rw [v15]
    have HB2 := Lib.hid (HB1.out.trans (hb.mono HB1.out.size))
    have HW := Lib.hid (own_of_bk' (w := w2) (base := w.heap.size) (size := 2) (n := 5) hbk hg0 (by simp [headR, numsV]) (by unfold maxLen; omega))
    have K2 := Lib.hid (HK.out _ hb)
    obtain ⟨k0, k1, k2, k3, -⟩ := ent_cells K2.out
    clear hb hbk v15 hg0 HK K1 HB1 HZ
    go_wp2
    go_loopw [4, 31] (fun r i wr => ∃ k : Nat, k ≤ n ∧ i = .int .i64 k ∧ Hid (wr.ownsRow w.heap.size 55 2 r (5 + 4 * k) (numsV (headR ⟨s, x, f, l⟩ ++ ensR (l.take k)))) ∧ Hid (Below w.heap.size w wr)) (fun _ i _ => n - (intOf i).toNat)
    case atStart => exact ⟨0, Nat.zero_le _, rfl, by simpa [ensR, Hid] using HW.out, HB2.out⟩
    case round =>
      obtain ⟨k, hk, rfl, HOWN, HB⟩ := hrel
      obtain ⟨Ar, cr, hre, hcr, hcm⟩ := own_len HOWN.out
      subst hre
      clear k0 k1 k2 k3 HW HB2
      by_cases hlt : k < n
      · obtain ⟨y, hy⟩ : ∃ y, l[k]? = some y := ⟨_, List.getElem?_eq_getElem (by have := HL.out; omega)⟩
        obtain ⟨b, o, rfl, hbB, hc⟩ := (HR.out.below (HB.out.mono hB)).plain (by rw [ensV_length]; have := HL.out; omega)
        obtain ⟨n0, n1, n2, n3⟩ := ensV_get l k y hy
        have c0 := hc _ _ n0
        have c1 := hc _ _ n1
        have c2 := hc _ _ n2
        have c3 := hc _ _ n3
        rw [← Nat.add_assoc] at c1 c2 c3
        have hy4 := HS.out y (List.mem_of_getElem? hy)
        obtain ⟨q1, q2, q3, q4, q5, q6⟩ := enOk_yes (HOKS.out y (List.mem_of_getElem? hy))
        have HY := Lib.hid hy
        obtain ⟨y1, y2, y3, y4⟩ := y
        simp only at c0 c1 c2 c3 hy4 q1 q2 q3 q4 q5 q6
        have K3 := Lib.hid (Bk.new wr 60 #[.int .i64 y1, .int .i64 y2, .int .i64 y3, .int .u32 (y4 : Int)])
        have HB3 := Lib.hid (HB.out.alloc HB.out.size (.cells #[.int .i64 y1, .int .i64 y2, .int .i64 y3, .int .u32 (y4 : Int)] 60))
        have HOWN3 := Lib.hid (HOWN.out.alloc (.cells #[.int .i64 y1, .int .i64 y2, .int .i64 y3, .int .u32 (y4 : Int)] 60))
        clear hc n0 n1 n2 n3 hy HOWN
        go_wp2_with fail
        obtain ⟨w5, hw5⟩ : ∃ w5, wr.alloc (.cells #[.int .i64 y1, .int .i64 y2, .int .i64 y3, .int .u32 (y4 : Int)] 60) = w5 := ⟨_, rfl⟩
        rw [hw5] at K3 HB3 HOWN3 ⊢
        have HK : Hid (∀ w', Below w5.heap.size w5 w' → Bk w' wr.heap.size 60 #[.int .i64 y1, .int .i64 y2, .int .i64 y3, .int .u32 (y4 : Int)]) := fun w' hb => K3.out.below hb K3.out.lt
        have HZ := Lib.hid HB3.out.size
        clear hw5 c0 c1 c2 c3 HB K3
        refine wp_region_tail (by kernel_rfl) 15 64 slotS7 waitS7 (leaveS7 w.heap.size wr.heap.size (.slice Ar (5 + 4 * k) cr) y1 y2 y3 y4) rfl
          (by kernel_rfl) (leaveS7_mono _ _ _ _ _ _ _ _) ?_ ?_
        · intro i hi
          match i, hi with
          | 0, _ =>
            intro o ho a wc hk hb hd K hK
            cases ho
            have e0 := hk.rest 4 (.slice Ar (5 + 4 * k) cr) (by omega) (by kernel_rfl) rfl
            rw [Array.getD_eq_getD_getElem?] at e0
            go_simp
            exact hK _ _ (Below.refl _ _) rfl
          | 1, _ =>
            intro o ho a wc hk hb hd K hK
            cases ho
            have e0 := hk.rest 6 (.pointer (some ⟨wr.heap.size, 0, none⟩)) (by omega) (by kernel_rfl) rfl
            rw [Array.getD_eq_getD_getElem?] at e0
            go_simp
            exact hK _ _ (Below.refl _ _) rfl
          | 2, _ =>
            intro o ho a wc hk hb hd K hK
            cases ho
            have e0 := hd 1 (by simp [waitS7])
            simp only [leaveS7, slotS7, Nat.reduceAdd, Array.getD_eq_getD_getElem?] at e0
            obtain ⟨c0, c1, c2, c3, -⟩ := ent_cells (HK.out _ hb)
            go_simp
            exact hK _ _ (Below.refl _ _) rfl
          | 3, _ =>
            intro o ho a wc hk hb hd K hK
            cases ho
            have e0 := hd 2 (by simp [waitS7])
            simp only [leaveS7, slotS7, Nat.reduceAdd, Array.getD_eq_getD_getElem?] at e0
            go_simp
            refine (sumNumber_any 1 y1 wc (by omega) (by omega)).mono ?_
            rintro e w3 ⟨rfl, hw3⟩
            exact hK _ _ hw3 rfl
          | 4, _ =>
            intro o ho a wc hk hb hd K hK
            cases ho
            have e0 := hk.rest 6 (.pointer (some ⟨wr.heap.size, 0, none⟩)) (by omega) (by kernel_rfl) rfl
            rw [Array.getD_eq_getD_getElem?] at e0
            go_simp
            exact hK _ _ (Below.refl _ _) rfl
          | 5, _ =>
            intro o ho a wc hk hb hd K hK
            cases ho
            have e0 := hd 4 (by simp [waitS7])
            simp only [leaveS7, slotS7, Nat.reduceAdd, Array.getD_eq_getD_getElem?] at e0
            obtain ⟨c0, c1, c2, c3, -⟩ := ent_cells (HK.out _ hb)
            go_simp
            exact hK _ _ (Below.refl _ _) rfl
          | 6, _ =>
            intro o ho a wc hk hb hd K hK
            cases ho
            have e0 := hd 5 (by simp [waitS7])
            simp only [leaveS7, slotS7, Nat.reduceAdd, Array.getD_eq_getD_getElem?] at e0
            go_simp
            refine (sumNumber_any 1 y2 wc (by omega) (by omega)).mono ?_
            rintro e w3 ⟨rfl, hw3⟩
            exact hK _ _ hw3 rfl
          | 7, _ =>
            intro o ho a wc hk hb hd K hK
            cases ho
            have e0 := hk.rest 6 (.pointer (some ⟨wr.heap.size, 0, none⟩)) (by omega) (by kernel_rfl) rfl
            rw [Array.getD_eq_getD_getElem?] at e0
            go_simp
            exact hK _ _ (Below.refl _ _) rfl
          | 8, _ =>
            intro o ho a wc hk hb hd K hK
            cases ho
            have e0 := hd 7 (by simp [waitS7])
            simp only [leaveS7, slotS7, Nat.reduceAdd, Array.getD_eq_getD_getElem?] at e0
            obtain ⟨c0, c1, c2, c3, -⟩ := ent_cells (HK.out _ hb)
            go_simp
            exact hK _ _ (Below.refl _ _) rfl
          | 9, _ =>
            intro o ho a wc hk hb hd K hK
            cases ho
            have e0 := hd 8 (by simp [waitS7])
            simp only [leaveS7, slotS7, Nat.reduceAdd, Array.getD_eq_getD_getElem?] at e0
            go_simp
            refine (sumNumber_any 2 y3 wc (by omega) (by omega)).mono ?_
            rintro e w3 ⟨rfl, hw3⟩
            exact hK _ _ hw3 rfl
          | 10, _ =>
            intro o ho a wc hk hb hd K hK
            cases ho
            have e0 := hk.rest 6 (.pointer (some ⟨wr.heap.size, 0, none⟩)) (by omega) (by kernel_rfl) rfl
            rw [Array.getD_eq_getD_getElem?] at e0
            go_simp
            exact hK _ _ (Below.refl _ _) rfl
          | 11, _ =>
            intro o ho a wc hk hb hd K hK
            cases ho
            have e0 := hd 10 (by simp [waitS7])
            simp only [leaveS7, slotS7, Nat.reduceAdd, Array.getD_eq_getD_getElem?] at e0
            obtain ⟨c0, c1, c2, c3, -⟩ := ent_cells (HK.out _ hb)
            go_simp
            exact hK _ _ (Below.refl _ _) rfl
          | 12, _ =>
            intro o ho a wc hk hb hd K hK
            cases ho
            have e0 := hd 11 (by simp [waitS7])
            simp only [leaveS7, slotS7, Nat.reduceAdd, Array.getD_eq_getD_getElem?] at e0
            go_simp
            go_bits
            exact hK _ _ (Below.refl _ _) rfl
          | 13, _ =>
            intro o ho a wc hk hb hd K hK
            cases ho
            have e0 := hd 12 (by simp [waitS7])
            simp only [leaveS7, slotS7, Nat.reduceAdd, Array.getD_eq_getD_getElem?] at e0
            go_simp
            exact hK _ _ (Below.refl _ _) rfl
          | 14, _ =>
            intro o ho a wc hk hb hd K hK
            cases ho
            have e0 := hd 3 (by simp [waitS7])
            have e1 := hd 6 (by simp [waitS7])
            have e2 := hd 9 (by simp [waitS7])
            have e3 := hd 13 (by simp [waitS7])
            simp only [leaveS7, slotS7, Nat.reduceAdd, Array.getD_eq_getD_getElem?] at e0 e1 e2 e3
            go_simp
            exact hK _ _ ((Below.refl _ _).alloc (Nat.le_refl _) _) (SumNums.new wc _ _ (Nat.le_trans HZ.out hb.size) (by simp [enR, numsV]; omega))
          | _ + 15, h => exact absurd h (by omega)
        · intro vals w2 hb hR
          have v0 := hR 0 (by omega)
          have v1 := hR 1 (by omega)
          have v2 := hR 2 (by omega)
          have v3 := hR 3 (by omega)
          have v4 := hR 4 (by omega)
          have v5 := hR 5 (by omega)
          have v6 := hR 6 (by omega)
          have v7 := hR 7 (by omega)
          have v8 := hR 8 (by omega)
          have v9 := hR 9 (by omega)
          have v10 := hR 10 (by omega)
          have v11 := hR 11 (by omega)
          have v12 := hR 12 (by omega)
          have v13 := hR 13 (by omega)
          have v14 := hR 14 (by omega)
          simp only [leaveS7] at v0 v1 v2 v3 v4 v5 v6 v7 v8 v9 v10 v11 v12 v13 v14
          clear hR
          simp only [putAll, slotS7, Nat.reduceAdd, List.setIfInBounds_toArray, List.set_cons_zero, List.set_cons_succ, List.drop_succ_cons, List.drop_zero, v0, v1, v2, v3, v4, v5, v6, v7, v8, v9, v10, v11, v12, v13]
          clear v0 v1 v2 v3 v4 v5 v6 v7 v8 v9 v10 v11 v12 v13
          obtain ⟨g3, v14, hg3, hbk3⟩ := v14
          rw [v14]
          have hr3 : Rd w2 w2.heap.size (some ⟨g3, 0, none⟩) (numsV (enR ⟨y1, y2, y3, y4⟩)) := by simpa using Rd.bk hbk3
          have HOWN4 := Lib.hid (own_up HOWN3.out hb)
          have HB4 := Lib.hid (HB3.out.trans (hb.mono HB3.out.size))
          have HZ4 := HB4.out.size
          clear hb hbk3 hg3 v14 HK HB3 HOWN3
          go_wp2_with (at_builtin; refine wpList_append_rd _ rfl _ _ 58 rfl w.heap.size 55 i0 (.agg #[.int .i64 0, .int .u64 0]) 2 16 Tryd.underlying58 hi.out hz0.out hz1.out hz2.out rfl (by decide) _ _ _ rfl HOWN4.out w2.heap.size (some ⟨g3, 0, none⟩) 4 4 (numsV (enR ⟨y1, y2, y3, y4⟩)) rfl rfl hr3 ?c2 ?c3 ?c4 ?c5 ?_)
          case c2 => intro u hu; simp [numsV, enR] at hu; rcases hu with rfl | rfl | rfl | rfl | rfl | rfl | rfl | rfl <;> rfl
          case c3 => unfold maxLen; omega
          case c4 => omega
          case c5 => exact HZ4
          intro r' w6 hown6 hgrow
          have HB6 := Lib.hid (HB4.out.grown hgrow HZ4 (fun g hg => (HOWN4.out.lt g hg).1))
          have HOWN6 : Hid (w6.ownsRow w.heap.size 55 2 r' (5 + 4 * (k + 1)) (numsV (headR ⟨s, x, f, l⟩ ++ ensR (l.take (k + 1))))) := by
            rw [ensR_take_succ l k _ HY.out, ← List.append_assoc, numsV_append]
            exact hown6
          clear hown6 hgrow HOWN4 HB4 hr3
          go_wp2
          go_roundw
          case rel => exact ⟨k + 1, by omega, by go_num, HOWN6.out, HB6.out⟩
          case measure => simp [intOf]; omega
      · obtain rfl : k = n := by omega
        have HE : Hid (l.take k = l) := List.take_of_length_le (by have := HL.out; omega)
        have hrd := Rd.own HOWN.out
        rw [HE.out] at hrd
        have HRD := Lib.hid hrd
        have HB1' := Lib.hid HB.out.size
        clear hrd
        go_wp2_with fail
        refine (Pack_ok wr.heap.size Ar (5 + 4 * k) cr (ptR ⟨s, x, f, l⟩) _ (16 + 8 * k) _ (by rw [ptR_length]; have := HL.out; simp only; omega) (codeL_ptR HOK.out HS.out) rfl (by rw [recs_ptR]; have := HL.out; simp only; omega) HRD.out (Nat.le_refl _) (by omega) (numsV_bound (ptR_ok HOK.out HS.out))).mono ?_
        rintro e w7 ⟨A7, c7, rfl, hc7, hcm7, hrd7, _, hb7⟩
        have HB7 := Lib.hid (HB.out.trans (hb7.mono HB1'.out))
        have HRD7 := Lib.hid hrd7
        clear hrd7 hb7 HRD HOWN
        go_wp2_with fail
        have hlen : (recs (ptR ⟨s, x, f, l⟩)).length = 16 + 8 * k := by rw [recs_ptR]; have := HL.out; simp only; omega
        have hS := Seal_any w7.heap.size A7 c7 (recs (ptR ⟨s, x, f, l⟩)) w7 HRD7.out (Nat.le_refl _) (by rw [hlen]; omega) (HTW.out.up HB7.out)
        rw [hlen] at hS
        refine hS.mono ?_
        rintro e w8 ⟨g8, rfl, hg8, hbk8, hb8⟩
        have HG := Lib.hid (show Bk w8 g8 5 ((octB ⟨s, x, f, l⟩).map bv).toArray ∧ w.heap.size ≤ g8 ∧ Below w.heap.size w w8 from ⟨hbk8, by have := HB7.out.size; omega, HB7.out.trans (hb8.mono HB7.out.size)⟩)
        clear hbk8 hb8 hS hg8 hlen
        go_wp2
        go_ret2
        exact ⟨g8, rfl, HG.out.2.1, HG.out.1, HG.out.2.2⟩
end Go.Proofs.YtjibjojnkieliaaDoor
