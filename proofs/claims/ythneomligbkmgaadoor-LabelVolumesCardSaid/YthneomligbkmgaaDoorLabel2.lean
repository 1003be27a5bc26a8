/-
  What label.Super and label.Label do.
-/
import Derived.Test.YthneomligbkmgaaDoorLabel
namespace Go.Proofs.YthneomligbkmgaaDoor
open Go.RowKit
set_option linter.unusedVariables false

/-- a new slice of numbers -/
def NumsAt (l : List Num') (n : Nat) (v : Value) (w : World) : Prop := ∃ g : Nat, v = .slice (some ⟨g, 0, none⟩) n n ∧ Rd w w.heap.size (some ⟨g, 0, none⟩) (numsV l)
theorem NumsAt.up {l : List Num'} {n : Nat} {v : Value} {w w' : World} (h : NumsAt l n v w) (hb : Below w.heap.size w w') : NumsAt l n v w' := by
  obtain ⟨g, rfl, hr⟩ := h
  exact ⟨g, rfl, (hr.below hb).mono hb.size⟩
theorem NumsAt.new (w : World) (t : TypeId) (cs : Array Value) {l : List Num'} {n : Nat} (h : cs.toList = numsV l) : NumsAt l n (.slice (some ⟨w.heap.size, 0, none⟩) n n) (w.alloc (.cells cs t)) :=
  ⟨_, rfl, by rw [← h]; exact Rd.bk (Bk.new w t cs)⟩
/-- a block of octets that the call has made -/
def BlockAt (base : Nat) (bs : List UInt8) (v : Value) (w : World) : Prop := ∃ g : Nat, v = .slice (some ⟨g, 0, none⟩) 128 128 ∧ base ≤ g ∧ Bk w g 5 (bs.map bv).toArray
theorem BlockAt.up {base : Nat} {bs : List UInt8} {v : Value} {w w' : World} (h : BlockAt base bs v w) (hb : Below w.heap.size w w') : BlockAt base bs v w' := by
  obtain ⟨g, rfl, hg, hr⟩ := h
  exact ⟨g, rfl, hg, hr.below hb hr.lt⟩

def slotS (i : Nat) : Nat := if i = 17 then 2 else if i = 18 then 3 else 7 + i
def waitS : Nat → List Nat
  | 2 => [1]
  | 3 => [2]
  | 5 => [4]
  | 6 => [5]
  | 8 => [7]
  | 9 => [8]
  | 11 => [10]
  | 12 => [11]
  | 13 => [0, 3, 6, 9, 12]
  | 14 => [13]
  | 15 => [14]
  | 16 => [14]
  | 17 => [15]
  | 18 => [16]
  | _ => []
def leaveS (b base : Nat) (D L V S : Int) : Nat → Value → World → Prop
  | 0, v, _ => v = .agg #[.int .i64 4, .int .u64 1751218541]
  | 1, v, _ => v = .pointer (some ⟨b, 0, none⟩)
  | 2, v, _ => v = .int .i64 D
  | 3, v, _ => v = .agg #[.int .i64 2, .int .u64 D]
  | 4, v, _ => v = .pointer (some ⟨b, 1, none⟩)
  | 5, v, _ => v = .int .i64 L
  | 6, v, _ => v = .agg #[.int .i64 2, .int .u64 L]
  | 7, v, _ => v = .pointer (some ⟨b, 2, none⟩)
  | 8, v, _ => v = .int .i64 V
  | 9, v, _ => v = .agg #[.int .i64 1, .int .u64 V]
  | 10, v, _ => v = .pointer (some ⟨b, 3, none⟩)
  | 11, v, _ => v = .int .i64 S
  | 12, v, _ => v = .agg #[.int .i64 2, .int .u64 S]
  | 13, v, w => NumsAt (superR D L V S) 5 v w
  | 14, v, w => ∃ u, v = .tuple #[u, .int .i64 0] ∧ BlockAt base (superB D L V S) u w
  | 15, v, w => BlockAt base (superB D L V S) v w
  | 16, v, _ => v = .int .i64 0
  | 17, v, w => BlockAt base (superB D L V S) v w
  | 18, v, _ => v = .int .i64 0
  | _, _, _ => True
theorem leaveS_mono (b base : Nat) (D L V S : Int) (w0 : World) (i : Nat) (v : Value) (w w' : World) (_ : Below w0.heap.size w0 w) (hb : Below w.heap.size w w') (h : leaveS b base D L V S i v w) : leaveS b base D L V S i v w' := by
  unfold leaveS at *
  split at h <;> first | exact h | exact NumsAt.up h hb | exact BlockAt.up h hb | (obtain ⟨u, e, hu⟩ := h; exact ⟨u, e, hu.up hb⟩)

theorem Super_no (D L V S : Int) (w : World) (h : mayB D L V S = false) :
    Calls Tryd.prog 7 #[.agg #[.int .i64 D, .int .i64 L, .int .i64 V, .int .i64 S]] w fun e w' => e = .returned (.tuple #[.slice none 0 0, .int .i64 1]) ∧ Below w.heap.size w w' := by
  have H := Lib.hid h
  clear h
  go_enter Tryd.func7, Tryd.ntmps7
  go_wp2_with fail
  have HB0 := Lib.hid (Below.alloc (Below.refl w.heap.size w) (Nat.le_refl _) (.cells #[.int .i64 D, .int .i64 L, .int .i64 V, .int .i64 S] 23))
  refine (May_any D L V S false _ H.out).mono ?_
  rintro e w1 ⟨rfl, hb1⟩
  have HB1 := Lib.hid (HB0.out.trans (hb1.mono HB0.out.size))
  clear hb1
  go_wp2
  go_ret2
  exact ⟨rfl, HB1.out⟩

set_option maxRecDepth 100000 in
set_option maxHeartbeats 1000000 in
theorem Super_yes (D L V S : Int) (w : World) (h : mayB D L V S = true) (ht : Tab w) :
    Calls Tryd.prog 7 #[.agg #[.int .i64 D, .int .i64 L, .int .i64 V, .int .i64 S]] w fun e w' => ∃ g, e = .returned (.tuple #[.slice (some ⟨g, 0, none⟩) 128 128, .int .i64 0]) ∧ w.heap.size ≤ g ∧ Bk w' g 5 ((superB D L V S).map bv).toArray ∧ Below w.heap.size w w' := by
  obtain ⟨m1, m2, m3, m4, m5, m6, m7, m8⟩ := mayB_yes h
  have H := Lib.hid h
  have HTW := Lib.hid ht
  have H0 := Lib.hid (codeL_superR h)
  have HV : Hid (∀ p ∈ superR D L V S, p.2 < 18446744073709551616) := by
    intro p hp
    simp [superR] at hp
    rcases hp with rfl | rfl | rfl | rfl | rfl
    · show 1751218541 < _; decide
    · show D.toNat < _; omega
    · show L.toNat < _; omega
    · show V.toNat < _; omega
    · show S.toNat < _; omega
  clear h ht
  go_enter Tryd.func7, Tryd.ntmps7
  go_wp2_with fail
  have HB0 := Lib.hid (Below.alloc (Below.refl w.heap.size w) (Nat.le_refl _) (.cells #[.int .i64 D, .int .i64 L, .int .i64 V, .int .i64 S] 23))
  have G0 := Lib.hid (Geo.new w 23 D L V S)
  refine (May_any D L V S true _ H.out).mono ?_
  rintro e w1 ⟨rfl, hb1⟩
  have G1 := Lib.hid (G0.out.up hb1)
  have HB1 := Lib.hid (HB0.out.trans (hb1.mono HB0.out.size))
  have HZ := Lib.hid HB1.out.size
  have HT := Lib.hid (HTW.out.up HB1.out)
  have HK : Hid (∀ w', Below w1.heap.size w1 w' → Geo w' w.heap.size D L V S) := fun w' hb => G1.out.up hb
  clear hb1 HB0 G0 HTW
  go_wp2_with fail
  refine wp_region_leaves (by kernel_rfl) 19 24 [(1, .pointer (some ⟨w.heap.size, 0, none⟩))] slotS waitS (leaveS w.heap.size w.heap.size D L V S)
    (by kernel_rfl) ⟨by simp, rfl, by simp⟩ (leaveS_mono _ _ _ _ _ _ _) ?_ ?_
  · intro i hi
    match i, hi with
    | 0, _ =>
      intro o ho a w hk hb hd K hK
      cases ho
      go_simp
      refine (number_any' 4 1751218541 w (by omega) (by omega)).mono ?_
      rintro e w3 ⟨rfl, hw3⟩
      exact hK _ _ hw3 rfl
    | 1, _ =>
      intro o ho a w hk hb hd K hK
      cases ho
      have e0 := hk.at_ 0 1 _ rfl
      rw [Array.getD_eq_getD_getElem?] at e0
      go_simp
      exact hK _ _ (Below.refl _ _) rfl
    | 2, _ =>
      intro o ho a w hk hb hd K hK
      cases ho
      have e0 := hd 1 (by simp [waitS])
      simp only [leaveS, slotS, if_false, Nat.reduceAdd, Nat.reduceEqDiff, Array.getD_eq_getD_getElem?] at e0
      obtain ⟨c0, c1, c2, c3⟩ := HK.out _ hb
      go_simp
      exact hK _ _ (Below.refl _ _) rfl
    | 3, _ =>
      intro o ho a w hk hb hd K hK
      cases ho
      have e0 := hd 2 (by simp [waitS])
      simp only [leaveS, slotS, if_false, Nat.reduceAdd, Nat.reduceEqDiff, Array.getD_eq_getD_getElem?] at e0
      go_simp
      refine (number_any' 2 D w (by omega) (by omega)).mono ?_
      rintro e w3 ⟨rfl, hw3⟩
      exact hK _ _ hw3 rfl
    | 4, _ =>
      intro o ho a w hk hb hd K hK
      cases ho
      have e0 := hk.at_ 0 1 _ rfl
      rw [Array.getD_eq_getD_getElem?] at e0
      go_simp
      exact hK _ _ (Below.refl _ _) rfl
    | 5, _ =>
      intro o ho a w hk hb hd K hK
      cases ho
      have e0 := hd 4 (by simp [waitS])
      simp only [leaveS, slotS, if_false, Nat.reduceAdd, Nat.reduceEqDiff, Array.getD_eq_getD_getElem?] at e0
      obtain ⟨c0, c1, c2, c3⟩ := HK.out _ hb
      go_simp
      exact hK _ _ (Below.refl _ _) rfl
    | 6, _ =>
      intro o ho a w hk hb hd K hK
      cases ho
      have e0 := hd 5 (by simp [waitS])
      simp only [leaveS, slotS, if_false, Nat.reduceAdd, Nat.reduceEqDiff, Array.getD_eq_getD_getElem?] at e0
      go_simp
      refine (number_any' 2 L w (by omega) (by omega)).mono ?_
      rintro e w3 ⟨rfl, hw3⟩
      exact hK _ _ hw3 rfl
    | 7, _ =>
      intro o ho a w hk hb hd K hK
      cases ho
      have e0 := hk.at_ 0 1 _ rfl
      rw [Array.getD_eq_getD_getElem?] at e0
      go_simp
      exact hK _ _ (Below.refl _ _) rfl
    | 8, _ =>
      intro o ho a w hk hb hd K hK
      cases ho
      have e0 := hd 7 (by simp [waitS])
      simp only [leaveS, slotS, if_false, Nat.reduceAdd, Nat.reduceEqDiff, Array.getD_eq_getD_getElem?] at e0
      obtain ⟨c0, c1, c2, c3⟩ := HK.out _ hb
      go_simp
      exact hK _ _ (Below.refl _ _) rfl
    | 9, _ =>
      intro o ho a w hk hb hd K hK
      cases ho
      have e0 := hd 8 (by simp [waitS])
      simp only [leaveS, slotS, if_false, Nat.reduceAdd, Nat.reduceEqDiff, Array.getD_eq_getD_getElem?] at e0
      go_simp
      refine (number_any' 1 V w (by omega) (by omega)).mono ?_
      rintro e w3 ⟨rfl, hw3⟩
      exact hK _ _ hw3 rfl
    | 10, _ =>
      intro o ho a w hk hb hd K hK
      cases ho
      have e0 := hk.at_ 0 1 _ rfl
      rw [Array.getD_eq_getD_getElem?] at e0
      go_simp
      exact hK _ _ (Below.refl _ _) rfl
    | 11, _ =>
      intro o ho a w hk hb hd K hK
      cases ho
      have e0 := hd 10 (by simp [waitS])
      simp only [leaveS, slotS, if_false, Nat.reduceAdd, Nat.reduceEqDiff, Array.getD_eq_getD_getElem?] at e0
      obtain ⟨c0, c1, c2, c3⟩ := HK.out _ hb
      go_simp
      exact hK _ _ (Below.refl _ _) rfl
    | 12, _ =>
      intro o ho a w hk hb hd K hK
      cases ho
      have e0 := hd 11 (by simp [waitS])
      simp only [leaveS, slotS, if_false, Nat.reduceAdd, Nat.reduceEqDiff, Array.getD_eq_getD_getElem?] at e0
      go_simp
      refine (number_any' 2 S w (by omega) (by omega)).mono ?_
      rintro e w3 ⟨rfl, hw3⟩
      exact hK _ _ hw3 rfl
    | 13, _ =>
      intro o ho a w hk hb hd K hK
      cases ho
      have e0 := hd 0 (by simp [waitS])
      have e1 := hd 3 (by simp [waitS])
      have e2 := hd 6 (by simp [waitS])
      have e3 := hd 9 (by simp [waitS])
      have e4 := hd 12 (by simp [waitS])
      simp only [leaveS, slotS, if_false, Nat.reduceAdd, Nat.reduceEqDiff, Array.getD_eq_getD_getElem?] at e0 e1 e2 e3 e4
      go_simp
      exact hK _ _ ((Below.refl _ _).alloc (Nat.le_refl _) _) (NumsAt.new w _ _ (by simp [superR, numsV]; omega))
    | 14, _ =>
      intro o ho a w hk hb hd K hK
      cases ho
      have e0 := hd 13 (by simp [waitS])
      simp only [leaveS, slotS, if_false, Nat.reduceAdd, Nat.reduceEqDiff, Array.getD_eq_getD_getElem?] at e0
      obtain ⟨g, e0, hg⟩ := e0
      go_simp
      refine (seal_any w.heap.size _ 5 5 (superR D L V S) _ 11 w rfl H0.out rfl (recs_superR D L V S) hg (Nat.le_refl _) (by omega) (by omega) HV.out ((HT.out.up hb))).mono ?_
      rintro e w3 ⟨g2, rfl, hg2, hbk, hw3⟩
      exact hK _ _ hw3 ⟨_, rfl, g2, rfl, Nat.le_trans (Nat.le_trans HZ.out hb.size) hg2, hbk⟩
    | 15, _ =>
      intro o ho a w hk hb hd K hK
      cases ho
      have e0 := hd 14 (by simp [waitS])
      simp only [leaveS, slotS, if_false, Nat.reduceAdd, Nat.reduceEqDiff, Array.getD_eq_getD_getElem?] at e0
      obtain ⟨u, e0, hu⟩ := e0
      go_simp
      exact hK _ _ (Below.refl _ _) hu
    | 16, _ =>
      intro o ho a w hk hb hd K hK
      cases ho
      have e0 := hd 14 (by simp [waitS])
      simp only [leaveS, slotS, if_false, Nat.reduceAdd, Nat.reduceEqDiff, Array.getD_eq_getD_getElem?] at e0
      obtain ⟨u, e0, hu⟩ := e0
      go_simp
      exact hK _ _ (Below.refl _ _) rfl
    | 17, _ =>
      intro o ho a w hk hb hd K hK
      cases ho
      have e0 := hd 15 (by simp [waitS])
      simp only [leaveS, slotS, if_false, Nat.reduceAdd, Nat.reduceEqDiff, Array.getD_eq_getD_getElem?] at e0
      obtain ⟨g, e0, hg⟩ := e0
      go_simp
      exact hK _ _ (Below.refl _ _) ⟨g, rfl, hg⟩
    | 18, _ =>
      intro o ho a w hk hb hd K hK
      cases ho
      have e0 := hd 16 (by simp [waitS])
      simp only [leaveS, slotS, if_false, Nat.reduceAdd, Nat.reduceEqDiff, Array.getD_eq_getD_getElem?] at e0
      go_simp
      exact hK _ _ (Below.refl _ _) rfl
    | _ + 19, h => exact absurd h (by omega)
  · intro a w2 hk hb hR
    have e1 := hR 17 (by omega)
    have e2 := hR 18 (by omega)
    simp only [leaveS, slotS, if_true, if_false, Nat.reduceEqDiff] at e1 e2
    obtain ⟨g, e1, hg, hbk⟩ := e1
    obtain ⟨tm, df⟩ := a
    obtain ⟨_, hdf, _⟩ := hk
    simp only at hdf e1 e2
    subst hdf
    have E1 := Lib.hid e1
    have E2 := Lib.hid e2
    clear e1 e2 hR
    go_wp2_with fail
    go_ret2
    exact ⟨g, by rw [E1.out, E2.out], hg, hbk, HB1.out.trans (hb.mono HZ.out)⟩


set_option maxHeartbeats 400000 in
theorem Label_no (v g : Int) (w : World) (h : labB v g = false) :
    Calls Tryd.prog 13 #[.int .i64 v, .int .i64 g] w fun e w' => e = .returned (.tuple #[.slice none 0 0, .int .i64 1]) ∧ w = w' := by
  have hn : ¬ (0 ≤ v ∧ v < 8 ∧ 0 ≤ g ∧ g ≤ 4294967295) := by simpa [labB] using h
  have hc : (decide (v < 0) = true) ∨ (0 ≤ v ∧ decide (8 ≤ v) = true) ∨ (0 ≤ v ∧ v < 8 ∧ decide (g < 0) = true) ∨ (0 ≤ v ∧ v < 8 ∧ 0 ≤ g ∧ decide (4294967295 < g) = true) := by
    simp only [decide_eq_true_iff]
    omega
  clear hn h
  rcases hc with h1 | ⟨h1, h2⟩ | ⟨h1, h2, h3⟩ | ⟨h1, h2, h3, h4⟩
  all_goals
    go_enter Tryd.func13, Tryd.ntmps13
    go_wp2
    go_ret2
    exact ⟨rfl, rfl⟩

set_option maxRecDepth 100000 in
set_option maxHeartbeats 1000000 in
theorem Label_yes (v g : Int) (w : World) (h : labB v g = true) (ht : Tab w) :
    Calls Tryd.prog 13 #[.int .i64 v, .int .i64 g] w fun e w' => ∃ b, e = .returned (.tuple #[.slice (some ⟨b, 0, none⟩) 128 128, .int .i64 0]) ∧ w.heap.size ≤ b ∧ Bk w' b 5 ((labelB v g).map bv).toArray ∧ Below w.heap.size w w' := by
  obtain ⟨m1, m2, m3, m4⟩ := labB_yes h
  have HT := Lib.hid ht
  have H0 := Lib.hid (codeL_labelR h)
  have HV : Hid (∀ p ∈ labelR v g, p.2 < 18446744073709551616) := by
    intro p hp
    simp [labelR] at hp
    rcases hp with rfl | rfl | rfl
    · show 1752592236 < _; decide
    · show v.toNat < _; omega
    · show g.toNat < _; omega
  clear h ht
  go_enter Tryd.func13, Tryd.ntmps13
  go_wp2_with fail
  refine (number_any' 4 1752592236 _ (by omega) (by omega)).mono ?_
  rintro e w1 ⟨rfl, hb1⟩
  have HB1 := Lib.hid hb1
  clear hb1
  go_wp2_with fail
  refine (number_any' 1 v _ (by omega) (by omega)).mono ?_
  rintro e w2 ⟨rfl, hb2⟩
  have HB2 := Lib.hid (HB1.out.trans (hb2.mono HB1.out.size))
  clear hb2 HB1
  go_wp2_with fail
  refine (number_any' 4 g _ (by omega) (by omega)).mono ?_
  rintro e w3 ⟨rfl, hb3⟩
  have HB3 := Lib.hid (HB2.out.trans (hb3.mono HB2.out.size))
  clear hb3 HB2
  go_wp2_with fail
  have HB4 := Lib.hid (HB3.out.alloc HB3.out.size (.cells #[.int .i64 4, .int .u64 1752592236, .int .i64 1, .int .u64 v, .int .i64 4, .int .u64 g] 52))
  have HN := Rd.bk (Bk.new w3 52 #[.int .i64 4, .int .u64 1752592236, .int .i64 1, .int .u64 v, .int .i64 4, .int .u64 g])
  rw [show (#[.int .i64 4, .int .u64 1752592236, .int .i64 1, .int .u64 v, .int .i64 4, .int .u64 g] : Array Value).toList = numsV (labelR v g) by simp [labelR, numsV]; omega] at HN
  refine (seal_any _ _ 3 3 (labelR v g) _ 9 _ rfl H0.out rfl (recs_labelR v g) HN (Nat.le_refl _) (by omega) (by omega) HV.out (HT.out.up HB4.out)).mono ?_
  rintro e w4 ⟨b, rfl, hg, hbk, hb4⟩
  have HR := Lib.hid (show w.heap.size ≤ b ∧ Bk w4 b 5 ((sealB (recs (labelR v g))).map bv).toArray ∧ Below w.heap.size w w4 from ⟨by have := HB4.out.size; omega, hbk, HB4.out.trans (hb4.mono HB4.out.size)⟩)
  clear hg hbk hb4 HN
  go_wp2
  go_ret2
  exact ⟨b, rfl, HR.out⟩
end Go.Proofs.YthneomligbkmgaaDoor
