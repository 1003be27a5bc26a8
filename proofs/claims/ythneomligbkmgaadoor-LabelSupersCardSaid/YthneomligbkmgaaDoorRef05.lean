/-
  What the document's answers of layer 5 are, one contract each: Super, ReadSuper, May, Label, ReadLabel.
-/
import Derived.Test.YthneomligbkmgaaDoorCrcLaw
import Derived.Test.YthneomligbkmgaaDoorAddrLaw
import Derived.Test.YthneomligbkmgaaDoorRef01
import Derived.Test.YthneomligbkmgaaDoorLabelMath
import Derived.Test.YthneomligbkmgaaDoorRegInv
import Derived.Test.YthneomligbkmgaaDoorLabel5
namespace Go.Proofs.YthneomligbkmgaaDoor
open Go.RowKit
set_option linter.unusedVariables false

def bH : List UInt8 := [104, 97, 121, 109]
theorem bH_eq : be 4 1751218541 = bH := by decide
theorem superB_pre (d l v s : Nat) : superB (d : Nat) (l : Nat) (v : Nat) (s : Nat) = sealB (bH ++ (be 2 d ++ (be 2 l ++ (be 1 v ++ be 2 s)))) := by
  simp [superB, recs, superR, ← bH_eq]
def bV : List UInt8 := [104, 118, 111, 108]
theorem bV_eq : be 4 1752592236 = bV := by decide
theorem labelB_pre (v g : Nat) : labelB (v : Nat) (g : Nat) = sealB (bV ++ (be 1 v ++ be 4 g)) := by
  simp [labelB, recs, labelR, ← bV_eq]

def slotR (i : Nat) : Nat := if i = 21 then 2 else 3 + i
def waitR : Nat → List Nat
  | 1 => [0]
  | 2 => [1]
  | 3 => [2]
  | 4 => [3]
  | 6 => [5]
  | 7 => [6]
  | 8 => [7]
  | 9 => [4, 8]
  | 11 => [10]
  | 12 => [11]
  | 13 => [12]
  | 14 => [9, 13]
  | 16 => [15]
  | 17 => [16]
  | 18 => [17]
  | 19 => [14, 18]
  | 20 => [19]
  | 21 => [20]
  | _ => []
def leaveR (b : Nat) (d l v s : Nat) : Nat → Value → World → Prop
  | 0, v', _ => v' = .pointer (some ⟨b, 0, none⟩)
  | 1, v', _ => v' = .int .i64 (d : Nat)
  | 2, v', _ => v' = .int .u64 (d : Nat)
  | 3, v', _ => v' = .string (str (be 2 d))
  | 4, v', _ => v' = .string (str (bH ++ be 2 d))
  | 5, v', _ => v' = .pointer (some ⟨b, 1, none⟩)
  | 6, v', _ => v' = .int .i64 (l : Nat)
  | 7, v', _ => v' = .int .u64 (l : Nat)
  | 8, v', _ => v' = .string (str (be 2 l))
  | 9, v', _ => v' = .string (str ((bH ++ be 2 d) ++ be 2 l))
  | 10, v', _ => v' = .pointer (some ⟨b, 2, none⟩)
  | 11, v', _ => v' = .int .i64 (v : Nat)
  | 12, v', _ => v' = .int .u64 (v : Nat)
  | 13, v', _ => v' = .string (str (be 1 v))
  | 14, v', _ => v' = .string (str (((bH ++ be 2 d) ++ be 2 l) ++ be 1 v))
  | 15, v', _ => v' = .pointer (some ⟨b, 3, none⟩)
  | 16, v', _ => v' = .int .i64 (s : Nat)
  | 17, v', _ => v' = .int .u64 (s : Nat)
  | 18, v', _ => v' = .string (str (be 2 s))
  | 19, v', _ => v' = .string (str ((((bH ++ be 2 d) ++ be 2 l) ++ be 1 v) ++ be 2 s))
  | 20, v', _ => v' = .string (str (superB (d : Nat) (l : Nat) (v : Nat) (s : Nat)))
  | 21, v', _ => v' = .string (str (superB (d : Nat) (l : Nat) (v : Nat) (s : Nat)))
  | _, _, _ => True
theorem leaveR_mono (b d l v s : Nat) (w0 : World) (i : Nat) (v' : Value) (w w' : World) (_ : Below w0.heap.size w0 w) (hb : Below w.heap.size w w') (h : leaveR b d l v s i v' w) : leaveR b d l v s i v' w' := by
  unfold leaveR at *
  split at h <;> exact h

set_option maxRecDepth 100000 in
set_option maxHeartbeats 1000000 in
theorem refSuper_any (d l v s : Nat) (w : World) (m1 : d < 65536) (m2 : l < 65536) (m3 : v < 256) (m4 : s < 65536) :
    Calls Tryd.prog 12 #[.agg #[.int .i64 (d : Nat), .int .i64 (l : Nat), .int .i64 (v : Nat), .int .i64 (s : Nat)]] w fun e w' => e = .returned (.string (str (superB (d : Nat) (l : Nat) (v : Nat) (s : Nat)))) ∧ Below w.heap.size w w' := by
  go_enter Tryd.func12, Tryd.ntmps12
  go_wp2_with fail
  have HB0 := Lib.hid (Below.alloc (Below.refl w.heap.size w) (Nat.le_refl _) (.cells #[.int .i64 (d : Nat), .int .i64 (l : Nat), .int .i64 (v : Nat), .int .i64 (s : Nat)] 23))
  have G0 := Lib.hid (Geo.new w 23 (d : Nat) (l : Nat) (v : Nat) (s : Nat))
  have HK : Hid (∀ w', Below (w.alloc (.cells #[.int .i64 (d : Nat), .int .i64 (l : Nat), .int .i64 (v : Nat), .int .i64 (s : Nat)] 23)).heap.size (w.alloc (.cells #[.int .i64 (d : Nat), .int .i64 (l : Nat), .int .i64 (v : Nat), .int .i64 (s : Nat)] 23)) w' → Geo w' w.heap.size (d : Nat) (l : Nat) (v : Nat) (s : Nat)) := fun w' hb => G0.out.up hb
  refine wp_region_leaves (by kernel_rfl) 22 24 [(1, .pointer (some ⟨w.heap.size, 0, none⟩))] slotR waitR (leaveR w.heap.size d l v s)
    (by kernel_rfl) ⟨by simp, rfl, by simp⟩ (leaveR_mono _ _ _ _ _ _) ?_ ?_
  · intro i hi
    match i, hi with
    | 0, _ =>
      intro o ho a w hk hb hd K hK
      cases ho
      have e0 := hk.at_ 0 1 _ rfl
      rw [Array.getD_eq_getD_getElem?] at e0
      go_simp
      exact hK _ _ (Below.refl _ _) rfl
    | 1, _ =>
      intro o ho a w hk hb hd K hK
      cases ho
      have e0 := hd 0 (by simp [waitR])
      simp only [leaveR, slotR, if_false, Nat.reduceAdd, Nat.reduceEqDiff, Array.getD_eq_getD_getElem?] at e0
      obtain ⟨c0, c1, c2, c3⟩ := HK.out _ hb
      go_simp
      exact hK _ _ (Below.refl _ _) rfl
    | 2, _ =>
      intro o ho a w hk hb hd K hK
      cases ho
      have e0 := hd 1 (by simp [waitR])
      simp only [leaveR, slotR, if_false, Nat.reduceAdd, Nat.reduceEqDiff, Array.getD_eq_getD_getElem?] at e0
      have q : IntKind.u64.wrap (d : Int) = (d : Int) := IntWalk.u64_in _ (by omega)
      go_simp
      exact hK _ _ (Below.refl _ _) rfl
    | 3, _ =>
      intro o ho a w hk hb hd K hK
      cases ho
      have e0 := hd 2 (by simp [waitR])
      simp only [leaveR, slotR, if_false, Nat.reduceAdd, Nat.reduceEqDiff, Array.getD_eq_getD_getElem?] at e0
      go_simp
      refine (Of_any d 2 w (by omega) (by omega)).mono ?_
      rintro e w3 ⟨rfl, hw3⟩
      exact hK _ _ hw3 rfl
    | 4, _ =>
      intro o ho a w hk hb hd K hK
      cases ho
      have e0 := hd 3 (by simp [waitR])
      simp only [leaveR, slotR, if_false, Nat.reduceAdd, Nat.reduceEqDiff, Array.getD_eq_getD_getElem?] at e0
      have z1 : (str bH).size ≤ 12 := by rw [str_size]; simp [bH]
      have z2 : (str (be 2 d)).size ≤ 12 := by rw [str_size, be_length]; omega
      go_simp
      have ea := str_append bH (be 2 d)
      exact hK _ _ (Below.refl _ _) (by show Value.string _ = Value.string _; rw [← ea]; rfl)
    | 5, _ =>
      intro o ho a w hk hb hd K hK
      cases ho
      have e0 := hk.at_ 0 1 _ rfl
      rw [Array.getD_eq_getD_getElem?] at e0
      go_simp
      exact hK _ _ (Below.refl _ _) rfl
    | 6, _ =>
      intro o ho a w hk hb hd K hK
      cases ho
      have e0 := hd 5 (by simp [waitR])
      simp only [leaveR, slotR, if_false, Nat.reduceAdd, Nat.reduceEqDiff, Array.getD_eq_getD_getElem?] at e0
      obtain ⟨c0, c1, c2, c3⟩ := HK.out _ hb
      go_simp
      exact hK _ _ (Below.refl _ _) rfl
    | 7, _ =>
      intro o ho a w hk hb hd K hK
      cases ho
      have e0 := hd 6 (by simp [waitR])
      simp only [leaveR, slotR, if_false, Nat.reduceAdd, Nat.reduceEqDiff, Array.getD_eq_getD_getElem?] at e0
      have q : IntKind.u64.wrap (l : Int) = (l : Int) := IntWalk.u64_in _ (by omega)
      go_simp
      exact hK _ _ (Below.refl _ _) rfl
    | 8, _ =>
      intro o ho a w hk hb hd K hK
      cases ho
      have e0 := hd 7 (by simp [waitR])
      simp only [leaveR, slotR, if_false, Nat.reduceAdd, Nat.reduceEqDiff, Array.getD_eq_getD_getElem?] at e0
      go_simp
      refine (Of_any l 2 w (by omega) (by omega)).mono ?_
      rintro e w3 ⟨rfl, hw3⟩
      exact hK _ _ hw3 rfl
    | 9, _ =>
      intro o ho a w hk hb hd K hK
      cases ho
      have e0 := hd 4 (by simp [waitR])
      have e1 := hd 8 (by simp [waitR])
      simp only [leaveR, slotR, if_false, Nat.reduceAdd, Nat.reduceEqDiff, Array.getD_eq_getD_getElem?] at e0 e1
      have z1 : (str (bH ++ be 2 d)).size ≤ 12 := by rw [str_size]; simp [bH, be_length]
      have z2 : (str (be 2 l)).size ≤ 12 := by rw [str_size, be_length]; omega
      go_simp
      have ea := str_append (bH ++ be 2 d) (be 2 l)
      exact hK _ _ (Below.refl _ _) (by show Value.string _ = Value.string _; rw [← ea])
    | 10, _ =>
      intro o ho a w hk hb hd K hK
      cases ho
      have e0 := hk.at_ 0 1 _ rfl
      rw [Array.getD_eq_getD_getElem?] at e0
      go_simp
      exact hK _ _ (Below.refl _ _) rfl
    | 11, _ =>
      intro o ho a w hk hb hd K hK
      cases ho
      have e0 := hd 10 (by simp [waitR])
      simp only [leaveR, slotR, if_false, Nat.reduceAdd, Nat.reduceEqDiff, Array.getD_eq_getD_getElem?] at e0
      obtain ⟨c0, c1, c2, c3⟩ := HK.out _ hb
      go_simp
      exact hK _ _ (Below.refl _ _) rfl
    | 12, _ =>
      intro o ho a w hk hb hd K hK
      cases ho
      have e0 := hd 11 (by simp [waitR])
      simp only [leaveR, slotR, if_false, Nat.reduceAdd, Nat.reduceEqDiff, Array.getD_eq_getD_getElem?] at e0
      have q : IntKind.u64.wrap (v : Int) = (v : Int) := IntWalk.u64_in _ (by omega)
      go_simp
      exact hK _ _ (Below.refl _ _) rfl
    | 13, _ =>
      intro o ho a w hk hb hd K hK
      cases ho
      have e0 := hd 12 (by simp [waitR])
      simp only [leaveR, slotR, if_false, Nat.reduceAdd, Nat.reduceEqDiff, Array.getD_eq_getD_getElem?] at e0
      go_simp
      refine (Of_any v 1 w (by omega) (by omega)).mono ?_
      rintro e w3 ⟨rfl, hw3⟩
      exact hK _ _ hw3 rfl
    | 14, _ =>
      intro o ho a w hk hb hd K hK
      cases ho
      have e0 := hd 9 (by simp [waitR])
      have e1 := hd 13 (by simp [waitR])
      simp only [leaveR, slotR, if_false, Nat.reduceAdd, Nat.reduceEqDiff, Array.getD_eq_getD_getElem?] at e0 e1
      have z1 : (str ((bH ++ be 2 d) ++ be 2 l)).size ≤ 12 := by rw [str_size]; simp [bH, be_length]
      have z2 : (str (be 1 v)).size ≤ 12 := by rw [str_size, be_length]; omega
      go_simp
      have ea := str_append ((bH ++ be 2 d) ++ be 2 l) (be 1 v)
      exact hK _ _ (Below.refl _ _) (by show Value.string _ = Value.string _; rw [← ea] <;> simp only [List.append_assoc])
    | 15, _ =>
      intro o ho a w hk hb hd K hK
      cases ho
      have e0 := hk.at_ 0 1 _ rfl
      rw [Array.getD_eq_getD_getElem?] at e0
      go_simp
      exact hK _ _ (Below.refl _ _) rfl
    | 16, _ =>
      intro o ho a w hk hb hd K hK
      cases ho
      have e0 := hd 15 (by simp [waitR])
      simp only [leaveR, slotR, if_false, Nat.reduceAdd, Nat.reduceEqDiff, Array.getD_eq_getD_getElem?] at e0
      obtain ⟨c0, c1, c2, c3⟩ := HK.out _ hb
      go_simp
      exact hK _ _ (Below.refl _ _) rfl
    | 17, _ =>
      intro o ho a w hk hb hd K hK
      cases ho
      have e0 := hd 16 (by simp [waitR])
      simp only [leaveR, slotR, if_false, Nat.reduceAdd, Nat.reduceEqDiff, Array.getD_eq_getD_getElem?] at e0
      have q : IntKind.u64.wrap (s : Int) = (s : Int) := IntWalk.u64_in _ (by omega)
      go_simp
      exact hK _ _ (Below.refl _ _) rfl
    | 18, _ =>
      intro o ho a w hk hb hd K hK
      cases ho
      have e0 := hd 17 (by simp [waitR])
      simp only [leaveR, slotR, if_false, Nat.reduceAdd, Nat.reduceEqDiff, Array.getD_eq_getD_getElem?] at e0
      go_simp
      refine (Of_any s 2 w (by omega) (by omega)).mono ?_
      rintro e w3 ⟨rfl, hw3⟩
      exact hK _ _ hw3 rfl
    | 19, _ =>
      intro o ho a w hk hb hd K hK
      cases ho
      have e0 := hd 14 (by simp [waitR])
      have e1 := hd 18 (by simp [waitR])
      simp only [leaveR, slotR, if_false, Nat.reduceAdd, Nat.reduceEqDiff, Array.getD_eq_getD_getElem?] at e0 e1
      have z1 : (str (((bH ++ be 2 d) ++ be 2 l) ++ be 1 v)).size ≤ 12 := by rw [str_size]; simp [bH, be_length]
      have z2 : (str (be 2 s)).size ≤ 12 := by rw [str_size, be_length]; omega
      go_simp
      have ea := str_append (((bH ++ be 2 d) ++ be 2 l) ++ be 1 v) (be 2 s)
      exact hK _ _ (Below.refl _ _) (by show Value.string _ = Value.string _; rw [← ea] <;> simp only [List.append_assoc])
    | 20, _ =>
      intro o ho a w hk hb hd K hK
      cases ho
      have e0 := hd 19 (by simp [waitR])
      simp only [leaveR, slotR, if_false, Nat.reduceAdd, Nat.reduceEqDiff, Array.getD_eq_getD_getElem?] at e0
      go_simp
      refine (refSeal_any _ w (by simp [bH, be_length])).mono ?_
      rintro e w3 ⟨rfl, hw3⟩
      exact hK _ _ hw3 (by show Value.string _ = Value.string _; rw [superB_pre])
    | 21, _ =>
      intro o ho a w hk hb hd K hK
      cases ho
      have e0 := hd 20 (by simp [waitR])
      simp only [leaveR, slotR, if_false, Nat.reduceAdd, Nat.reduceEqDiff, Array.getD_eq_getD_getElem?] at e0
      go_simp
      exact hK _ _ (Below.refl _ _) rfl
    | _ + 22, h => exact absurd h (by omega)
  · intro a w2 hk hb hR
    have e1 := hR 21 (by omega)
    simp only [leaveR, slotR, if_true] at e1
    obtain ⟨tm, df⟩ := a
    obtain ⟨_, hdf, _⟩ := hk
    simp only at hdf e1
    subst hdf
    have E1 := Lib.hid e1
    clear e1 hR
    go_wp2_with fail
    go_ret
    exact ⟨by rw [E1.out], HB0.out.trans (hb.mono HB0.out.size)⟩

set_option maxHeartbeats 400000 in
theorem refMayL_any (v g : Int) (t : Bool) (w : World) (ht : labB v g = t) :
    Calls Tryd.prog 14 #[.int .i64 v, .int .i64 g] w fun e w' => e = .returned (.bool t) ∧ w = w' := by
  cases t
  · have hn : ¬ (0 ≤ v ∧ v < 8 ∧ 0 ≤ g ∧ g ≤ 4294967295) := by simpa [labB] using ht
    have hc : (decide (0 ≤ v) = false) ∨ (0 ≤ v ∧ decide (v < 8) = false) ∨ (0 ≤ v ∧ v < 8 ∧ decide (0 ≤ g) = false) ∨ (0 ≤ v ∧ v < 8 ∧ 0 ≤ g ∧ decide (g ≤ 4294967295) = false) := by
      simp only [decide_eq_false_iff_not]
      omega
    clear hn ht
    rcases hc with h1 | ⟨h1, h2⟩ | ⟨h1, h2, h3⟩ | ⟨h1, h2, h3, h4⟩
    all_goals
      go_enter Tryd.func14, Tryd.ntmps14
      go_wp2
      go_ret
      exact ⟨rfl, rfl⟩
  · obtain ⟨h1, h2, h3, h4⟩ := labB_yes ht
    clear ht
    go_enter Tryd.func14, Tryd.ntmps14
    go_wp2
    go_ret
    exact ⟨rfl, rfl⟩

set_option maxRecDepth 100000 in
set_option maxHeartbeats 400000 in
theorem refLabel_any (v g : Nat) (w : World) (m1 : v < 256) (m2 : g < 4294967296) :
    Calls Tryd.prog 15 #[.int .i64 (v : Nat), .int .i64 (g : Nat)] w fun e w' => e = .returned (.string (str (labelB (v : Nat) (g : Nat)))) ∧ Below w.heap.size w w' := by
  have m2' : (g : Int) < 4294967296 := by omega
  have M2 := Lib.hid m2
  clear m2
  go_enter Tryd.func15, Tryd.ntmps15
  go_wp2_with fail
  refine (Of_any v 1 _ (by omega) (by omega)).mono ?_
  rintro e w1 ⟨rfl, hb1⟩
  have HB1 := Lib.hid hb1
  have z1 : (str (be 1 v)).size ≤ 12 := by rw [str_size, be_length]; omega
  have ea := str_append bV (be 1 v)
  have HEA := Lib.hid ea
  clear hb1 ea
  go_wp2_with fail
  refine (Of_any g 4 _ (by omega) (by have := M2.out; omega)).mono ?_
  rintro e w2 ⟨rfl, hb2⟩
  have HB2 := Lib.hid (HB1.out.trans (hb2.mono HB1.out.size))
  have z2 : (str (be 4 g)).size ≤ 12 := by rw [str_size, be_length]; omega
  have z3 : (str (bV ++ be 1 v)).size ≤ 12 := by rw [str_size]; simp [bV, be_length]
  have HEB := Lib.hid (str_append (bV ++ be 1 v) (be 4 g))
  clear hb2
  rw [show ({ data := #[104, 118, 111, 108] } : ByteArray) ++ str (be 1 v) = str (bV ++ be 1 v) from HEA.out]
  go_wp2_with fail
  rw [HEB.out]
  refine (refSeal_any _ _ (by simp [bV, be_length])).mono ?_
  rintro e w3 ⟨rfl, hb3⟩
  have HB3 := Lib.hid (HB2.out.trans (hb3.mono HB2.out.size))
  clear hb3
  go_wp2
  go_ret
  exact ⟨by rw [labelB_pre]; exact rfl, HB3.out⟩
end Go.Proofs.YthneomligbkmgaaDoor
