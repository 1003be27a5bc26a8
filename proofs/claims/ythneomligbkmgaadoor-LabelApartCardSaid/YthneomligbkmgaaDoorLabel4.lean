/-
  What label makes anew of the numbers of a label.
-/
import Derived.Test.YthneomligbkmgaaDoorLabel3
namespace Go.Proofs.YthneomligbkmgaaDoor
open Go.RowKit
set_option linter.unusedVariables false

theorem one_cell {w : World} {g : Nat} {t : TypeId} {a : Value} (h : Bk w g t #[a]) : w.cell? ⟨g, 0, none⟩ = some a ∧ w.frozen? ⟨g, 0, none⟩ = false := ⟨h.cell 0, h.free 0⟩
theorem set1_0 {w : World} {g : Nat} {t : TypeId} {a : Value} (h : Bk w g t #[a]) (u : Value) : Bk (w.setCell ⟨g, 0, none⟩ u) g t #[u] := h.set_ 0 u

set_option maxRecDepth 100000 in
set_option maxHeartbeats 2000000 in
theorem makeLabel_any (B : Nat) (A : Option Addr) (c g g' x v n : Nat) (a0 a1 : Value) (t : Bool) (w : World) (hr : Rd w B A ([x, v, n].map uv)) (hk : Bk w g 3 #[a0]) (hk' : Bk w g' 3 #[a1]) (hgg : g < g') (hv : v < 65536) (hn : n < 4294967296) (ht : labB v n = t) (hB : B ≤ w.heap.size) (hT : Tab w) (hg : 0 < g) (hne : ∀ ad, A = some ad → g' < ad.block) :
    Calls Tryd.prog 24 #[.slice A 3 c, .pointer (some ⟨g, 0, none⟩), .pointer (some ⟨g', 0, none⟩)] w fun e w' => Made w.heap.size t (labelB v n) e w' ∧ Bk w' g 3 #[.int .i64 v] ∧ Bk w' g' 3 #[.int .i64 n] ∧ Below g w w' := by
  obtain ⟨b, o, rfl, hbB, hcell⟩ := hr.plain (by simp)
  have c1 := hcell 1 _ rfl
  have c2 := hcell 2 _ rfl
  unfold uv at c1 c2
  obtain ⟨k0, f0⟩ := one_cell hk
  obtain ⟨k1, f1⟩ := one_cell hk'
  have n1 := hne _ rfl
  simp only at n1
  have n2 : b ≠ g := by omega
  have n3 : g ≠ b := by omega
  have n4 : b ≠ g' := by omega
  have n5 : g' ≠ b := by omega
  have n6 : g ≠ g' := by omega
  have n7 : g' ≠ g := by omega
  clear hcell hr hne
  go_enter Tryd.func24, Tryd.ntmps24
  go_wp2_with fail
  go_region
  obtain ⟨w8, hw8⟩ : ∃ w8, ((w.setCell ⟨g, 0, none⟩ (.int .i64 (v : Int))).setCell ⟨g', 0, none⟩ (.int .i64 (n : Int))).drew = w8 := ⟨_, rfl⟩
  have K8 : Hid (Bk w8 g 3 #[.int .i64 (v : Int)]) := by rw [← hw8]; exact ((set1_0 hk (.int .i64 (v : Int))).far (p := ⟨g', 0, none⟩) n6 (.int .i64 (n : Int))).drew
  have K9 : Hid (Bk w8 g' 3 #[.int .i64 (n : Int)]) := by rw [← hw8]; exact (set1_0 (hk'.far (p := ⟨g, 0, none⟩) n7 (.int .i64 (v : Int))) (.int .i64 (n : Int))).drew
  have HB8 : Hid (Below g w w8) := by rw [← hw8]; exact (((Below.refl g w).setCell (p := ⟨g, 0, none⟩) (Nat.le_refl _) _).setCell (p := ⟨g', 0, none⟩) (Nat.le_of_lt hgg) _).drew
  have HZ8 : Hid (w8.heap.size = w.heap.size) := by rw [← hw8]; show ((w.setCell ⟨g, 0, none⟩ (.int .i64 (v : Int))).setCell ⟨g', 0, none⟩ (.int .i64 (n : Int))).heap.size = _; rw [World.setCell_size', World.setCell_size']
  have HT8 := Lib.hid (hT.below HB8.out hg)
  rw [hw8]
  clear hw8 k0 k1 f0 f1 c1 c2 hk hk' hT
  obtain ⟨k0, -⟩ := one_cell K8.out
  obtain ⟨k1, -⟩ := one_cell K9.out
  have HM := Lib.hid ht
  clear ht
  go_wp2_with fail
  cases t
  · refine (Label_no _ _ _ HM.out).mono ?_
    rintro e w9 ⟨rfl, rfl⟩
    go_wp2
    go_ret2
    exact ⟨Made.no _ _ _, K8.out, K9.out, HB8.out⟩
  · refine (Label_yes _ _ _ HM.out HT8.out).mono ?_
    rintro e w9 ⟨g2, rfl, hg2, hbk, hb9⟩
    have HB9 := Lib.hid hb9
    have HBK := Lib.hid hbk
    have HG2 := Lib.hid hg2
    clear hb9 hbk hg2
    go_wp2
    go_ret2
    exact ⟨Made.yes ⟨g2, rfl, by rw [← HZ8.out]; exact HG2.out, HBK.out⟩, K8.out.below HB9.out K8.out.lt, K9.out.below HB9.out K9.out.lt, HB8.out.trans (HB9.out.mono (Nat.le_of_lt K8.out.lt))⟩
end Go.Proofs.YthneomligbkmgaaDoor
