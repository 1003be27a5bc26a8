/-
  What the document's answers ReadSuper and ReadLabel of layer 5 are, one contract each.
-/
import Derived.Test.YthneomligbkmgaaDoorRef05
namespace Go.Proofs.YthneomligbkmgaaDoor
open Go.RowKit
set_option linter.unusedVariables false

theorem str_beq (a b : List UInt8) : ((str a).toList == (str b).toList) = (a == b) := by rw [str_toList, str_toList]

set_option maxRecDepth 100000 in
set_option maxHeartbeats 1000000 in
theorem refReadSuper_any (bs : List UInt8) (q D L V S : Int) (w : World) (hl : bs.length ≤ 9223372036854775807) (hq : superQ bs = q) (hD : superG bs (dN bs) = D) (hL : superG bs (lN bs) = L) (hV : superG bs (vN bs) = V) (hS : superG bs (sN bs) = S) :
    Calls Tryd.prog 17 #[.string (str bs)] w fun e w' => e = .returned (.tuple #[.agg #[.int .i64 D, .int .i64 L, .int .i64 V, .int .i64 S], .int .i64 q]) ∧ Below w.heap.size w w' := by
  have K0 := Lib.hid (Bk.new w 23 #[.int .i64 0, .int .i64 0, .int .i64 0, .int .i64 0])
  have HB0 := Lib.hid ((Below.refl w.heap.size w).alloc (Nat.le_refl _) (.cells #[.int .i64 0, .int .i64 0, .int .i64 0, .int .i64 0] 23))
  have hge : w.heap.size ≤ w.heap.size := Nat.le_refl _
  unfold superG at hD hL hV hS
  rw [hq] at hD hL hV hS
  cases hh : heldB bs
  · obtain rfl : 5 = q := by rw [← hq, superQ, hh]; rfl
    obtain rfl : 0 = D := hD
    obtain rfl : 0 = L := hL
    obtain rfl : 0 = V := hV
    obtain rfl : 0 = S := hS
    have HH := Lib.hid hh
    clear hh hq
    go_enter Tryd.func17, Tryd.ntmps17
    go_wp2_with fail
    refine (refHeld_any bs false _ hl HH.out).mono ?_
    rintro e w1 ⟨rfl, hb1⟩
    have K1 := K0.out.below hb1 K0.out.lt
    have HB1 := Lib.hid (HB0.out.trans (hb1.mono HB0.out.size))
    obtain ⟨k0, k1, k2, k3, f0, f1, f2, f3⟩ := four_cells K1
    obtain ⟨p0, p1, p2, p3⟩ := four_puts K1 (.int .i64 0) (.int .i64 0) (.int .i64 0) (.int .i64 0)
    clear hb1
    go_wp2
    refine bodyPost_ret (v := .tuple #[.agg #[.int .i64 0, .int .i64 0, .int .i64 0, .int .i64 0], .int .i64 5]) (by simp [results, Tryd.results17, go_sem, p0, p1, p2, p3]) rfl ⟨rfl, ?_⟩
    exact (((HB1.out.setCell (p := ⟨w.heap.size, 0, none⟩) hge _).setCell (p := ⟨w.heap.size, 1, none⟩) hge _).setCell (p := ⟨w.heap.size, 2, none⟩) hge _).setCell (p := ⟨w.heap.size, 3, none⟩) hge _
  have hn : bs.length = 128 := by simp only [heldB, Bool.and_eq_true, decide_eq_true_iff] at hh; exact hh.1
  obtain ⟨d, hd⟩ : ∃ d, dN bs = d := ⟨_, rfl⟩
  obtain ⟨l, hl'⟩ : ∃ l, lN bs = l := ⟨_, rfl⟩
  obtain ⟨v, hv⟩ : ∃ v, vN bs = v := ⟨_, rfl⟩
  obtain ⟨s, hs⟩ : ∃ s, sN bs = s := ⟨_, rfl⟩
  have b1 := dN_lt bs
  have b2 := lN_lt bs
  have b3 := vN_lt bs
  have b4 := sN_lt bs
  rw [hd] at hD b1
  rw [hl'] at hL b2
  rw [hv] at hV b3
  rw [hs] at hS b4
  obtain ⟨t, ht⟩ : ∃ t, mayB d l v s = t := ⟨_, rfl⟩
  have hQ : sameQ t (superB d l v s) bs = q := by rw [← hq, superQ, hh, hd, hl', hv, hs, ht]; exact rfl
  have HH := Lib.hid hh
  have HM := Lib.hid ht
  have HG : Hid (∀ w', Calls Tryd.prog 28 #[.string (str bs), .int .i64 4, .int .i64 2] w' fun e w'' => e = .returned (.int .u64 (d : Int)) ∧ w' = w'') := fun w' => by rw [← hd]; exact Get_any bs 4 2 w' (by omega) (by omega) hl
  have HG2 : Hid (∀ w', Calls Tryd.prog 28 #[.string (str bs), .int .i64 6, .int .i64 2] w' fun e w'' => e = .returned (.int .u64 (l : Int)) ∧ w' = w'') := fun w' => by rw [← hl']; exact Get_any bs 6 2 w' (by omega) (by omega) hl
  have HG3 : Hid (∀ w', Calls Tryd.prog 28 #[.string (str bs), .int .i64 8, .int .i64 1] w' fun e w'' => e = .returned (.int .u64 (v : Int)) ∧ w' = w'') := fun w' => by rw [← hv]; exact Get_any bs 8 1 w' (by omega) (by omega) hl
  have HG4 : Hid (∀ w', Calls Tryd.prog 28 #[.string (str bs), .int .i64 9, .int .i64 2] w' fun e w'' => e = .returned (.int .u64 (s : Int)) ∧ w' = w'') := fun w' => by rw [← hs]; exact Get_any bs 9 2 w' (by omega) (by omega) hl
  clear hh hd hl' hv hs hq ht hn
  go_enter Tryd.func17, Tryd.ntmps17
  go_wp2_with fail
  refine (refHeld_any bs true _ hl HH.out).mono ?_
  rintro e w1 ⟨rfl, hb1⟩
  have K1 := Lib.hid (K0.out.below hb1 K0.out.lt)
  have HB1 := Lib.hid (HB0.out.trans (hb1.mono HB0.out.size))
  have hz1 := HB1.out.size
  clear hb1
  go_wp2_with fail
  refine (HG.out _).mono ?_
  rintro e w2 ⟨rfl, rfl⟩
  go_wp2_with fail
  refine (HG2.out _).mono ?_
  rintro e w2 ⟨rfl, rfl⟩
  go_wp2_with fail
  refine (HG3.out _).mono ?_
  rintro e w2 ⟨rfl, rfl⟩
  go_wp2_with fail
  refine (HG4.out _).mono ?_
  rintro e w2 ⟨rfl, rfl⟩
  go_wp2_with fail
  have K2 := Lib.hid (K1.out.alloc (.cells #[.int .i64 (d : Int), .int .i64 (l : Int), .int .i64 (v : Int), .int .i64 (s : Int)] 23))
  have G2 := Lib.hid (Bk.new w1 23 #[.int .i64 (d : Int), .int .i64 (l : Int), .int .i64 (v : Int), .int .i64 (s : Int)])
  have HB2 := Lib.hid (HB1.out.alloc HB1.out.size (.cells #[.int .i64 (d : Int), .int .i64 (l : Int), .int .i64 (v : Int), .int .i64 (s : Int)] 23))
  refine (refMay_any (d : Int) (l : Int) (v : Int) (s : Int) t _ HM.out).mono ?_
  rintro e w3 ⟨rfl, hb3⟩
  have K3 := Lib.hid (K2.out.below hb3 K2.out.lt)
  have G3 := Lib.hid (G2.out.below hb3 G2.out.lt)
  have HB3 := Lib.hid (HB2.out.trans (hb3.mono HB2.out.size))
  clear hb3 K2 G2 HB2 K1
  cases t
  · obtain rfl : 3 = q := hQ
    obtain rfl : 0 = D := hD
    obtain rfl : 0 = L := hL
    obtain rfl : 0 = V := hV
    obtain rfl : 0 = S := hS
    obtain ⟨k0, k1, k2, k3, f0, f1, f2, f3⟩ := four_cells K3.out
    obtain ⟨p0, p1, p2, p3⟩ := four_puts K3.out (.int .i64 0) (.int .i64 0) (.int .i64 0) (.int .i64 0)
    go_wp2
    refine bodyPost_ret (v := .tuple #[.agg #[.int .i64 0, .int .i64 0, .int .i64 0, .int .i64 0], .int .i64 3]) (by simp [results, Tryd.results17, go_sem, p0, p1, p2, p3]) rfl ⟨rfl, ?_⟩
    exact (((HB3.out.setCell (p := ⟨w.heap.size, 0, none⟩) hge _).setCell (p := ⟨w.heap.size, 1, none⟩) hge _).setCell (p := ⟨w.heap.size, 2, none⟩) hge _).setCell (p := ⟨w.heap.size, 3, none⟩) hge _
  obtain ⟨u, hu⟩ : ∃ u, (superB (d : Int) (l : Int) (v : Int) (s : Int) == bs) = u := ⟨_, rfl⟩
  have HQ2 : Hid (q = if u then 0 else 3) := by rw [← hQ, sameQ, hu]; exact rfl
  have hE : ((str (superB (d : Int) (l : Int) (v : Int) (s : Int))).toList == (str bs).toList) = u := by rw [str_beq, hu]
  clear hQ hu
  obtain ⟨g0, g1, g2, g3, -⟩ := four_cells G3.out
  go_wp2_with fail
  refine (refSuper_any d l v s _ b1 b2 b3 b4).mono ?_
  rintro e w4 ⟨rfl, hb4⟩
  have K4 := K3.out.below hb4 K3.out.lt
  have G4 := G3.out.below hb4 G3.out.lt
  have HB4 := Lib.hid (HB3.out.trans (hb4.mono HB3.out.size))
  clear hb4 g0 g1 g2 g3 K3 G3
  obtain ⟨g0, g1, g2, g3, -⟩ := four_cells G4
  obtain ⟨k0, k1, k2, k3, f0, f1, f2, f3⟩ := four_cells K4
  cases u
  · obtain rfl : q = 3 := HQ2.out
    obtain rfl : 0 = D := hD
    obtain rfl : 0 = L := hL
    obtain rfl : 0 = V := hV
    obtain rfl : 0 = S := hS
    obtain ⟨p0, p1, p2, p3⟩ := four_puts K4 (.int .i64 0) (.int .i64 0) (.int .i64 0) (.int .i64 0)
    go_wp2
    refine bodyPost_ret (v := .tuple #[.agg #[.int .i64 0, .int .i64 0, .int .i64 0, .int .i64 0], .int .i64 3]) (by simp [results, Tryd.results17, go_sem, p0, p1, p2, p3]) rfl ⟨rfl, ?_⟩
    exact (((HB4.out.setCell (p := ⟨w.heap.size, 0, none⟩) hge _).setCell (p := ⟨w.heap.size, 1, none⟩) hge _).setCell (p := ⟨w.heap.size, 2, none⟩) hge _).setCell (p := ⟨w.heap.size, 3, none⟩) hge _
  · obtain rfl : q = 0 := HQ2.out
    obtain rfl : (d : Int) = D := hD
    obtain rfl : (l : Int) = L := hL
    obtain rfl : (v : Int) = V := hV
    obtain rfl : (s : Int) = S := hS
    obtain ⟨p0, p1, p2, p3⟩ := four_puts K4 (.int .i64 (d : Int)) (.int .i64 (l : Int)) (.int .i64 (v : Int)) (.int .i64 (s : Int))
    go_wp2
    refine bodyPost_ret (v := .tuple #[.agg #[.int .i64 (d : Int), .int .i64 (l : Int), .int .i64 (v : Int), .int .i64 (s : Int)], .int .i64 0]) (by simp [results, Tryd.results17, go_sem, p0, p1, p2, p3]) rfl ⟨rfl, ?_⟩
    exact (((HB4.out.setCell (p := ⟨w.heap.size, 0, none⟩) hge _).setCell (p := ⟨w.heap.size, 1, none⟩) hge _).setCell (p := ⟨w.heap.size, 2, none⟩) hge _).setCell (p := ⟨w.heap.size, 3, none⟩) hge _

set_option maxRecDepth 100000 in
set_option maxHeartbeats 1000000 in
theorem refReadLabel_any (bs : List UInt8) (q V G : Int) (w : World) (hl : bs.length ≤ 9223372036854775807) (hq : labelQ bs = q) (hV : labelG bs (volN bs) = V) (hG : labelG bs (genN bs) = G) :
    Calls Tryd.prog 18 #[.string (str bs)] w fun e w' => e = .returned (.tuple #[.int .i64 V, .int .i64 G, .int .i64 q]) ∧ Below w.heap.size w w' := by
  unfold labelG at hV hG
  rw [hq] at hV hG
  cases hh : heldB bs
  · obtain rfl : 5 = q := by rw [← hq, labelQ, hh]; rfl
    obtain rfl : 0 = V := hV
    obtain rfl : 0 = G := hG
    have HH := Lib.hid hh
    clear hh hq
    go_enter Tryd.func18, Tryd.ntmps18
    go_wp2_with fail
    refine (refHeld_any bs false _ hl HH.out).mono ?_
    rintro e w1 ⟨rfl, hb1⟩
    have HB1 := Lib.hid hb1
    clear hb1
    go_wp2
    exact bodyPost_ret (v := .tuple #[.int .i64 0, .int .i64 0, .int .i64 5]) (by simp [results, Tryd.results18, go_sem]) rfl ⟨rfl, HB1.out⟩
  have hn : bs.length = 128 := by simp only [heldB, Bool.and_eq_true, decide_eq_true_iff] at hh; exact hh.1
  obtain ⟨v, hv⟩ : ∃ v, volN bs = v := ⟨_, rfl⟩
  obtain ⟨g, hg⟩ : ∃ g, genN bs = g := ⟨_, rfl⟩
  have b1 := volN_lt bs
  have b2 := genN_lt bs
  rw [hv] at hV b1
  rw [hg] at hG b2
  have b2' : (g : Int) < 4294967296 := by omega
  obtain ⟨t, ht⟩ : ∃ t, labB v g = t := ⟨_, rfl⟩
  have hQ : sameQ t (labelB v g) bs = q := by rw [← hq, labelQ, hh, hv, hg, ht]; exact rfl
  have HH := Lib.hid hh
  have HM := Lib.hid ht
  have HG : Hid (∀ w', Calls Tryd.prog 28 #[.string (str bs), .int .i64 4, .int .i64 1] w' fun e w'' => e = .returned (.int .u64 (v : Int)) ∧ w' = w'') := fun w' => by rw [← hv]; exact Get_any bs 4 1 w' (by omega) (by omega) hl
  have HG2 : Hid (∀ w', Calls Tryd.prog 28 #[.string (str bs), .int .i64 5, .int .i64 4] w' fun e w'' => e = .returned (.int .u64 (g : Int)) ∧ w' = w'') := fun w' => by rw [← hg]; exact Get_any bs 5 4 w' (by omega) (by omega) hl
  have B2 := Lib.hid b2
  clear hh hv hg hq ht hn b2
  go_enter Tryd.func18, Tryd.ntmps18
  go_wp2_with fail
  refine (refHeld_any bs true _ hl HH.out).mono ?_
  rintro e w1 ⟨rfl, hb1⟩
  have HB1 := Lib.hid hb1
  clear hb1
  go_wp2_with fail
  refine (HG.out _).mono ?_
  rintro e w2 ⟨rfl, rfl⟩
  go_wp2_with fail
  refine (HG2.out _).mono ?_
  rintro e w2 ⟨rfl, rfl⟩
  go_wp2_with fail
  refine (refMayL_any (v : Int) (g : Int) t _ HM.out).mono ?_
  rintro e w3 ⟨rfl, rfl⟩
  cases t
  · obtain rfl : 3 = q := hQ
    obtain rfl : 0 = V := hV
    obtain rfl : 0 = G := hG
    go_wp2
    exact bodyPost_ret (v := .tuple #[.int .i64 0, .int .i64 0, .int .i64 3]) (by simp [results, Tryd.results18, go_sem]) rfl ⟨rfl, HB1.out⟩
  obtain ⟨u, hu⟩ : ∃ u, (labelB (v : Int) (g : Int) == bs) = u := ⟨_, rfl⟩
  have HQ2 : Hid (q = if u then 0 else 3) := by rw [← hQ, sameQ, hu]; exact rfl
  have hE : ((str (labelB (v : Int) (g : Int))).toList == (str bs).toList) = u := by rw [str_beq, hu]
  clear hQ hu
  go_wp2_with fail
  refine (refLabel_any v g _ b1 B2.out).mono ?_
  rintro e w4 ⟨rfl, hb4⟩
  have HB4 := Lib.hid (HB1.out.trans (hb4.mono HB1.out.size))
  clear hb4
  cases u
  · obtain rfl : q = 3 := HQ2.out
    obtain rfl : 0 = V := hV
    obtain rfl : 0 = G := hG
    go_wp2
    exact bodyPost_ret (v := .tuple #[.int .i64 0, .int .i64 0, .int .i64 3]) (by simp [results, Tryd.results18, go_sem]) rfl ⟨rfl, HB4.out⟩
  · obtain rfl : q = 0 := HQ2.out
    obtain rfl : (v : Int) = V := hV
    obtain rfl : (g : Int) = G := hG
    go_wp2
    exact bodyPost_ret (v := .tuple #[.int .i64 (v : Int), .int .i64 (g : Int), .int .i64 0]) (by simp [results, Tryd.results18, go_sem]) rfl ⟨rfl, HB4.out⟩
end Go.Proofs.YthneomligbkmgaaDoor
