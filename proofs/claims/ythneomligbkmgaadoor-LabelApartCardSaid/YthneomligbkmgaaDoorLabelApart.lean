/-
  Two geometries have the same superblock just if they are the same; two labels likewise. Conditions: crc.halves holds what its text lays, tied to the program.
-/
import Derived.Test.YthneomligbkmgaaDoorLabelApartR
import Derived.Test.YthneomligbkmgaaDoorLabelAwake
import Derived.Test.YthneomligbkmgaaDoorCrcTab
import Derived.Test.YthneomligbkmgaaDoorOpenApart
import Derived.Test.YthneomligbkmgaaDoorCards
import Derived.Test.YthneomligbkmgaaDoorTie
import Derived.SevenTiedAt
import Derived.BigQuiet
import Derived.Deep.RegionHeld3
namespace Go.Proofs.YthneomligbkmgaaDoor.labelApart
open Go.ChangeShapes Go.WideShapes Go.ChangeAt Go.RowKit
set_option linter.unusedVariables false

set_option maxRecDepth 100000 in
set_option maxHeartbeats 4000000 in
theorem cut (D L V S D' L' V' S' a b a' b' : Int) (w : World) (p1 : 0 ≤ a) (p2 : a ≤ 65535) (p3 : 0 ≤ b) (p4 : b ≤ 65535) (p5 : 0 ≤ a') (p6 : a' ≤ 65535) (p7 : 0 ≤ b') (p8 : b' ≤ 65535) (ht : Tab w) :
    Calls Tryd.prog 6 #[.agg #[.int .i64 D, .int .i64 L, .int .i64 V, .int .i64 S, .int .i64 D', .int .i64 L', .int .i64 V', .int .i64 S', .int .u16 a, .int .u16 b, .int .u16 a', .int .u16 b']] w fun e w' => e = .returned (.bool true) ∧ Below w.heap.size w w' := by
  have HT := Lib.hid ht
  clear ht
  have HKC : Hid (∀ w', Below (w.alloc (.cells #[.int .i64 D, .int .i64 L, .int .i64 V, .int .i64 S, .int .i64 D', .int .i64 L', .int .i64 V', .int .i64 S', .int .u16 a, .int .u16 b, .int .u16 a', .int .u16 b'] 47)).heap.size (w.alloc (.cells #[.int .i64 D, .int .i64 L, .int .i64 V, .int .i64 S, .int .i64 D', .int .i64 L', .int .i64 V', .int .i64 S', .int .u16 a, .int .u16 b, .int .u16 a', .int .u16 b'] 47)) w' → w'.cell? ⟨w.heap.size, 0, none⟩ = some (.int .i64 D) ∧ w'.cell? ⟨w.heap.size, 1, none⟩ = some (.int .i64 L) ∧ w'.cell? ⟨w.heap.size, 2, none⟩ = some (.int .i64 V) ∧ w'.cell? ⟨w.heap.size, 3, none⟩ = some (.int .i64 S) ∧ w'.cell? ⟨w.heap.size, 4, none⟩ = some (.int .i64 D') ∧ w'.cell? ⟨w.heap.size, 5, none⟩ = some (.int .i64 L') ∧ w'.cell? ⟨w.heap.size, 6, none⟩ = some (.int .i64 V') ∧ w'.cell? ⟨w.heap.size, 7, none⟩ = some (.int .i64 S') ∧ w'.cell? ⟨w.heap.size, 8, none⟩ = some (.int .u16 a) ∧ w'.cell? ⟨w.heap.size, 9, none⟩ = some (.int .u16 b) ∧ w'.cell? ⟨w.heap.size, 10, none⟩ = some (.int .u16 a') ∧ w'.cell? ⟨w.heap.size, 11, none⟩ = some (.int .u16 b')) := fun w' hb => by
    have h := (Bk.new w 47 #[.int .i64 D, .int .i64 L, .int .i64 V, .int .i64 S, .int .i64 D', .int .i64 L', .int .i64 V', .int .i64 S', .int .u16 a, .int .u16 b, .int .u16 a', .int .u16 b']).below hb (by simp)
    exact ⟨h.cell 0, h.cell 1, h.cell 2, h.cell 3, h.cell 4, h.cell 5, h.cell 6, h.cell 7, h.cell 8, h.cell 9, h.cell 10, h.cell 11⟩
  obtain ⟨VV, hVV⟩ : ∃ VV : Nat → Value, VV = fun ix => ([.pointer (some ⟨w.heap.size, 0, none⟩), .agg #[.int .i64 D, .int .i64 L, .int .i64 V, .int .i64 S], .pointer (some ⟨w.heap.size, 4, none⟩), .agg #[.int .i64 D', .int .i64 L', .int .i64 V', .int .i64 S'], .pointer (some ⟨w.heap.size, 8, none⟩), .agg #[.int .u16 a, .int .u16 b], .pointer (some ⟨w.heap.size, 10, none⟩), .agg #[.int .u16 a', .int .u16 b']] : List Value).getD ix undef := ⟨_, rfl⟩
  obtain ⟨CC, hCC⟩ : ∃ CC : Nat → Array Value, CC = fun ix => ([#[.int .i64 D, .int .i64 L, .int .i64 V, .int .i64 S], #[.int .i64 D', .int .i64 L', .int .i64 V', .int .i64 S'], #[.int .u16 a, .int .u16 b], #[.int .u16 a', .int .u16 b']] : List (Array Value)).getD (ix - 8) #[] := ⟨_, rfl⟩
  have HVV := Lib.hid hVV
  have HCC := Lib.hid hCC
  have HB0 := Lib.hid (Below.alloc (Below.refl w.heap.size w) (Nat.le_refl _) (.cells #[.int .i64 D, .int .i64 L, .int .i64 V, .int .i64 S, .int .i64 D', .int .i64 L', .int .i64 V', .int .i64 S', .int .u16 a, .int .u16 b, .int .u16 a', .int .u16 b'] 47))
  clear hVV hCC
  go_enter Tryd.func6, Tryd.ntmps6
  go_wp2_with fail
  refine wp_region_states (by kernel_rfl) 16 103 (fun ix => if ix < 8 then 15 + ix else if ix < 12 then ix - 5 else 91 + ix) apW (ApJ (w.alloc (.cells #[.int .i64 D, .int .i64 L, .int .i64 V, .int .i64 S, .int .i64 D', .int .i64 L', .int .i64 V', .int .i64 S', .int .u16 a, .int .u16 b, .int .u16 a', .int .u16 b'] 47)) VV CC) (by kernel_rfl) rfl ⟨(Below.refl _ _).drew, fun j _ hj => (nomatch hj), fun j _ _ hj => (nomatch hj), fun i j g _ _ _ _ _ hj => (nomatch hj)⟩ ?_ ?_
  · refine (all_succ (all_succ (all_succ (all_succ (all_succ (all_succ (all_succ (all_succ (all_succ (all_succ (all_succ (all_succ (all_succ (all_succ (all_succ (all_succ all_zero ?h0) ?h1) ?h2) ?h3) ?h4) ?h5) ?h6) ?h7) ?h8) ?h9) ?h10) ?h11) ?h12) ?h13) ?h14) ?h15)
    case h0 =>
      intro o ho LL vals aa w' hs hi hcl hdl hJ K hK
      cases ho
      have e0 := hs.outS 1 (.pointer (some ⟨w.heap.size, 0, none⟩)) (by omega) (fun ix hix => by show (if ix < 8 then 15 + ix else if ix < 12 then ix - 5 else 91 + ix) ≠ 1; split <;> (try split) <;> omega) rfl
      go_simp
      exact hK _ _ (by rw [show (.pointer (some ⟨w.heap.size, 0, none⟩) : Value) = VV 0 by rw [HVV.out]; rfl]; exact hJ.plain 0 (by omega))
    case h1 =>
      intro o ho LL vals aa w' hs hi hcl hdl hJ K hK
      cases ho
      have e0 := hs.vs 0 15 (.pointer (some ⟨w.heap.size, 0, none⟩)) (hdl 0 (by simp [apW])) (by omega) rfl (by omega) ((hJ.val 0 (by omega) (hdl 0 (by simp [apW]))).trans (by rw [HVV.out]; rfl))
      obtain ⟨c0, c1, c2, c3, c4, c5, c6, c7, c8, c9, c10, c11⟩ := HKC.out _ hJ.below
      go_simp
      exact hK _ _ (by rw [show (.agg #[.int .i64 D, .int .i64 L, .int .i64 V, .int .i64 S] : Value) = VV 1 by rw [HVV.out]; rfl]; exact hJ.plain 1 (by omega))
    case h2 =>
      intro o ho LL vals aa w' hs hi hcl hdl hJ K hK
      cases ho
      have e0 := hs.outS 1 (.pointer (some ⟨w.heap.size, 0, none⟩)) (by omega) (fun ix hix => by show (if ix < 8 then 15 + ix else if ix < 12 then ix - 5 else 91 + ix) ≠ 1; split <;> (try split) <;> omega) rfl
      go_simp
      exact hK _ _ (by rw [show (.pointer (some ⟨w.heap.size, 4, none⟩) : Value) = VV 2 by rw [HVV.out]; rfl]; exact hJ.plain 2 (by omega))
    case h3 =>
      intro o ho LL vals aa w' hs hi hcl hdl hJ K hK
      cases ho
      have e0 := hs.vs 2 17 (.pointer (some ⟨w.heap.size, 4, none⟩)) (hdl 2 (by simp [apW])) (by omega) rfl (by omega) ((hJ.val 2 (by omega) (hdl 2 (by simp [apW]))).trans (by rw [HVV.out]; rfl))
      obtain ⟨c0, c1, c2, c3, c4, c5, c6, c7, c8, c9, c10, c11⟩ := HKC.out _ hJ.below
      go_simp
      exact hK _ _ (by rw [show (.agg #[.int .i64 D', .int .i64 L', .int .i64 V', .int .i64 S'] : Value) = VV 3 by rw [HVV.out]; rfl]; exact hJ.plain 3 (by omega))
    case h4 =>
      intro o ho LL vals aa w' hs hi hcl hdl hJ K hK
      cases ho
      have e0 := hs.outS 1 (.pointer (some ⟨w.heap.size, 0, none⟩)) (by omega) (fun ix hix => by show (if ix < 8 then 15 + ix else if ix < 12 then ix - 5 else 91 + ix) ≠ 1; split <;> (try split) <;> omega) rfl
      go_simp
      exact hK _ _ (by rw [show (.pointer (some ⟨w.heap.size, 8, none⟩) : Value) = VV 4 by rw [HVV.out]; rfl]; exact hJ.plain 4 (by omega))
    case h5 =>
      intro o ho LL vals aa w' hs hi hcl hdl hJ K hK
      cases ho
      have e0 := hs.vs 4 19 (.pointer (some ⟨w.heap.size, 8, none⟩)) (hdl 4 (by simp [apW])) (by omega) rfl (by omega) ((hJ.val 4 (by omega) (hdl 4 (by simp [apW]))).trans (by rw [HVV.out]; rfl))
      obtain ⟨c0, c1, c2, c3, c4, c5, c6, c7, c8, c9, c10, c11⟩ := HKC.out _ hJ.below
      go_simp
      exact hK _ _ (by rw [show (.agg #[.int .u16 a, .int .u16 b] : Value) = VV 5 by rw [HVV.out]; rfl]; exact hJ.plain 5 (by omega))
    case h6 =>
      intro o ho LL vals aa w' hs hi hcl hdl hJ K hK
      cases ho
      have e0 := hs.outS 1 (.pointer (some ⟨w.heap.size, 0, none⟩)) (by omega) (fun ix hix => by show (if ix < 8 then 15 + ix else if ix < 12 then ix - 5 else 91 + ix) ≠ 1; split <;> (try split) <;> omega) rfl
      go_simp
      exact hK _ _ (by rw [show (.pointer (some ⟨w.heap.size, 10, none⟩) : Value) = VV 6 by rw [HVV.out]; rfl]; exact hJ.plain 6 (by omega))
    case h7 =>
      intro o ho LL vals aa w' hs hi hcl hdl hJ K hK
      cases ho
      have e0 := hs.vs 6 21 (.pointer (some ⟨w.heap.size, 10, none⟩)) (hdl 6 (by simp [apW])) (by omega) rfl (by omega) ((hJ.val 6 (by omega) (hdl 6 (by simp [apW]))).trans (by rw [HVV.out]; rfl))
      obtain ⟨c0, c1, c2, c3, c4, c5, c6, c7, c8, c9, c10, c11⟩ := HKC.out _ hJ.below
      go_simp
      exact hK _ _ (by rw [show (.agg #[.int .u16 a', .int .u16 b'] : Value) = VV 7 by rw [HVV.out]; rfl]; exact hJ.plain 7 (by omega))
    case h8 =>
      intro o ho LL vals aa w' hs hi hcl hdl hJ K hK
      cases ho
      have h4 : LL 12 = false := by
        rw [Bool.eq_false_iff]
        intro h
        rw [hcl 12 h 8 (by simp [apW])] at hi
        cases hi
      go_simp
      exact hK _ _ (hJ.alloc 8 (by omega) (by omega) h4)
    case h9 =>
      intro o ho LL vals aa w' hs hi hcl hdl hJ K hK
      cases ho
      have h4 : LL 13 = false := by
        rw [Bool.eq_false_iff]
        intro h
        rw [hcl 13 h 9 (by simp [apW])] at hi
        cases hi
      go_simp
      exact hK _ _ (hJ.alloc 9 (by omega) (by omega) h4)
    case h10 =>
      intro o ho LL vals aa w' hs hi hcl hdl hJ K hK
      cases ho
      have h4 : LL 14 = false := by
        rw [Bool.eq_false_iff]
        intro h
        rw [hcl 14 h 10 (by simp [apW])] at hi
        cases hi
      go_simp
      exact hK _ _ (hJ.alloc 10 (by omega) (by omega) h4)
    case h11 =>
      intro o ho LL vals aa w' hs hi hcl hdl hJ K hK
      cases ho
      have h4 : LL 15 = false := by
        rw [Bool.eq_false_iff]
        intro h
        rw [hcl 15 h 11 (by simp [apW])] at hi
        cases hi
      go_simp
      exact hK _ _ (hJ.alloc 11 (by omega) (by omega) h4)
    case h12 =>
      intro o ho LL vals aa w' hs hi hcl hdl hJ K hK
      cases ho
      have e0 := hs.vs 1 16 (.agg #[.int .i64 D, .int .i64 L, .int .i64 V, .int .i64 S]) (hdl 1 (by simp [apW])) (by omega) rfl (by omega) ((hJ.val 1 (by omega) (hdl 1 (by simp [apW]))).trans (by rw [HVV.out]; rfl))
      obtain ⟨g, hv, hg, hz⟩ := hJ.blk 8 (by omega) (by omega) (hdl 8 (by simp [apW]))
      rw [hi, if_neg (by decide)] at hz
      have hz : Bk w' g 23 #[.int .i64 0, .int .i64 0, .int .i64 0, .int .i64 0] := hz
      have e1 := hs.vs 8 3 _ (hdl 8 (by simp [apW])) (by omega) rfl (by omega) hv
      obtain ⟨k0, k1, k2, k3, f0, f1, f2, f3⟩ := four_cells hz
      go_simp
      exact hK undef _ (hJ.store 8 (by omega) (by omega) (hdl 8 (by simp [apW])) g hv (by rw [HCC.out]; exact set4_3 (set4_2 (set4_1 (set4_0 hz _) _) _) _) (fun g' t cs hne hb3 => (((hb3.far (p := ⟨g, 0, none⟩) hne _).far (p := ⟨g, 1, none⟩) hne _).far (p := ⟨g, 2, none⟩) hne _).far (p := ⟨g, 3, none⟩) hne _) ((((hJ.below.setCell (p := ⟨g, 0, none⟩) hg _).setCell (p := ⟨g, 1, none⟩) hg _).setCell (p := ⟨g, 2, none⟩) hg _).setCell (p := ⟨g, 3, none⟩) hg _) undef)
    case h13 =>
      intro o ho LL vals aa w' hs hi hcl hdl hJ K hK
      cases ho
      have e0 := hs.vs 3 18 (.agg #[.int .i64 D', .int .i64 L', .int .i64 V', .int .i64 S']) (hdl 3 (by simp [apW])) (by omega) rfl (by omega) ((hJ.val 3 (by omega) (hdl 3 (by simp [apW]))).trans (by rw [HVV.out]; rfl))
      obtain ⟨g, hv, hg, hz⟩ := hJ.blk 9 (by omega) (by omega) (hdl 9 (by simp [apW]))
      rw [hi, if_neg (by decide)] at hz
      have hz : Bk w' g 23 #[.int .i64 0, .int .i64 0, .int .i64 0, .int .i64 0] := hz
      have e1 := hs.vs 9 4 _ (hdl 9 (by simp [apW])) (by omega) rfl (by omega) hv
      obtain ⟨k0, k1, k2, k3, f0, f1, f2, f3⟩ := four_cells hz
      go_simp
      exact hK undef _ (hJ.store 9 (by omega) (by omega) (hdl 9 (by simp [apW])) g hv (by rw [HCC.out]; exact set4_3 (set4_2 (set4_1 (set4_0 hz _) _) _) _) (fun g' t cs hne hb3 => (((hb3.far (p := ⟨g, 0, none⟩) hne _).far (p := ⟨g, 1, none⟩) hne _).far (p := ⟨g, 2, none⟩) hne _).far (p := ⟨g, 3, none⟩) hne _) ((((hJ.below.setCell (p := ⟨g, 0, none⟩) hg _).setCell (p := ⟨g, 1, none⟩) hg _).setCell (p := ⟨g, 2, none⟩) hg _).setCell (p := ⟨g, 3, none⟩) hg _) undef)
    case h14 =>
      intro o ho LL vals aa w' hs hi hcl hdl hJ K hK
      cases ho
      have e0 := hs.vs 5 20 (.agg #[.int .u16 a, .int .u16 b]) (hdl 5 (by simp [apW])) (by omega) rfl (by omega) ((hJ.val 5 (by omega) (hdl 5 (by simp [apW]))).trans (by rw [HVV.out]; rfl))
      obtain ⟨g, hv, hg, hz⟩ := hJ.blk 10 (by omega) (by omega) (hdl 10 (by simp [apW]))
      rw [hi, if_neg (by decide)] at hz
      have hz : Bk w' g 45 #[.int .u16 0, .int .u16 0] := hz
      have e1 := hs.vs 10 5 _ (hdl 10 (by simp [apW])) (by omega) rfl (by omega) hv
      obtain ⟨k0, k1, f0, f1⟩ := two_cells hz
      go_simp
      exact hK undef _ (hJ.store 10 (by omega) (by omega) (hdl 10 (by simp [apW])) g hv (by rw [HCC.out]; exact two_puts' hz _ _) (fun g' t cs hne hb3 => (hb3.far (p := ⟨g, 0, none⟩) hne _).far (p := ⟨g, 1, none⟩) hne _) ((hJ.below.setCell (p := ⟨g, 0, none⟩) hg _).setCell (p := ⟨g, 1, none⟩) hg _) undef)
    case h15 =>
      intro o ho LL vals aa w' hs hi hcl hdl hJ K hK
      cases ho
      have e0 := hs.vs 7 22 (.agg #[.int .u16 a', .int .u16 b']) (hdl 7 (by simp [apW])) (by omega) rfl (by omega) ((hJ.val 7 (by omega) (hdl 7 (by simp [apW]))).trans (by rw [HVV.out]; rfl))
      obtain ⟨g, hv, hg, hz⟩ := hJ.blk 11 (by omega) (by omega) (hdl 11 (by simp [apW]))
      rw [hi, if_neg (by decide)] at hz
      have hz : Bk w' g 45 #[.int .u16 0, .int .u16 0] := hz
      have e1 := hs.vs 11 6 _ (hdl 11 (by simp [apW])) (by omega) rfl (by omega) hv
      obtain ⟨k0, k1, f0, f1⟩ := two_cells hz
      go_simp
      exact hK undef _ (hJ.store 11 (by omega) (by omega) (hdl 11 (by simp [apW])) g hv (by rw [HCC.out]; exact two_puts' hz _ _) (fun g' t cs hne hb3 => (hb3.far (p := ⟨g, 0, none⟩) hne _).far (p := ⟨g, 1, none⟩) hne _) ((hJ.below.setCell (p := ⟨g, 0, none⟩) hg _).setCell (p := ⟨g, 1, none⟩) hg _) undef)
  · intro vals a2 w2 hs hJ
    obtain ⟨g0, v0, -, k0⟩ := hJ.blk 8 (by omega) (by omega) (by decide)
    obtain ⟨g1, v1, -, k1⟩ := hJ.blk 9 (by omega) (by omega) (by decide)
    obtain ⟨g2, v2, -, k2⟩ := hJ.blk 10 (by omega) (by omega) (by decide)
    obtain ⟨g3, v3, -, k3⟩ := hJ.blk 11 (by omega) (by omega) (by decide)
    rw [HCC.out] at k0 k1 k2 k3
    have G0 : Hid (Bk w2 g0 23 #[.int .i64 D, .int .i64 L, .int .i64 V, .int .i64 S]) := k0
    have G1 : Hid (Bk w2 g1 23 #[.int .i64 D', .int .i64 L', .int .i64 V', .int .i64 S']) := k1
    have G2 : Hid (Bk w2 g2 45 #[.int .u16 a, .int .u16 b]) := k2
    have G3 : Hid (Bk w2 g3 45 #[.int .u16 a', .int .u16 b']) := k3
    have HB2 := Lib.hid (HB0.out.trans (hJ.below.mono HB0.out.size))
    have hval : ∀ i, i < 16 → vals i = ([.pointer (some ⟨w.heap.size, 0, none⟩), .agg #[.int .i64 D, .int .i64 L, .int .i64 V, .int .i64 S], .pointer (some ⟨w.heap.size, 4, none⟩), .agg #[.int .i64 D', .int .i64 L', .int .i64 V', .int .i64 S'], .pointer (some ⟨w.heap.size, 8, none⟩), .agg #[.int .u16 a, .int .u16 b], .pointer (some ⟨w.heap.size, 10, none⟩), .agg #[.int .u16 a', .int .u16 b'], .pointer (some ⟨g0, 0, none⟩), .pointer (some ⟨g1, 0, none⟩), .pointer (some ⟨g2, 0, none⟩), .pointer (some ⟨g3, 0, none⟩), vals 12, vals 13, vals 14, vals 15] : List Value).getD i undef := by
      refine (all_succ (all_succ (all_succ (all_succ (all_succ (all_succ (all_succ (all_succ (all_succ (all_succ (all_succ (all_succ (all_succ (all_succ (all_succ (all_succ all_zero ?h0) ?h1) ?h2) ?h3) ?h4) ?h5) ?h6) ?h7) ?h8) ?h9) ?h10) ?h11) ?h12) ?h13) ?h14) ?h15)
      case h0 => exact (hJ.val 0 (by omega) (by decide)).trans (by rw [HVV.out]; rfl)
      case h1 => exact (hJ.val 1 (by omega) (by decide)).trans (by rw [HVV.out]; rfl)
      case h2 => exact (hJ.val 2 (by omega) (by decide)).trans (by rw [HVV.out]; rfl)
      case h3 => exact (hJ.val 3 (by omega) (by decide)).trans (by rw [HVV.out]; rfl)
      case h4 => exact (hJ.val 4 (by omega) (by decide)).trans (by rw [HVV.out]; rfl)
      case h5 => exact (hJ.val 5 (by omega) (by decide)).trans (by rw [HVV.out]; rfl)
      case h6 => exact (hJ.val 6 (by omega) (by decide)).trans (by rw [HVV.out]; rfl)
      case h7 => exact (hJ.val 7 (by omega) (by decide)).trans (by rw [HVV.out]; rfl)
      case h8 => exact v0
      case h9 => exact v1
      case h10 => exact v2
      case h11 => exact v3
      case h12 => rfl
      case h13 => rfl
      case h14 => rfl
      case h15 => rfl
    have ha := hs.frame rfl rfl (fun ix jx _ _ h => by show (if jx < 8 then 15 + jx else if jx < 12 then jx - 5 else 91 + jx) ≠ (if ix < 8 then 15 + ix else if ix < 12 then ix - 5 else 91 + ix); split <;> split <;> (try split) <;> (try split) <;> omega)
    rw [putAll_congr 16 _ hval] at ha
    clear hs hJ k0 k1 k2 k3 hval v0 v1 v2 v3 HCC HVV HKC
    subst ha
    simp only [putAll, List.setIfInBounds_toArray, List.set_cons_zero, List.set_cons_succ, List.set_nil, List.getD_cons_zero, List.getD_cons_succ, Nat.reduceAdd, Nat.reduceLT, Nat.reduceSub, if_true, if_false]
    have HB := HB2
    clear HB2 HB0
    have HLA : Hid (labB (a % 8) b = true) := by show _ = _; unfold labB; rw [decide_eq_true_iff]; omega
    have HLB : Hid (labB (a' % 8) b' = true) := by show _ = _; unfold labB; rw [decide_eq_true_iff]; omega
    cases hm1 : mayB D L V S <;> cases hm2 : mayB D' L' V' S'
    all_goals
      have HM1 := Lib.hid hm1
      have HM2 := Lib.hid hm2
      clear hm1 hm2
    · obtain ⟨c0, c1, c2, c3, -⟩ := four_cells G0.out
      go_wp2_with fail
      refine (Super_no D L V S _ HM1.out).mono ?_
      rintro e w3 ⟨rfl, hbw3⟩
      clear c0 c1 c2 c3
      have G0 := Lib.hid (G0.out.below hbw3 G0.out.lt)
      have G1 := Lib.hid (G1.out.below hbw3 G1.out.lt)
      have G2 := Lib.hid (G2.out.below hbw3 G2.out.lt)
      have G3 := Lib.hid (G3.out.below hbw3 G3.out.lt)
      have HB := Lib.hid (HB.out.trans (hbw3.mono HB.out.size))
      clear hbw3
      obtain ⟨c0, c1, c2, c3, -⟩ := four_cells G1.out
      go_wp2_with fail
      refine (Super_no D' L' V' S' _ HM2.out).mono ?_
      rintro e w4 ⟨rfl, hbw4⟩
      clear c0 c1 c2 c3
      have G0 := Lib.hid (G0.out.below hbw4 G0.out.lt)
      have G1 := Lib.hid (G1.out.below hbw4 G1.out.lt)
      have G2 := Lib.hid (G2.out.below hbw4 G2.out.lt)
      have G3 := Lib.hid (G3.out.below hbw4 G3.out.lt)
      have HB := Lib.hid (HB.out.trans (hbw4.mono HB.out.size))
      clear hbw4
      obtain ⟨c0, c1, c2, c3, -⟩ := four_cells G0.out
      obtain ⟨d0, d1, d2, d3, -⟩ := four_cells G1.out
      go_wp2_with fail
      go_quiet (fail)
      clear c0 c1 c2 c3 d0 d1 d2 d3
      have G0 := Lib.hid (G0.out.drewN nq)
      have G1 := Lib.hid (G1.out.drewN nq)
      have G2 := Lib.hid (G2.out.drewN nq)
      have G3 := Lib.hid (G3.out.drewN nq)
      have HB := Lib.hid (HB.out.drewN' nq)
      obtain ⟨q0, q1, -⟩ := two_cells G2.out
      obtain ⟨r0, r1, -⟩ := two_cells G3.out
      go_wp2_with fail
      refine (Label_yes (a % 8) b _ HLA.out (HT.out.up HB.out)).mono ?_
      rintro e w5 ⟨x5, rfl, hg5, hk5, hb5⟩
      clear q0 q1 r0 r1
      have X5 := Lib.hid hk5
      clear hg5 hk5
      have G0 := Lib.hid (G0.out.below hb5 G0.out.lt)
      have G1 := Lib.hid (G1.out.below hb5 G1.out.lt)
      have G2 := Lib.hid (G2.out.below hb5 G2.out.lt)
      have G3 := Lib.hid (G3.out.below hb5 G3.out.lt)
      have HB := Lib.hid (HB.out.trans (hb5.mono HB.out.size))
      clear hb5
      obtain ⟨q0, q1, -⟩ := two_cells G2.out
      obtain ⟨r0, r1, -⟩ := two_cells G3.out
      go_wp2_with fail
      refine (Label_yes (a' % 8) b' _ HLB.out (HT.out.up HB.out)).mono ?_
      rintro e w6 ⟨x6, rfl, hg6, hk6, hb6⟩
      clear q0 q1 r0 r1
      have X5 := Lib.hid (X5.out.below hb6 X5.out.lt)
      have X6 := Lib.hid hk6
      clear hg6 hk6
      have G0 := Lib.hid (G0.out.below hb6 G0.out.lt)
      have G1 := Lib.hid (G1.out.below hb6 G1.out.lt)
      have G2 := Lib.hid (G2.out.below hb6 G2.out.lt)
      have G3 := Lib.hid (G3.out.below hb6 G3.out.lt)
      have HB := Lib.hid (HB.out.trans (hb6.mono HB.out.size))
      clear hb6
      obtain ⟨q0, q1, -⟩ := two_cells G2.out
      obtain ⟨r0, r1, -⟩ := two_cells G3.out
      have hcx := run_conv (P := Tryd.prog) 24 5 9 Tryd.underlying24 Tryd.underlying5 under_strA 128 128 (bs := labelB (a % 8) b) (labelB_length _ _) (by simpa using Rd.bk X5.out)
      have hcy := run_conv (P := Tryd.prog) 24 5 9 Tryd.underlying24 Tryd.underlying5 under_strA 128 128 (bs := labelB (a' % 8) b') (labelB_length _ _) (by simpa using Rd.bk X6.out)
      obtain ⟨Z1, hZ1⟩ : ∃ Z, Z = str (labelB (a % 8) b) := ⟨_, rfl⟩
      obtain ⟨Z2, hZ2⟩ : ∃ Z, Z = str (labelB (a' % 8) b') := ⟨_, rfl⟩
      rw [← hZ1] at hcx
      rw [← hZ2] at hcy
      obtain ⟨T, hTT⟩ : ∃ T, (Z1.toList == Z2.toList) = T := ⟨_, rfl⟩
      have HTT : Hid (T = true ↔ a % 8 = a' % 8 ∧ b = b') := by
        show _ ↔ _
        rw [← hTT, hZ1, hZ2, str_toList, str_toList, beq_iff_eq]
        exact labelB_inj HLA.out HLB.out
      clear hZ1 hZ2
      by_cases hA : a % 8 = a' % 8
      · have hA' : (a % 8 == a' % 8) = true := by simpa using hA
        have HAH := Lib.hid hA
        clear hA
        by_cases hBB : b = b'
        · have hB' : (b == b') = true := by simpa using hBB
          obtain rfl : T = true := HTT.out.2 ⟨HAH.out, hBB⟩
          clear hBB
          go_wp2_with fail
          refine (awake_any _ (HT.out.up HB.out)).mono ?_
          rintro e w7 ⟨rfl, hb7⟩
          have HB := Lib.hid (HB.out.trans (hb7.mono HB.out.size))
          clear hb7
          go_wp2
          go_ret
          exact ⟨rfl, HB.out⟩
        · have hB' : (b == b') = false := by simpa using hBB
          obtain rfl : T = false := by rw [Bool.eq_false_iff]; intro h; exact hBB (HTT.out.1 h).2
          clear hBB
          go_wp2_with fail
          refine (awake_any _ (HT.out.up HB.out)).mono ?_
          rintro e w7 ⟨rfl, hb7⟩
          have HB := Lib.hid (HB.out.trans (hb7.mono HB.out.size))
          clear hb7
          go_wp2
          go_ret
          exact ⟨rfl, HB.out⟩
      · have hA' : (a % 8 == a' % 8) = false := by simpa using hA
        obtain rfl : T = false := by rw [Bool.eq_false_iff]; intro h; exact hA (HTT.out.1 h).1
        clear hA
        go_wp2_with fail
        refine (awake_any _ (HT.out.up HB.out)).mono ?_
        rintro e w7 ⟨rfl, hb7⟩
        have HB := Lib.hid (HB.out.trans (hb7.mono HB.out.size))
        clear hb7
        go_wp2
        go_ret
        exact ⟨rfl, HB.out⟩
    · obtain ⟨c0, c1, c2, c3, -⟩ := four_cells G0.out
      go_wp2_with fail
      refine (Super_no D L V S _ HM1.out).mono ?_
      rintro e w3 ⟨rfl, hbw3⟩
      clear c0 c1 c2 c3
      have G0 := Lib.hid (G0.out.below hbw3 G0.out.lt)
      have G1 := Lib.hid (G1.out.below hbw3 G1.out.lt)
      have G2 := Lib.hid (G2.out.below hbw3 G2.out.lt)
      have G3 := Lib.hid (G3.out.below hbw3 G3.out.lt)
      have HB := Lib.hid (HB.out.trans (hbw3.mono HB.out.size))
      clear hbw3
      obtain ⟨c0, c1, c2, c3, -⟩ := four_cells G1.out
      go_wp2_with fail
      refine (Super_yes D' L' V' S' _ HM2.out (HT.out.up HB.out)).mono ?_
      rintro e w4 ⟨z2, rfl, -, hkw4, hbw4⟩
      clear c0 c1 c2 c3
      have Z2 := Lib.hid hkw4
      clear hkw4
      have G0 := Lib.hid (G0.out.below hbw4 G0.out.lt)
      have G1 := Lib.hid (G1.out.below hbw4 G1.out.lt)
      have G2 := Lib.hid (G2.out.below hbw4 G2.out.lt)
      have G3 := Lib.hid (G3.out.below hbw4 G3.out.lt)
      have HB := Lib.hid (HB.out.trans (hbw4.mono HB.out.size))
      clear hbw4
      obtain ⟨c0, c1, c2, c3, -⟩ := four_cells G0.out
      obtain ⟨d0, d1, d2, d3, -⟩ := four_cells G1.out
      go_wp2_with fail
      go_quiet (fail)
      clear c0 c1 c2 c3 d0 d1 d2 d3
      have G0 := Lib.hid (G0.out.drewN nq)
      have G1 := Lib.hid (G1.out.drewN nq)
      have G2 := Lib.hid (G2.out.drewN nq)
      have G3 := Lib.hid (G3.out.drewN nq)
      have HB := Lib.hid (HB.out.drewN' nq)
      obtain ⟨q0, q1, -⟩ := two_cells G2.out
      obtain ⟨r0, r1, -⟩ := two_cells G3.out
      go_wp2_with fail
      refine (Label_yes (a % 8) b _ HLA.out (HT.out.up HB.out)).mono ?_
      rintro e w5 ⟨x5, rfl, hg5, hk5, hb5⟩
      clear q0 q1 r0 r1
      have X5 := Lib.hid hk5
      clear hg5 hk5
      have G0 := Lib.hid (G0.out.below hb5 G0.out.lt)
      have G1 := Lib.hid (G1.out.below hb5 G1.out.lt)
      have G2 := Lib.hid (G2.out.below hb5 G2.out.lt)
      have G3 := Lib.hid (G3.out.below hb5 G3.out.lt)
      have HB := Lib.hid (HB.out.trans (hb5.mono HB.out.size))
      clear hb5
      obtain ⟨q0, q1, -⟩ := two_cells G2.out
      obtain ⟨r0, r1, -⟩ := two_cells G3.out
      go_wp2_with fail
      refine (Label_yes (a' % 8) b' _ HLB.out (HT.out.up HB.out)).mono ?_
      rintro e w6 ⟨x6, rfl, hg6, hk6, hb6⟩
      clear q0 q1 r0 r1
      have X5 := Lib.hid (X5.out.below hb6 X5.out.lt)
      have X6 := Lib.hid hk6
      clear hg6 hk6
      have G0 := Lib.hid (G0.out.below hb6 G0.out.lt)
      have G1 := Lib.hid (G1.out.below hb6 G1.out.lt)
      have G2 := Lib.hid (G2.out.below hb6 G2.out.lt)
      have G3 := Lib.hid (G3.out.below hb6 G3.out.lt)
      have HB := Lib.hid (HB.out.trans (hb6.mono HB.out.size))
      clear hb6
      obtain ⟨q0, q1, -⟩ := two_cells G2.out
      obtain ⟨r0, r1, -⟩ := two_cells G3.out
      have hcx := run_conv (P := Tryd.prog) 24 5 9 Tryd.underlying24 Tryd.underlying5 under_strA 128 128 (bs := labelB (a % 8) b) (labelB_length _ _) (by simpa using Rd.bk X5.out)
      have hcy := run_conv (P := Tryd.prog) 24 5 9 Tryd.underlying24 Tryd.underlying5 under_strA 128 128 (bs := labelB (a' % 8) b') (labelB_length _ _) (by simpa using Rd.bk X6.out)
      obtain ⟨Z1, hZ1⟩ : ∃ Z, Z = str (labelB (a % 8) b) := ⟨_, rfl⟩
      obtain ⟨Z2, hZ2⟩ : ∃ Z, Z = str (labelB (a' % 8) b') := ⟨_, rfl⟩
      rw [← hZ1] at hcx
      rw [← hZ2] at hcy
      obtain ⟨T, hTT⟩ : ∃ T, (Z1.toList == Z2.toList) = T := ⟨_, rfl⟩
      have HTT : Hid (T = true ↔ a % 8 = a' % 8 ∧ b = b') := by
        show _ ↔ _
        rw [← hTT, hZ1, hZ2, str_toList, str_toList, beq_iff_eq]
        exact labelB_inj HLA.out HLB.out
      clear hZ1 hZ2
      by_cases hA : a % 8 = a' % 8
      · have hA' : (a % 8 == a' % 8) = true := by simpa using hA
        have HAH := Lib.hid hA
        clear hA
        by_cases hBB : b = b'
        · have hB' : (b == b') = true := by simpa using hBB
          obtain rfl : T = true := HTT.out.2 ⟨HAH.out, hBB⟩
          clear hBB
          go_wp2_with fail
          refine (awake_any _ (HT.out.up HB.out)).mono ?_
          rintro e w7 ⟨rfl, hb7⟩
          have HB := Lib.hid (HB.out.trans (hb7.mono HB.out.size))
          clear hb7
          go_wp2
          go_ret
          exact ⟨rfl, HB.out⟩
        · have hB' : (b == b') = false := by simpa using hBB
          obtain rfl : T = false := by rw [Bool.eq_false_iff]; intro h; exact hBB (HTT.out.1 h).2
          clear hBB
          go_wp2_with fail
          refine (awake_any _ (HT.out.up HB.out)).mono ?_
          rintro e w7 ⟨rfl, hb7⟩
          have HB := Lib.hid (HB.out.trans (hb7.mono HB.out.size))
          clear hb7
          go_wp2
          go_ret
          exact ⟨rfl, HB.out⟩
      · have hA' : (a % 8 == a' % 8) = false := by simpa using hA
        obtain rfl : T = false := by rw [Bool.eq_false_iff]; intro h; exact hA (HTT.out.1 h).1
        clear hA
        go_wp2_with fail
        refine (awake_any _ (HT.out.up HB.out)).mono ?_
        rintro e w7 ⟨rfl, hb7⟩
        have HB := Lib.hid (HB.out.trans (hb7.mono HB.out.size))
        clear hb7
        go_wp2
        go_ret
        exact ⟨rfl, HB.out⟩
    · obtain ⟨c0, c1, c2, c3, -⟩ := four_cells G0.out
      go_wp2_with fail
      refine (Super_yes D L V S _ HM1.out (HT.out.up HB.out)).mono ?_
      rintro e w3 ⟨z1, rfl, -, hkw3, hbw3⟩
      clear c0 c1 c2 c3
      have Z1 := Lib.hid hkw3
      clear hkw3
      have G0 := Lib.hid (G0.out.below hbw3 G0.out.lt)
      have G1 := Lib.hid (G1.out.below hbw3 G1.out.lt)
      have G2 := Lib.hid (G2.out.below hbw3 G2.out.lt)
      have G3 := Lib.hid (G3.out.below hbw3 G3.out.lt)
      have HB := Lib.hid (HB.out.trans (hbw3.mono HB.out.size))
      clear hbw3
      obtain ⟨c0, c1, c2, c3, -⟩ := four_cells G1.out
      go_wp2_with fail
      refine (Super_no D' L' V' S' _ HM2.out).mono ?_
      rintro e w4 ⟨rfl, hbw4⟩
      clear c0 c1 c2 c3
      have Z1 := Lib.hid (Z1.out.below hbw4 Z1.out.lt)
      have G0 := Lib.hid (G0.out.below hbw4 G0.out.lt)
      have G1 := Lib.hid (G1.out.below hbw4 G1.out.lt)
      have G2 := Lib.hid (G2.out.below hbw4 G2.out.lt)
      have G3 := Lib.hid (G3.out.below hbw4 G3.out.lt)
      have HB := Lib.hid (HB.out.trans (hbw4.mono HB.out.size))
      clear hbw4
      obtain ⟨c0, c1, c2, c3, -⟩ := four_cells G0.out
      obtain ⟨d0, d1, d2, d3, -⟩ := four_cells G1.out
      go_wp2_with fail
      go_quiet (fail)
      clear c0 c1 c2 c3 d0 d1 d2 d3
      have G0 := Lib.hid (G0.out.drewN nq)
      have G1 := Lib.hid (G1.out.drewN nq)
      have G2 := Lib.hid (G2.out.drewN nq)
      have G3 := Lib.hid (G3.out.drewN nq)
      have HB := Lib.hid (HB.out.drewN' nq)
      obtain ⟨q0, q1, -⟩ := two_cells G2.out
      obtain ⟨r0, r1, -⟩ := two_cells G3.out
      go_wp2_with fail
      refine (Label_yes (a % 8) b _ HLA.out (HT.out.up HB.out)).mono ?_
      rintro e w5 ⟨x5, rfl, hg5, hk5, hb5⟩
      clear q0 q1 r0 r1
      have X5 := Lib.hid hk5
      clear hg5 hk5
      have G0 := Lib.hid (G0.out.below hb5 G0.out.lt)
      have G1 := Lib.hid (G1.out.below hb5 G1.out.lt)
      have G2 := Lib.hid (G2.out.below hb5 G2.out.lt)
      have G3 := Lib.hid (G3.out.below hb5 G3.out.lt)
      have HB := Lib.hid (HB.out.trans (hb5.mono HB.out.size))
      clear hb5
      obtain ⟨q0, q1, -⟩ := two_cells G2.out
      obtain ⟨r0, r1, -⟩ := two_cells G3.out
      go_wp2_with fail
      refine (Label_yes (a' % 8) b' _ HLB.out (HT.out.up HB.out)).mono ?_
      rintro e w6 ⟨x6, rfl, hg6, hk6, hb6⟩
      clear q0 q1 r0 r1
      have X5 := Lib.hid (X5.out.below hb6 X5.out.lt)
      have X6 := Lib.hid hk6
      clear hg6 hk6
      have G0 := Lib.hid (G0.out.below hb6 G0.out.lt)
      have G1 := Lib.hid (G1.out.below hb6 G1.out.lt)
      have G2 := Lib.hid (G2.out.below hb6 G2.out.lt)
      have G3 := Lib.hid (G3.out.below hb6 G3.out.lt)
      have HB := Lib.hid (HB.out.trans (hb6.mono HB.out.size))
      clear hb6
      obtain ⟨q0, q1, -⟩ := two_cells G2.out
      obtain ⟨r0, r1, -⟩ := two_cells G3.out
      have hcx := run_conv (P := Tryd.prog) 24 5 9 Tryd.underlying24 Tryd.underlying5 under_strA 128 128 (bs := labelB (a % 8) b) (labelB_length _ _) (by simpa using Rd.bk X5.out)
      have hcy := run_conv (P := Tryd.prog) 24 5 9 Tryd.underlying24 Tryd.underlying5 under_strA 128 128 (bs := labelB (a' % 8) b') (labelB_length _ _) (by simpa using Rd.bk X6.out)
      obtain ⟨Z1, hZ1⟩ : ∃ Z, Z = str (labelB (a % 8) b) := ⟨_, rfl⟩
      obtain ⟨Z2, hZ2⟩ : ∃ Z, Z = str (labelB (a' % 8) b') := ⟨_, rfl⟩
      rw [← hZ1] at hcx
      rw [← hZ2] at hcy
      obtain ⟨T, hTT⟩ : ∃ T, (Z1.toList == Z2.toList) = T := ⟨_, rfl⟩
      have HTT : Hid (T = true ↔ a % 8 = a' % 8 ∧ b = b') := by
        show _ ↔ _
        rw [← hTT, hZ1, hZ2, str_toList, str_toList, beq_iff_eq]
        exact labelB_inj HLA.out HLB.out
      clear hZ1 hZ2
      by_cases hA : a % 8 = a' % 8
      · have hA' : (a % 8 == a' % 8) = true := by simpa using hA
        have HAH := Lib.hid hA
        clear hA
        by_cases hBB : b = b'
        · have hB' : (b == b') = true := by simpa using hBB
          obtain rfl : T = true := HTT.out.2 ⟨HAH.out, hBB⟩
          clear hBB
          go_wp2_with fail
          refine (awake_any _ (HT.out.up HB.out)).mono ?_
          rintro e w7 ⟨rfl, hb7⟩
          have HB := Lib.hid (HB.out.trans (hb7.mono HB.out.size))
          clear hb7
          go_wp2
          go_ret
          exact ⟨rfl, HB.out⟩
        · have hB' : (b == b') = false := by simpa using hBB
          obtain rfl : T = false := by rw [Bool.eq_false_iff]; intro h; exact hBB (HTT.out.1 h).2
          clear hBB
          go_wp2_with fail
          refine (awake_any _ (HT.out.up HB.out)).mono ?_
          rintro e w7 ⟨rfl, hb7⟩
          have HB := Lib.hid (HB.out.trans (hb7.mono HB.out.size))
          clear hb7
          go_wp2
          go_ret
          exact ⟨rfl, HB.out⟩
      · have hA' : (a % 8 == a' % 8) = false := by simpa using hA
        obtain rfl : T = false := by rw [Bool.eq_false_iff]; intro h; exact hA (HTT.out.1 h).1
        clear hA
        go_wp2_with fail
        refine (awake_any _ (HT.out.up HB.out)).mono ?_
        rintro e w7 ⟨rfl, hb7⟩
        have HB := Lib.hid (HB.out.trans (hb7.mono HB.out.size))
        clear hb7
        go_wp2
        go_ret
        exact ⟨rfl, HB.out⟩
    · obtain ⟨c0, c1, c2, c3, -⟩ := four_cells G0.out
      go_wp2_with fail
      refine (Super_yes D L V S _ HM1.out (HT.out.up HB.out)).mono ?_
      rintro e w3 ⟨z1, rfl, -, hkw3, hbw3⟩
      clear c0 c1 c2 c3
      have Z1 := Lib.hid hkw3
      clear hkw3
      have G0 := Lib.hid (G0.out.below hbw3 G0.out.lt)
      have G1 := Lib.hid (G1.out.below hbw3 G1.out.lt)
      have G2 := Lib.hid (G2.out.below hbw3 G2.out.lt)
      have G3 := Lib.hid (G3.out.below hbw3 G3.out.lt)
      have HB := Lib.hid (HB.out.trans (hbw3.mono HB.out.size))
      clear hbw3
      obtain ⟨c0, c1, c2, c3, -⟩ := four_cells G1.out
      go_wp2_with fail
      refine (Super_yes D' L' V' S' _ HM2.out (HT.out.up HB.out)).mono ?_
      rintro e w4 ⟨z2, rfl, -, hkw4, hbw4⟩
      clear c0 c1 c2 c3
      have Z1 := Lib.hid (Z1.out.below hbw4 Z1.out.lt)
      have Z2 := Lib.hid hkw4
      clear hkw4
      have G0 := Lib.hid (G0.out.below hbw4 G0.out.lt)
      have G1 := Lib.hid (G1.out.below hbw4 G1.out.lt)
      have G2 := Lib.hid (G2.out.below hbw4 G2.out.lt)
      have G3 := Lib.hid (G3.out.below hbw4 G3.out.lt)
      have HB := Lib.hid (HB.out.trans (hbw4.mono HB.out.size))
      clear hbw4
      have HK : Hid (∀ w', Below w4.heap.size w4 w' → (convert 24 9 (.slice (some ⟨z1, 0, none⟩) 128 128)).run Tryd.prog w' = .ok (.string (str (superB D L V S))) w' ∧ (convert 24 9 (.slice (some ⟨z2, 0, none⟩) 128 128)).run Tryd.prog w' = .ok (.string (str (superB D' L' V' S'))) w' ∧ w'.cell? ⟨g0, 0, none⟩ = some (.int .i64 D) ∧ w'.cell? ⟨g0, 1, none⟩ = some (.int .i64 L) ∧ w'.cell? ⟨g0, 2, none⟩ = some (.int .i64 V) ∧ w'.cell? ⟨g0, 3, none⟩ = some (.int .i64 S) ∧ w'.cell? ⟨g1, 0, none⟩ = some (.int .i64 D') ∧ w'.cell? ⟨g1, 1, none⟩ = some (.int .i64 L') ∧ w'.cell? ⟨g1, 2, none⟩ = some (.int .i64 V') ∧ w'.cell? ⟨g1, 3, none⟩ = some (.int .i64 S')) := fun w' hb => by
        obtain ⟨c0, c1, c2, c3, -⟩ := four_cells (G0.out.below hb G0.out.lt)
        obtain ⟨d0, d1, d2, d3, -⟩ := four_cells (G1.out.below hb G1.out.lt)
        exact ⟨run_conv 24 5 9 Tryd.underlying24 Tryd.underlying5 under_strA 128 128 (superB_length _ _ _ _) (by simpa using Rd.bk (Z1.out.below hb Z1.out.lt)), run_conv 24 5 9 Tryd.underlying24 Tryd.underlying5 under_strA 128 128 (superB_length _ _ _ _) (by simpa using Rd.bk (Z2.out.below hb Z2.out.lt)), c0, c1, c2, c3, d0, d1, d2, d3⟩
      obtain ⟨Y1, hY1⟩ : ∃ Z, Z = str (superB D L V S) := ⟨_, rfl⟩
      obtain ⟨Y2, hY2⟩ : ∃ Z, Z = str (superB D' L' V' S') := ⟨_, rfl⟩
      rw [← hY1, ← hY2] at HK
      obtain ⟨U, hU⟩ : ∃ U, (Y1.toList == Y2.toList) = U := ⟨_, rfl⟩
      have HU : Hid (U = true ↔ D = D' ∧ L = L' ∧ V = V' ∧ S = S') := by
        show _ ↔ _
        rw [← hU, hY1, hY2, str_toList, str_toList, beq_iff_eq]
        exact superB_inj HM1.out HM2.out
      clear hY1 hY2 Z1 Z2
      have hb0 : Below w4.heap.size w4 w4.drew := (Below.refl _ _).drew
      have hc : D ≠ D' ∨ (D = D' ∧ L ≠ L') ∨ (D = D' ∧ L = L' ∧ V ≠ V') ∨ (D = D' ∧ L = L' ∧ V = V' ∧ S ≠ S') ∨ (D = D' ∧ L = L' ∧ V = V' ∧ S = S') := by omega
      rcases hc with h | ⟨rfl, h⟩ | ⟨rfl, rfl, h⟩ | ⟨rfl, rfl, rfl, h⟩ | ⟨rfl, rfl, rfl, rfl⟩
      · have hq : (D == D') = false := by simpa using h
        obtain rfl : U = false := by rw [Bool.eq_false_iff]; intro hh; have := HU.out.1 hh; omega
        clear h
        go_wp2_with fail
        go_region_held3 (fun w' => (convert 24 9 (.slice (some ⟨z1, 0, none⟩) 128 128)).run Tryd.prog w' = .ok (.string Y1) w' ∧ (convert 24 9 (.slice (some ⟨z2, 0, none⟩) 128 128)).run Tryd.prog w' = .ok (.string Y2) w' ∧ w'.cell? ⟨g0, 0, none⟩ = some (.int .i64 D) ∧ w'.cell? ⟨g0, 1, none⟩ = some (.int .i64 L) ∧ w'.cell? ⟨g0, 2, none⟩ = some (.int .i64 V) ∧ w'.cell? ⟨g0, 3, none⟩ = some (.int .i64 S) ∧ w'.cell? ⟨g1, 0, none⟩ = some (.int .i64 D') ∧ w'.cell? ⟨g1, 1, none⟩ = some (.int .i64 L') ∧ w'.cell? ⟨g1, 2, none⟩ = some (.int .i64 V') ∧ w'.cell? ⟨g1, 3, none⟩ = some (.int .i64 S')) (exact HK.out _ (by assumption)) (fail)
        have G0 := Lib.hid (G0.out.drew)
        have G1 := Lib.hid (G1.out.drew)
        have G2 := Lib.hid (G2.out.drew)
        have G3 := Lib.hid (G3.out.drew)
        have HB := Lib.hid (HB.out.drew)
        clear HK HU hb0
        obtain ⟨q0, q1, -⟩ := two_cells G2.out
        obtain ⟨r0, r1, -⟩ := two_cells G3.out
        go_wp2_with fail
        refine (Label_yes (a % 8) b _ HLA.out (HT.out.up HB.out)).mono ?_
        rintro e w5 ⟨x5, rfl, hg5, hk5, hb5⟩
        clear q0 q1 r0 r1
        have X5 := Lib.hid hk5
        clear hg5 hk5
        have G0 := Lib.hid (G0.out.below hb5 G0.out.lt)
        have G1 := Lib.hid (G1.out.below hb5 G1.out.lt)
        have G2 := Lib.hid (G2.out.below hb5 G2.out.lt)
        have G3 := Lib.hid (G3.out.below hb5 G3.out.lt)
        have HB := Lib.hid (HB.out.trans (hb5.mono HB.out.size))
        clear hb5
        obtain ⟨q0, q1, -⟩ := two_cells G2.out
        obtain ⟨r0, r1, -⟩ := two_cells G3.out
        go_wp2_with fail
        refine (Label_yes (a' % 8) b' _ HLB.out (HT.out.up HB.out)).mono ?_
        rintro e w6 ⟨x6, rfl, hg6, hk6, hb6⟩
        clear q0 q1 r0 r1
        have X5 := Lib.hid (X5.out.below hb6 X5.out.lt)
        have X6 := Lib.hid hk6
        clear hg6 hk6
        have G0 := Lib.hid (G0.out.below hb6 G0.out.lt)
        have G1 := Lib.hid (G1.out.below hb6 G1.out.lt)
        have G2 := Lib.hid (G2.out.below hb6 G2.out.lt)
        have G3 := Lib.hid (G3.out.below hb6 G3.out.lt)
        have HB := Lib.hid (HB.out.trans (hb6.mono HB.out.size))
        clear hb6
        obtain ⟨q0, q1, -⟩ := two_cells G2.out
        obtain ⟨r0, r1, -⟩ := two_cells G3.out
        have hcx := run_conv (P := Tryd.prog) 24 5 9 Tryd.underlying24 Tryd.underlying5 under_strA 128 128 (bs := labelB (a % 8) b) (labelB_length _ _) (by simpa using Rd.bk X5.out)
        have hcy := run_conv (P := Tryd.prog) 24 5 9 Tryd.underlying24 Tryd.underlying5 under_strA 128 128 (bs := labelB (a' % 8) b') (labelB_length _ _) (by simpa using Rd.bk X6.out)
        obtain ⟨Z1, hZ1⟩ : ∃ Z, Z = str (labelB (a % 8) b) := ⟨_, rfl⟩
        obtain ⟨Z2, hZ2⟩ : ∃ Z, Z = str (labelB (a' % 8) b') := ⟨_, rfl⟩
        rw [← hZ1] at hcx
        rw [← hZ2] at hcy
        obtain ⟨T, hTT⟩ : ∃ T, (Z1.toList == Z2.toList) = T := ⟨_, rfl⟩
        have HTT : Hid (T = true ↔ a % 8 = a' % 8 ∧ b = b') := by
          show _ ↔ _
          rw [← hTT, hZ1, hZ2, str_toList, str_toList, beq_iff_eq]
          exact labelB_inj HLA.out HLB.out
        clear hZ1 hZ2
        by_cases hA : a % 8 = a' % 8
        · have hA' : (a % 8 == a' % 8) = true := by simpa using hA
          have HAH := Lib.hid hA
          clear hA
          by_cases hBB : b = b'
          · have hB' : (b == b') = true := by simpa using hBB
            obtain rfl : T = true := HTT.out.2 ⟨HAH.out, hBB⟩
            clear hBB
            go_wp2_with fail
            refine (awake_any _ (HT.out.up HB.out)).mono ?_
            rintro e w7 ⟨rfl, hb7⟩
            have HB := Lib.hid (HB.out.trans (hb7.mono HB.out.size))
            clear hb7
            go_wp2
            go_ret
            exact ⟨rfl, HB.out⟩
          · have hB' : (b == b') = false := by simpa using hBB
            obtain rfl : T = false := by rw [Bool.eq_false_iff]; intro h; exact hBB (HTT.out.1 h).2
            clear hBB
            go_wp2_with fail
            refine (awake_any _ (HT.out.up HB.out)).mono ?_
            rintro e w7 ⟨rfl, hb7⟩
            have HB := Lib.hid (HB.out.trans (hb7.mono HB.out.size))
            clear hb7
            go_wp2
            go_ret
            exact ⟨rfl, HB.out⟩
        · have hA' : (a % 8 == a' % 8) = false := by simpa using hA
          obtain rfl : T = false := by rw [Bool.eq_false_iff]; intro h; exact hA (HTT.out.1 h).1
          clear hA
          go_wp2_with fail
          refine (awake_any _ (HT.out.up HB.out)).mono ?_
          rintro e w7 ⟨rfl, hb7⟩
          have HB := Lib.hid (HB.out.trans (hb7.mono HB.out.size))
          clear hb7
          go_wp2
          go_ret
          exact ⟨rfl, HB.out⟩
      · have hq : (L == L') = false := by simpa using h
        obtain rfl : U = false := by rw [Bool.eq_false_iff]; intro hh; have := HU.out.1 hh; omega
        clear h
        go_wp2_with fail
        go_region_held3 (fun w' => (convert 24 9 (.slice (some ⟨z1, 0, none⟩) 128 128)).run Tryd.prog w' = .ok (.string Y1) w' ∧ (convert 24 9 (.slice (some ⟨z2, 0, none⟩) 128 128)).run Tryd.prog w' = .ok (.string Y2) w' ∧ w'.cell? ⟨g0, 0, none⟩ = some (.int .i64 D) ∧ w'.cell? ⟨g0, 1, none⟩ = some (.int .i64 L) ∧ w'.cell? ⟨g0, 2, none⟩ = some (.int .i64 V) ∧ w'.cell? ⟨g0, 3, none⟩ = some (.int .i64 S) ∧ w'.cell? ⟨g1, 0, none⟩ = some (.int .i64 D) ∧ w'.cell? ⟨g1, 1, none⟩ = some (.int .i64 L') ∧ w'.cell? ⟨g1, 2, none⟩ = some (.int .i64 V') ∧ w'.cell? ⟨g1, 3, none⟩ = some (.int .i64 S')) (exact HK.out _ (by assumption)) (fail)
        have G0 := Lib.hid (G0.out.drew)
        have G1 := Lib.hid (G1.out.drew)
        have G2 := Lib.hid (G2.out.drew)
        have G3 := Lib.hid (G3.out.drew)
        have HB := Lib.hid (HB.out.drew)
        clear HK HU hb0
        obtain ⟨q0, q1, -⟩ := two_cells G2.out
        obtain ⟨r0, r1, -⟩ := two_cells G3.out
        go_wp2_with fail
        refine (Label_yes (a % 8) b _ HLA.out (HT.out.up HB.out)).mono ?_
        rintro e w5 ⟨x5, rfl, hg5, hk5, hb5⟩
        clear q0 q1 r0 r1
        have X5 := Lib.hid hk5
        clear hg5 hk5
        have G0 := Lib.hid (G0.out.below hb5 G0.out.lt)
        have G1 := Lib.hid (G1.out.below hb5 G1.out.lt)
        have G2 := Lib.hid (G2.out.below hb5 G2.out.lt)
        have G3 := Lib.hid (G3.out.below hb5 G3.out.lt)
        have HB := Lib.hid (HB.out.trans (hb5.mono HB.out.size))
        clear hb5
        obtain ⟨q0, q1, -⟩ := two_cells G2.out
        obtain ⟨r0, r1, -⟩ := two_cells G3.out
        go_wp2_with fail
        refine (Label_yes (a' % 8) b' _ HLB.out (HT.out.up HB.out)).mono ?_
        rintro e w6 ⟨x6, rfl, hg6, hk6, hb6⟩
        clear q0 q1 r0 r1
        have X5 := Lib.hid (X5.out.below hb6 X5.out.lt)
        have X6 := Lib.hid hk6
        clear hg6 hk6
        have G0 := Lib.hid (G0.out.below hb6 G0.out.lt)
        have G1 := Lib.hid (G1.out.below hb6 G1.out.lt)
        have G2 := Lib.hid (G2.out.below hb6 G2.out.lt)
        have G3 := Lib.hid (G3.out.below hb6 G3.out.lt)
        have HB := Lib.hid (HB.out.trans (hb6.mono HB.out.size))
        clear hb6
        obtain ⟨q0, q1, -⟩ := two_cells G2.out
        obtain ⟨r0, r1, -⟩ := two_cells G3.out
        have hcx := run_conv (P := Tryd.prog) 24 5 9 Tryd.underlying24 Tryd.underlying5 under_strA 128 128 (bs := labelB (a % 8) b) (labelB_length _ _) (by simpa using Rd.bk X5.out)
        have hcy := run_conv (P := Tryd.prog) 24 5 9 Tryd.underlying24 Tryd.underlying5 under_strA 128 128 (bs := labelB (a' % 8) b') (labelB_length _ _) (by simpa using Rd.bk X6.out)
        obtain ⟨Z1, hZ1⟩ : ∃ Z, Z = str (labelB (a % 8) b) := ⟨_, rfl⟩
        obtain ⟨Z2, hZ2⟩ : ∃ Z, Z = str (labelB (a' % 8) b') := ⟨_, rfl⟩
        rw [← hZ1] at hcx
        rw [← hZ2] at hcy
        obtain ⟨T, hTT⟩ : ∃ T, (Z1.toList == Z2.toList) = T := ⟨_, rfl⟩
        have HTT : Hid (T = true ↔ a % 8 = a' % 8 ∧ b = b') := by
          show _ ↔ _
          rw [← hTT, hZ1, hZ2, str_toList, str_toList, beq_iff_eq]
          exact labelB_inj HLA.out HLB.out
        clear hZ1 hZ2
        by_cases hA : a % 8 = a' % 8
        · have hA' : (a % 8 == a' % 8) = true := by simpa using hA
          have HAH := Lib.hid hA
          clear hA
          by_cases hBB : b = b'
          · have hB' : (b == b') = true := by simpa using hBB
            obtain rfl : T = true := HTT.out.2 ⟨HAH.out, hBB⟩
            clear hBB
            go_wp2_with fail
            refine (awake_any _ (HT.out.up HB.out)).mono ?_
            rintro e w7 ⟨rfl, hb7⟩
            have HB := Lib.hid (HB.out.trans (hb7.mono HB.out.size))
            clear hb7
            go_wp2
            go_ret
            exact ⟨rfl, HB.out⟩
          · have hB' : (b == b') = false := by simpa using hBB
            obtain rfl : T = false := by rw [Bool.eq_false_iff]; intro h; exact hBB (HTT.out.1 h).2
            clear hBB
            go_wp2_with fail
            refine (awake_any _ (HT.out.up HB.out)).mono ?_
            rintro e w7 ⟨rfl, hb7⟩
            have HB := Lib.hid (HB.out.trans (hb7.mono HB.out.size))
            clear hb7
            go_wp2
            go_ret
            exact ⟨rfl, HB.out⟩
        · have hA' : (a % 8 == a' % 8) = false := by simpa using hA
          obtain rfl : T = false := by rw [Bool.eq_false_iff]; intro h; exact hA (HTT.out.1 h).1
          clear hA
          go_wp2_with fail
          refine (awake_any _ (HT.out.up HB.out)).mono ?_
          rintro e w7 ⟨rfl, hb7⟩
          have HB := Lib.hid (HB.out.trans (hb7.mono HB.out.size))
          clear hb7
          go_wp2
          go_ret
          exact ⟨rfl, HB.out⟩
      · have hq : (V == V') = false := by simpa using h
        obtain rfl : U = false := by rw [Bool.eq_false_iff]; intro hh; have := HU.out.1 hh; omega
        clear h
        go_wp2_with fail
        go_region_held3 (fun w' => (convert 24 9 (.slice (some ⟨z1, 0, none⟩) 128 128)).run Tryd.prog w' = .ok (.string Y1) w' ∧ (convert 24 9 (.slice (some ⟨z2, 0, none⟩) 128 128)).run Tryd.prog w' = .ok (.string Y2) w' ∧ w'.cell? ⟨g0, 0, none⟩ = some (.int .i64 D) ∧ w'.cell? ⟨g0, 1, none⟩ = some (.int .i64 L) ∧ w'.cell? ⟨g0, 2, none⟩ = some (.int .i64 V) ∧ w'.cell? ⟨g0, 3, none⟩ = some (.int .i64 S) ∧ w'.cell? ⟨g1, 0, none⟩ = some (.int .i64 D) ∧ w'.cell? ⟨g1, 1, none⟩ = some (.int .i64 L) ∧ w'.cell? ⟨g1, 2, none⟩ = some (.int .i64 V') ∧ w'.cell? ⟨g1, 3, none⟩ = some (.int .i64 S')) (exact HK.out _ (by assumption)) (fail)
        have G0 := Lib.hid (G0.out.drew)
        have G1 := Lib.hid (G1.out.drew)
        have G2 := Lib.hid (G2.out.drew)
        have G3 := Lib.hid (G3.out.drew)
        have HB := Lib.hid (HB.out.drew)
        clear HK HU hb0
        obtain ⟨q0, q1, -⟩ := two_cells G2.out
        obtain ⟨r0, r1, -⟩ := two_cells G3.out
        go_wp2_with fail
        refine (Label_yes (a % 8) b _ HLA.out (HT.out.up HB.out)).mono ?_
        rintro e w5 ⟨x5, rfl, hg5, hk5, hb5⟩
        clear q0 q1 r0 r1
        have X5 := Lib.hid hk5
        clear hg5 hk5
        have G0 := Lib.hid (G0.out.below hb5 G0.out.lt)
        have G1 := Lib.hid (G1.out.below hb5 G1.out.lt)
        have G2 := Lib.hid (G2.out.below hb5 G2.out.lt)
        have G3 := Lib.hid (G3.out.below hb5 G3.out.lt)
        have HB := Lib.hid (HB.out.trans (hb5.mono HB.out.size))
        clear hb5
        obtain ⟨q0, q1, -⟩ := two_cells G2.out
        obtain ⟨r0, r1, -⟩ := two_cells G3.out
        go_wp2_with fail
        refine (Label_yes (a' % 8) b' _ HLB.out (HT.out.up HB.out)).mono ?_
        rintro e w6 ⟨x6, rfl, hg6, hk6, hb6⟩
        clear q0 q1 r0 r1
        have X5 := Lib.hid (X5.out.below hb6 X5.out.lt)
        have X6 := Lib.hid hk6
        clear hg6 hk6
        have G0 := Lib.hid (G0.out.below hb6 G0.out.lt)
        have G1 := Lib.hid (G1.out.below hb6 G1.out.lt)
        have G2 := Lib.hid (G2.out.below hb6 G2.out.lt)
        have G3 := Lib.hid (G3.out.below hb6 G3.out.lt)
        have HB := Lib.hid (HB.out.trans (hb6.mono HB.out.size))
        clear hb6
        obtain ⟨q0, q1, -⟩ := two_cells G2.out
        obtain ⟨r0, r1, -⟩ := two_cells G3.out
        have hcx := run_conv (P := Tryd.prog) 24 5 9 Tryd.underlying24 Tryd.underlying5 under_strA 128 128 (bs := labelB (a % 8) b) (labelB_length _ _) (by simpa using Rd.bk X5.out)
        have hcy := run_conv (P := Tryd.prog) 24 5 9 Tryd.underlying24 Tryd.underlying5 under_strA 128 128 (bs := labelB (a' % 8) b') (labelB_length _ _) (by simpa using Rd.bk X6.out)
        obtain ⟨Z1, hZ1⟩ : ∃ Z, Z = str (labelB (a % 8) b) := ⟨_, rfl⟩
        obtain ⟨Z2, hZ2⟩ : ∃ Z, Z = str (labelB (a' % 8) b') := ⟨_, rfl⟩
        rw [← hZ1] at hcx
        rw [← hZ2] at hcy
        obtain ⟨T, hTT⟩ : ∃ T, (Z1.toList == Z2.toList) = T := ⟨_, rfl⟩
        have HTT : Hid (T = true ↔ a % 8 = a' % 8 ∧ b = b') := by
          show _ ↔ _
          rw [← hTT, hZ1, hZ2, str_toList, str_toList, beq_iff_eq]
          exact labelB_inj HLA.out HLB.out
        clear hZ1 hZ2
        by_cases hA : a % 8 = a' % 8
        · have hA' : (a % 8 == a' % 8) = true := by simpa using hA
          have HAH := Lib.hid hA
          clear hA
          by_cases hBB : b = b'
          · have hB' : (b == b') = true := by simpa using hBB
            obtain rfl : T = true := HTT.out.2 ⟨HAH.out, hBB⟩
            clear hBB
            go_wp2_with fail
            refine (awake_any _ (HT.out.up HB.out)).mono ?_
            rintro e w7 ⟨rfl, hb7⟩
            have HB := Lib.hid (HB.out.trans (hb7.mono HB.out.size))
            clear hb7
            go_wp2
            go_ret
            exact ⟨rfl, HB.out⟩
          · have hB' : (b == b') = false := by simpa using hBB
            obtain rfl : T = false := by rw [Bool.eq_false_iff]; intro h; exact hBB (HTT.out.1 h).2
            clear hBB
            go_wp2_with fail
            refine (awake_any _ (HT.out.up HB.out)).mono ?_
            rintro e w7 ⟨rfl, hb7⟩
            have HB := Lib.hid (HB.out.trans (hb7.mono HB.out.size))
            clear hb7
            go_wp2
            go_ret
            exact ⟨rfl, HB.out⟩
        · have hA' : (a % 8 == a' % 8) = false := by simpa using hA
          obtain rfl : T = false := by rw [Bool.eq_false_iff]; intro h; exact hA (HTT.out.1 h).1
          clear hA
          go_wp2_with fail
          refine (awake_any _ (HT.out.up HB.out)).mono ?_
          rintro e w7 ⟨rfl, hb7⟩
          have HB := Lib.hid (HB.out.trans (hb7.mono HB.out.size))
          clear hb7
          go_wp2
          go_ret
          exact ⟨rfl, HB.out⟩
      · have hq : (S == S') = false := by simpa using h
        obtain rfl : U = false := by rw [Bool.eq_false_iff]; intro hh; have := HU.out.1 hh; omega
        clear h
        go_wp2_with fail
        go_region_held3 (fun w' => (convert 24 9 (.slice (some ⟨z1, 0, none⟩) 128 128)).run Tryd.prog w' = .ok (.string Y1) w' ∧ (convert 24 9 (.slice (some ⟨z2, 0, none⟩) 128 128)).run Tryd.prog w' = .ok (.string Y2) w' ∧ w'.cell? ⟨g0, 0, none⟩ = some (.int .i64 D) ∧ w'.cell? ⟨g0, 1, none⟩ = some (.int .i64 L) ∧ w'.cell? ⟨g0, 2, none⟩ = some (.int .i64 V) ∧ w'.cell? ⟨g0, 3, none⟩ = some (.int .i64 S) ∧ w'.cell? ⟨g1, 0, none⟩ = some (.int .i64 D) ∧ w'.cell? ⟨g1, 1, none⟩ = some (.int .i64 L) ∧ w'.cell? ⟨g1, 2, none⟩ = some (.int .i64 V) ∧ w'.cell? ⟨g1, 3, none⟩ = some (.int .i64 S')) (exact HK.out _ (by assumption)) (fail)
        have G0 := Lib.hid (G0.out.drew)
        have G1 := Lib.hid (G1.out.drew)
        have G2 := Lib.hid (G2.out.drew)
        have G3 := Lib.hid (G3.out.drew)
        have HB := Lib.hid (HB.out.drew)
        clear HK HU hb0
        obtain ⟨q0, q1, -⟩ := two_cells G2.out
        obtain ⟨r0, r1, -⟩ := two_cells G3.out
        go_wp2_with fail
        refine (Label_yes (a % 8) b _ HLA.out (HT.out.up HB.out)).mono ?_
        rintro e w5 ⟨x5, rfl, hg5, hk5, hb5⟩
        clear q0 q1 r0 r1
        have X5 := Lib.hid hk5
        clear hg5 hk5
        have G0 := Lib.hid (G0.out.below hb5 G0.out.lt)
        have G1 := Lib.hid (G1.out.below hb5 G1.out.lt)
        have G2 := Lib.hid (G2.out.below hb5 G2.out.lt)
        have G3 := Lib.hid (G3.out.below hb5 G3.out.lt)
        have HB := Lib.hid (HB.out.trans (hb5.mono HB.out.size))
        clear hb5
        obtain ⟨q0, q1, -⟩ := two_cells G2.out
        obtain ⟨r0, r1, -⟩ := two_cells G3.out
        go_wp2_with fail
        refine (Label_yes (a' % 8) b' _ HLB.out (HT.out.up HB.out)).mono ?_
        rintro e w6 ⟨x6, rfl, hg6, hk6, hb6⟩
        clear q0 q1 r0 r1
        have X5 := Lib.hid (X5.out.below hb6 X5.out.lt)
        have X6 := Lib.hid hk6
        clear hg6 hk6
        have G0 := Lib.hid (G0.out.below hb6 G0.out.lt)
        have G1 := Lib.hid (G1.out.below hb6 G1.out.lt)
        have G2 := Lib.hid (G2.out.below hb6 G2.out.lt)
        have G3 := Lib.hid (G3.out.below hb6 G3.out.lt)
        have HB := Lib.hid (HB.out.trans (hb6.mono HB.out.size))
        clear hb6
        obtain ⟨q0, q1, -⟩ := two_cells G2.out
        obtain ⟨r0, r1, -⟩ := two_cells G3.out
        have hcx := run_conv (P := Tryd.prog) 24 5 9 Tryd.underlying24 Tryd.underlying5 under_strA 128 128 (bs := labelB (a % 8) b) (labelB_length _ _) (by simpa using Rd.bk X5.out)
        have hcy := run_conv (P := Tryd.prog) 24 5 9 Tryd.underlying24 Tryd.underlying5 under_strA 128 128 (bs := labelB (a' % 8) b') (labelB_length _ _) (by simpa using Rd.bk X6.out)
        obtain ⟨Z1, hZ1⟩ : ∃ Z, Z = str (labelB (a % 8) b) := ⟨_, rfl⟩
        obtain ⟨Z2, hZ2⟩ : ∃ Z, Z = str (labelB (a' % 8) b') := ⟨_, rfl⟩
        rw [← hZ1] at hcx
        rw [← hZ2] at hcy
        obtain ⟨T, hTT⟩ : ∃ T, (Z1.toList == Z2.toList) = T := ⟨_, rfl⟩
        have HTT : Hid (T = true ↔ a % 8 = a' % 8 ∧ b = b') := by
          show _ ↔ _
          rw [← hTT, hZ1, hZ2, str_toList, str_toList, beq_iff_eq]
          exact labelB_inj HLA.out HLB.out
        clear hZ1 hZ2
        by_cases hA : a % 8 = a' % 8
        · have hA' : (a % 8 == a' % 8) = true := by simpa using hA
          have HAH := Lib.hid hA
          clear hA
          by_cases hBB : b = b'
          · have hB' : (b == b') = true := by simpa using hBB
            obtain rfl : T = true := HTT.out.2 ⟨HAH.out, hBB⟩
            clear hBB
            go_wp2_with fail
            refine (awake_any _ (HT.out.up HB.out)).mono ?_
            rintro e w7 ⟨rfl, hb7⟩
            have HB := Lib.hid (HB.out.trans (hb7.mono HB.out.size))
            clear hb7
            go_wp2
            go_ret
            exact ⟨rfl, HB.out⟩
          · have hB' : (b == b') = false := by simpa using hBB
            obtain rfl : T = false := by rw [Bool.eq_false_iff]; intro h; exact hBB (HTT.out.1 h).2
            clear hBB
            go_wp2_with fail
            refine (awake_any _ (HT.out.up HB.out)).mono ?_
            rintro e w7 ⟨rfl, hb7⟩
            have HB := Lib.hid (HB.out.trans (hb7.mono HB.out.size))
            clear hb7
            go_wp2
            go_ret
            exact ⟨rfl, HB.out⟩
        · have hA' : (a % 8 == a' % 8) = false := by simpa using hA
          obtain rfl : T = false := by rw [Bool.eq_false_iff]; intro h; exact hA (HTT.out.1 h).1
          clear hA
          go_wp2_with fail
          refine (awake_any _ (HT.out.up HB.out)).mono ?_
          rintro e w7 ⟨rfl, hb7⟩
          have HB := Lib.hid (HB.out.trans (hb7.mono HB.out.size))
          clear hb7
          go_wp2
          go_ret
          exact ⟨rfl, HB.out⟩
      · obtain rfl : U = true := HU.out.2 ⟨rfl, rfl, rfl, rfl⟩
        go_wp2_with fail
        go_region_held3 (fun w' => (convert 24 9 (.slice (some ⟨z1, 0, none⟩) 128 128)).run Tryd.prog w' = .ok (.string Y1) w' ∧ (convert 24 9 (.slice (some ⟨z2, 0, none⟩) 128 128)).run Tryd.prog w' = .ok (.string Y2) w' ∧ w'.cell? ⟨g0, 0, none⟩ = some (.int .i64 D) ∧ w'.cell? ⟨g0, 1, none⟩ = some (.int .i64 L) ∧ w'.cell? ⟨g0, 2, none⟩ = some (.int .i64 V) ∧ w'.cell? ⟨g0, 3, none⟩ = some (.int .i64 S) ∧ w'.cell? ⟨g1, 0, none⟩ = some (.int .i64 D) ∧ w'.cell? ⟨g1, 1, none⟩ = some (.int .i64 L) ∧ w'.cell? ⟨g1, 2, none⟩ = some (.int .i64 V) ∧ w'.cell? ⟨g1, 3, none⟩ = some (.int .i64 S)) (exact HK.out _ (by assumption)) (fail)
        have G0 := Lib.hid (G0.out.drew)
        have G1 := Lib.hid (G1.out.drew)
        have G2 := Lib.hid (G2.out.drew)
        have G3 := Lib.hid (G3.out.drew)
        have HB := Lib.hid (HB.out.drew)
        clear HK HU hb0
        obtain ⟨q0, q1, -⟩ := two_cells G2.out
        obtain ⟨r0, r1, -⟩ := two_cells G3.out
        go_wp2_with fail
        refine (Label_yes (a % 8) b _ HLA.out (HT.out.up HB.out)).mono ?_
        rintro e w5 ⟨x5, rfl, hg5, hk5, hb5⟩
        clear q0 q1 r0 r1
        have X5 := Lib.hid hk5
        clear hg5 hk5
        have G0 := Lib.hid (G0.out.below hb5 G0.out.lt)
        have G1 := Lib.hid (G1.out.below hb5 G1.out.lt)
        have G2 := Lib.hid (G2.out.below hb5 G2.out.lt)
        have G3 := Lib.hid (G3.out.below hb5 G3.out.lt)
        have HB := Lib.hid (HB.out.trans (hb5.mono HB.out.size))
        clear hb5
        obtain ⟨q0, q1, -⟩ := two_cells G2.out
        obtain ⟨r0, r1, -⟩ := two_cells G3.out
        go_wp2_with fail
        refine (Label_yes (a' % 8) b' _ HLB.out (HT.out.up HB.out)).mono ?_
        rintro e w6 ⟨x6, rfl, hg6, hk6, hb6⟩
        clear q0 q1 r0 r1
        have X5 := Lib.hid (X5.out.below hb6 X5.out.lt)
        have X6 := Lib.hid hk6
        clear hg6 hk6
        have G0 := Lib.hid (G0.out.below hb6 G0.out.lt)
        have G1 := Lib.hid (G1.out.below hb6 G1.out.lt)
        have G2 := Lib.hid (G2.out.below hb6 G2.out.lt)
        have G3 := Lib.hid (G3.out.below hb6 G3.out.lt)
        have HB := Lib.hid (HB.out.trans (hb6.mono HB.out.size))
        clear hb6
        obtain ⟨q0, q1, -⟩ := two_cells G2.out
        obtain ⟨r0, r1, -⟩ := two_cells G3.out
        have hcx := run_conv (P := Tryd.prog) 24 5 9 Tryd.underlying24 Tryd.underlying5 under_strA 128 128 (bs := labelB (a % 8) b) (labelB_length _ _) (by simpa using Rd.bk X5.out)
        have hcy := run_conv (P := Tryd.prog) 24 5 9 Tryd.underlying24 Tryd.underlying5 under_strA 128 128 (bs := labelB (a' % 8) b') (labelB_length _ _) (by simpa using Rd.bk X6.out)
        obtain ⟨Z1, hZ1⟩ : ∃ Z, Z = str (labelB (a % 8) b) := ⟨_, rfl⟩
        obtain ⟨Z2, hZ2⟩ : ∃ Z, Z = str (labelB (a' % 8) b') := ⟨_, rfl⟩
        rw [← hZ1] at hcx
        rw [← hZ2] at hcy
        obtain ⟨T, hTT⟩ : ∃ T, (Z1.toList == Z2.toList) = T := ⟨_, rfl⟩
        have HTT : Hid (T = true ↔ a % 8 = a' % 8 ∧ b = b') := by
          show _ ↔ _
          rw [← hTT, hZ1, hZ2, str_toList, str_toList, beq_iff_eq]
          exact labelB_inj HLA.out HLB.out
        clear hZ1 hZ2
        by_cases hA : a % 8 = a' % 8
        · have hA' : (a % 8 == a' % 8) = true := by simpa using hA
          have HAH := Lib.hid hA
          clear hA
          by_cases hBB : b = b'
          · have hB' : (b == b') = true := by simpa using hBB
            obtain rfl : T = true := HTT.out.2 ⟨HAH.out, hBB⟩
            clear hBB
            go_wp2_with fail
            refine (awake_any _ (HT.out.up HB.out)).mono ?_
            rintro e w7 ⟨rfl, hb7⟩
            have HB := Lib.hid (HB.out.trans (hb7.mono HB.out.size))
            clear hb7
            go_wp2
            go_ret
            exact ⟨rfl, HB.out⟩
          · have hB' : (b == b') = false := by simpa using hBB
            obtain rfl : T = false := by rw [Bool.eq_false_iff]; intro h; exact hBB (HTT.out.1 h).2
            clear hBB
            go_wp2_with fail
            refine (awake_any _ (HT.out.up HB.out)).mono ?_
            rintro e w7 ⟨rfl, hb7⟩
            have HB := Lib.hid (HB.out.trans (hb7.mono HB.out.size))
            clear hb7
            go_wp2
            go_ret
            exact ⟨rfl, HB.out⟩
        · have hA' : (a % 8 == a' % 8) = false := by simpa using hA
          obtain rfl : T = false := by rw [Bool.eq_false_iff]; intro h; exact hA (HTT.out.1 h).1
          clear hA
          go_wp2_with fail
          refine (awake_any _ (HT.out.up HB.out)).mono ?_
          rintro e w7 ⟨rfl, hb7⟩
          have HB := Lib.hid (HB.out.trans (hb7.mono HB.out.size))
          clear hb7
          go_wp2
          go_ret
          exact ⟨rfl, HB.out⟩
theorem walk (D L V S D' L' V' S' a b a' b' : Int) (hb : 0 ≤ a ∧ a ≤ 65535 ∧ 0 ≤ b ∧ b ≤ 65535 ∧ 0 ≤ a' ∧ a' ≤ 65535 ∧ 0 ≤ b' ∧ b' ≤ 65535) (w : World) (ht : Tab w) :
    Calls Tryd.prog 6 #[.agg #[.int .i64 D, .int .i64 L, .int .i64 V, .int .i64 S, .int .i64 D', .int .i64 L', .int .i64 V', .int .i64 S', .int .u16 a, .int .u16 b, .int .u16 a', .int .u16 b']] w fun e w' => e = .returned (.bool true) ∧ Below w.heap.size w w' := by
  obtain ⟨p1, p2, p3, p4, p5, p6, p7, p8⟩ := hb
  exact cut D L V S D' L' V' S' a b a' b' w p1 p2 p3 p4 p5 p6 p7 p8 ht


set_option maxRecDepth 100000 in
theorem lifted (os : Os) (started : os.Started) (H : Type) (enc : TypeId × Value → H) :
    ReturnsInHanded {} Tryd.checked os 6 .any (fun w args => (Rows.labelApartSpec.pre enc Tryd.prog Tryd.f6 [] false w args ∧ laidMetH Tryd.prog laidHalves w) ∧ sizedMet enc Tryd.prog Tryd.f6 (OpenSpec.ofChange Rows.labelApartSpec) false w args) (Rows.labelApartSpec.post enc Tryd.prog Tryd.f6 false true false false) := by
  refine returnsInHanded_of_change_and (C := Tryd.checked) (X := fun w _ => laidMetH Tryd.prog laidHalves w) (fun _ _ _ hh h => h.of_heap hh) own started (by kernel_rfl) Tryd.func6
    (ChangeSpec.witness_shaped (enc := enc) (C := Tryd.checked) (os := os) (X := fun w _ => laidMetH Tryd.prog laidHalves w) false (World.doorLaid Tryd.prog 400 os) #[.agg #[.int .i64 0, .int .i64 0, .int .i64 0, .int .i64 0, .int .i64 0, .int .i64 0, .int .i64 0, .int .i64 0, .int .u16 0, .int .u16 0, .int .u16 0, .int .u16 0]] 8 rfl (World.shaped_of_RefB (by kernel_rfl) (by kernel_rfl)) (by kernel_rfl) (by kernel_rfl) (by kernel_rfl) (door_met os _)) ?_
  intro W base args ds gs before hval0 hW _ _ hL _
  have hTab := tab_of_laid hL
  have hval : ∀ (j : Nat) t v, Tryd.f6.params[j]? = some t → args[j]? = some v → Value.okWide Tryd.prog W .any base t v := hval0
  have hW' := hW
  obtain ⟨p, q, hA0, hV, rfl, hfz, hnd⟩ := hW
  have hA : DataW.TrodAll enc Tryd.prog W 0 (fun _ => true) true Tryd.f6.params.toList args.toList ds p := hA0
  rw [Tryd.params6] at hA hval
  obtain ⟨v0, vs0, d0, ds0, p0, q0, hargs, rfl, rfl, h0, r0⟩ := trodAll_cons hA
  obtain ⟨rfl, rfl, rfl⟩ := trodAll_nil r0
  obtain rfl : args = #[v0] := by cases args; simp_all
  obtain ⟨rfl, rfl⟩ := trodVars_none hV
  have lt0 : ∀ x ∈ p0, x.block < W.heap.size := by obtain ⟨m, hm⟩ := h0; exact DataW.trod_lt m _ _ _ hm
  obtain ⟨y0_0, y0_1, y0_2, y0_3, y0_4, y0_5, y0_6, y0_7, y0_8, y0_9, y0_10, y0_11, hb0, rfl⟩ := apart_in (hval 0 47 v0 rfl rfl) h0
  clear hA0 hval0
  refine (walk y0_0 y0_1 y0_2 y0_3 y0_4 y0_5 y0_6 y0_7 y0_8 y0_9 y0_10 y0_11 hb0 W hTab).mono fun e W' ⟨he, bel⟩ => ?_
  subst he
  exact ⟨_, rfl, _, _, _, [], _, [], hW', trodAll_mk1 (shut_bool Tryd.underlying4 _), (trodAll_cons_mk (Below.trod laidOut (by kernel_rfl) (of_decide_eq_true (by kernel_rfl)) h0 bel lt0) trodAll_mk0), rfl, bel.frame _, fun h => by cases h⟩

theorem over : Rows.labelApartRow.holds Tryd.pinned (OpenSpec.ofChange Rows.labelApartSpec) :=
  OpenClaim.holds_of_wide 6 Tryd.f6 rfl rfl rfl rfl rfl rfl rfl ⟨rfl, rfl, rfl, rfl, rfl⟩ rfl rfl rfl rfl rfl (by kernel_rfl) Tryd.func6 (by kernel_rfl)
    (of_decide_eq_true (by kernel_rfl)) (by unfold Func.isWrapper; first | (rw [if_pos (by decide +kernel)]; kernel_rfl) | (rw [if_neg (by decide +kernel)]; exact ⟨rfl, rfl⟩))
    (fun os started H enc _ => lifted os started H enc)

theorem proved : Rows.LabelApartCardSaid :=
  Claim7.holds_tied_plain_at .later [] [.data] true _ false
    over (fun _ h => by cases h) (by kernel_rfl) (fun _ h => by cases h) labelApart_row_tie rfl ⟨rfl, rfl⟩ (by kernel_rfl) rfl
    (fun f fn hf hfn => by
      obtain rfl : f = 6 := Option.some.inj ((show Tryd.prog.funcNamed "haymow/haymowlaw05.LabelApart" = some 6 by kernel_rfl).symm.trans hf) |>.symm
      obtain rfl : fn = Tryd.f6 := (Option.some.inj (Tryd.func6.symm.trans hfn)).symm
      exact ⟨by kernel_rfl, fun j t ht => by
        rw [Tryd.params6] at ht
        have hm : t ∈ [47] := by simpa using Array.mem_of_getElem? ht
        have hall : ([47].all fun u => !Tryd.prog.wantsStandIn u) = true := by kernel_rfl
        exact (show Tryd.prog.wantsStandIn t = false by simpa using List.all_eq_true.1 hall t hm)⟩)
    (by kernel_rfl)
#print axioms proved
end Go.Proofs.YthneomligbkmgaaDoor.labelApart
