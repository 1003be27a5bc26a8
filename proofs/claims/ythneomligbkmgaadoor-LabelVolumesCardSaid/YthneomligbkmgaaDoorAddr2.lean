/-
  What May, Segments, Blocks, Segment, First and Tier of package addr do, one contract each.
-/
import Derived.Test.YthneomligbkmgaaDoorAddr
namespace Go.Proofs.YthneomligbkmgaaDoor
open Go.RowKit
set_option linter.unusedVariables false

/-- a geometry in memory -/
def Geo (w : World) (g : Nat) (D L V S : Int) : Prop := w.cell? ⟨g, 0, none⟩ = some (.int .i64 D) ∧ w.cell? ⟨g, 1, none⟩ = some (.int .i64 L) ∧ w.cell? ⟨g, 2, none⟩ = some (.int .i64 V) ∧ w.cell? ⟨g, 3, none⟩ = some (.int .i64 S)
theorem Geo.up {w w' : World} {g : Nat} {D L V S : Int} (h : Geo w g D L V S) (hb : Below w.heap.size w w') : Geo w' g D L V S := by
  have hg := World.block_lt_of_cell? w _ h.1
  obtain ⟨h0, h1, h2, h3⟩ := h
  exact ⟨(hb.cell (p := ⟨g, 0, none⟩) hg).trans h0, (hb.cell (p := ⟨g, 1, none⟩) hg).trans h1, (hb.cell (p := ⟨g, 2, none⟩) hg).trans h2, (hb.cell (p := ⟨g, 3, none⟩) hg).trans h3⟩
theorem Geo.below {w w' : World} {g B : Nat} {D L V S : Int} (h : Geo w g D L V S) (hb : Below B w w') (hg : g < B) : Geo w' g D L V S := by
  obtain ⟨h0, h1, h2, h3⟩ := h
  exact ⟨(hb.cell (p := ⟨g, 0, none⟩) hg).trans h0, (hb.cell (p := ⟨g, 1, none⟩) hg).trans h1, (hb.cell (p := ⟨g, 2, none⟩) hg).trans h2, (hb.cell (p := ⟨g, 3, none⟩) hg).trans h3⟩
theorem Geo.new (w : World) (t : TypeId) (D L V S : Int) : Geo (w.alloc (.cells #[.int .i64 D, .int .i64 L, .int .i64 V, .int .i64 S] t)) w.heap.size D L V S := by
  have h := Bk.new w t #[.int .i64 D, .int .i64 L, .int .i64 V, .int .i64 S]
  exact ⟨h.cell 0, h.cell 1, h.cell 2, h.cell 3⟩

set_option maxHeartbeats 1000000 in
theorem May_any (D L V S : Int) (t : Bool) (w : World) (ht : mayB D L V S = t) :
    Calls Tryd.prog 19 #[.agg #[.int .i64 D, .int .i64 L, .int .i64 V, .int .i64 S]] w fun e w' => e = .returned (.bool t) ∧ Below w.heap.size w w' := by
  rw [mayB_eq] at ht
  have HT := Lib.hid ht
  clear ht
  go_enter Tryd.func19, Tryd.ntmps19
  go_wp2_with fail
  have G0 := Lib.hid (Geo.new w 23 D L V S)
  have HB0 := Lib.hid (Below.alloc (Below.refl w.heap.size w) (Nat.le_refl _) (.cells #[.int .i64 D, .int .i64 L, .int .i64 V, .int .i64 S] 23))
  refine (between_any _ _ _).mono ?_
  rintro e w1 ⟨a1, b1, rfl, t1, hb1⟩
  have T1 := Lib.hid t1
  have G1 := Lib.hid (G0.out.up hb1)
  have HB1 := Lib.hid (HB0.out.trans (hb1.mono HB0.out.size))
  clear t1 hb1 G0 HB0
  go_wp2_with fail
  refine (between_any _ _ _).mono ?_
  rintro e w2 ⟨a2, b2, rfl, t2, hb2⟩
  have T1 := Lib.hid (T1.out.up hb2)
  have T2 := Lib.hid t2
  have G2 := Lib.hid (G1.out.up hb2)
  have HB2 := Lib.hid (HB1.out.trans (hb2.mono HB1.out.size))
  clear t2 hb2 G1 HB1
  go_wp2_with fail
  refine (between_any _ _ _).mono ?_
  rintro e w3 ⟨a3, b3, rfl, t3, hb3⟩
  have T1 := Lib.hid (T1.out.up hb3)
  have T2 := Lib.hid (T2.out.up hb3)
  have T3 := Lib.hid t3
  have G3 := Lib.hid (G2.out.up hb3)
  have HB3 := Lib.hid (HB2.out.trans (hb3.mono HB2.out.size))
  clear t3 hb3 G2 HB2
  obtain ⟨c0, c1, c2, c3⟩ := G3.out
  go_wp2_with fail
  cases hD : inB 8 256 D
  · refine (in_any _ _ _ _ _ _ _ T1.out hD).mono ?_
    rintro e w4 ⟨rfl, rfl⟩
    have HE : Hid (t = false) := by rw [← HT.out, hD]; rfl
    clear hD
    go_wp2
    go_ret
    exact ⟨ret_bool HE.out.symm, HB3.out⟩
  · refine (in_any _ _ _ _ _ _ _ T1.out hD).mono ?_
    rintro e w4 ⟨rfl, rfl⟩
    obtain ⟨hd1, hd2⟩ := inB_yes hD
    have HD := Lib.hid hD
    clear hD
    go_wp2_with fail
    refine (between_any _ _ _).mono ?_
    rintro e w4 ⟨a4, b4, rfl, t4, hb4⟩
    have T2 := Lib.hid (T2.out.up hb4)
    have T3 := Lib.hid (T3.out.up hb4)
    have T4 := Lib.hid t4
    have G4 := Lib.hid (G3.out.up hb4)
    have HB4 := Lib.hid (HB3.out.trans (hb4.mono HB3.out.size))
    clear t4 hb4 G3 HB3 c0 c1 c2 c3
    obtain ⟨c0, c1, c2, c3⟩ := G4.out
    go_wp2_with fail
    cases hL : inB 1 (D - 6) L
    · refine (in_any _ _ _ _ _ _ _ T4.out hL).mono ?_
      rintro e w5 ⟨rfl, rfl⟩
      have HE : Hid (t = false) := by rw [← HT.out, HD.out, hL]; rfl
      clear hL
      go_wp2
      go_ret
      exact ⟨ret_bool HE.out.symm, HB4.out⟩
    · refine (in_any _ _ _ _ _ _ _ T4.out hL).mono ?_
      rintro e w5 ⟨rfl, rfl⟩
      have HL := Lib.hid hL
      clear hL
      go_wp2_with fail
      cases hV : inB 0 8 V
      · refine (in_any _ _ _ _ _ _ _ T2.out hV).mono ?_
        rintro e w5 ⟨rfl, rfl⟩
        have HE : Hid (t = false) := by rw [← HT.out, HD.out, HL.out, hV]; rfl
        clear hV
        go_wp2
        go_ret
        exact ⟨ret_bool HE.out.symm, HB4.out⟩
      · refine (in_any _ _ _ _ _ _ _ T2.out hV).mono ?_
        rintro e w5 ⟨rfl, rfl⟩
        have HV := Lib.hid hV
        clear hV
        go_wp2_with fail
        refine (in_any _ _ _ _ _ _ _ T3.out rfl).mono ?_
        rintro e w5 ⟨rfl, rfl⟩
        have HE : Hid (t = inB 1 256 S) := by rw [← HT.out, HD.out, HL.out, HV.out]; rfl
        go_wp2
        go_ret
        exact ⟨ret_bool HE.out.symm, HB4.out⟩

/-- how many segments a geometry is answered to have -/
def segsA (D L V S : Int) : Int := if mayB D L V S then segsN D V S else 0
theorem segsA_bd (D L V S : Int) : 0 ≤ segsA D L V S ∧ segsA D L V S ≤ 2304 := by
  unfold segsA
  split
  · next h => have := segsN_bd h; omega
  · omega
end Go.Proofs.YthneomligbkmgaaDoor
