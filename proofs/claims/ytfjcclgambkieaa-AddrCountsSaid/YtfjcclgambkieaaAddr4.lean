/-
  What Of and Where of package addr do, one contract each.
-/
import Derived.Test.YtfjcclgambkieaaAddr3
import Derived.Test.YtfjcclgambkieaaMem2
import Derived.RegionTactic
import Derived.StillTailTactics
namespace Go.Proofs.Ytfjcclgambkieaa
open Go.RowKit
set_option linter.unusedVariables false

theorem ret_two {k k' : IntKind} {a b c d : Int} (h : a = b) (h' : c = d) : Ending.returned (.tuple #[.int k a, .int k' c]) = .returned (.tuple #[.int k b, .int k' d]) := by rw [h, h']
/-- a place in memory -/
def Plc (w : World) (g : Nat) (v s o : Int) : Prop := w.cell? ⟨g, 0, none⟩ = some (.int .i64 v) ∧ w.cell? ⟨g, 1, none⟩ = some (.int .i64 s) ∧ w.cell? ⟨g, 2, none⟩ = some (.int .i64 o)
theorem Plc.up {w w' : World} {g : Nat} {v s o : Int} (h : Plc w g v s o) (hb : Below w.heap.size w w') : Plc w' g v s o := by
  have hg := World.block_lt_of_cell? w _ h.1
  obtain ⟨h0, h1, h2⟩ := h
  exact ⟨(hb.cell (p := ⟨g, 0, none⟩) hg).trans h0, (hb.cell (p := ⟨g, 1, none⟩) hg).trans h1, (hb.cell (p := ⟨g, 2, none⟩) hg).trans h2⟩
theorem Plc.new (w : World) (t : TypeId) (v s o : Int) : Plc (w.alloc (.cells #[.int .i64 v, .int .i64 s, .int .i64 o] t)) w.heap.size v s o := by
  have h := Bk.new w t #[.int .i64 v, .int .i64 s, .int .i64 o]
  exact ⟨h.cell 0, h.cell 1, h.cell 2⟩

set_option maxHeartbeats 400000 in
theorem Of_bad (D L V S v s o : Int) (w : World) (h : mayB D L V S = false) :
    Calls Try.prog 15 #[.agg #[.int .i64 D, .int .i64 L, .int .i64 V, .int .i64 S], .agg #[.int .i64 v, .int .i64 s, .int .i64 o]] w fun e w' => e = .returned (.tuple #[.int .i64 0, .int .i64 1]) ∧ Below w.heap.size w w' := by
  have H := Lib.hid h
  clear h
  go_enter Try.func15, Try.ntmps15
  go_wp2_with fail
  have HB0 := Lib.hid (Below.alloc (Below.alloc (Below.refl w.heap.size w) (Nat.le_refl _) (.cells #[.int .i64 D, .int .i64 L, .int .i64 V, .int .i64 S] 23)) (by simp) (.cells #[.int .i64 v, .int .i64 s, .int .i64 o] 28))
  refine (May_any _ _ _ _ _ _ H.out).mono ?_
  rintro e w1 ⟨rfl, hb1⟩
  have HB1 := Lib.hid (HB0.out.trans (hb1.mono HB0.out.size))
  clear hb1 HB0
  go_wp2
  go_ret2
  exact ⟨rfl, HB1.out⟩

set_option maxHeartbeats 1000000 in
theorem Of_in (D L V S v s o : Int) (t : Bool) (w : World) (h : mayB D L V S = true) (ht : placeB D V S v s o = t) :
    Calls Try.prog 15 #[.agg #[.int .i64 D, .int .i64 L, .int .i64 V, .int .i64 S], .agg #[.int .i64 v, .int .i64 s, .int .i64 o]] w fun e w' => e = .returned (.tuple #[.int .i64 (if t then addrI D S v s o else 0), .int .i64 (if t then 0 else 4)]) ∧ Below w.heap.size w w' := by
  unfold placeB at ht
  obtain ⟨m1, m2, m3, m4, m5, m6, m7, m8⟩ := mayB_yes h
  have H := Lib.hid h
  have HT := Lib.hid ht
  clear h ht
  have so1 : 1 ≤ segsOfI D S v := by unfold segsOfI; split <;> omega
  have so2 : segsOfI D S v ≤ 256 := by unfold segsOfI; split <;> omega
  go_enter Try.func15, Try.ntmps15
  go_wp2_with fail
  have HB0 := Lib.hid (Below.alloc (Below.alloc (Below.refl w.heap.size w) (Nat.le_refl _) (.cells #[.int .i64 D, .int .i64 L, .int .i64 V, .int .i64 S] 23)) (by simp) (.cells #[.int .i64 v, .int .i64 s, .int .i64 o] 28))
  have G0 := Lib.hid ((Geo.new w 23 D L V S).up (Below.alloc (Below.refl _ _) (Nat.le_refl _) (.cells #[.int .i64 v, .int .i64 s, .int .i64 o] 28)))
  have P0 := Lib.hid (Plc.new (w.alloc (.cells #[.int .i64 D, .int .i64 L, .int .i64 V, .int .i64 S] 23)) 28 v s o)
  rw [World.alloc_size'] at P0
  refine (May_any _ _ _ _ _ _ H.out).mono ?_
  rintro e w1 ⟨rfl, hb1⟩
  have G1 := Lib.hid (G0.out.up hb1)
  have P1 := Lib.hid (P0.out.up hb1)
  have HB1 := Lib.hid (HB0.out.trans (hb1.mono HB0.out.size))
  clear hb1 HB0 G0 P0
  obtain ⟨c0, c1, c2, c3⟩ := G1.out
  go_wp2_with fail
  refine (between_any _ _ _).mono ?_
  rintro e w2 ⟨a1, b1, rfl, t1, hb2⟩
  have T1 := Lib.hid t1
  have G2 := Lib.hid (G1.out.up hb2)
  have P2 := Lib.hid (P1.out.up hb2)
  have HB2 := Lib.hid (HB1.out.trans (hb2.mono HB1.out.size))
  clear hb2 HB1 G1 P1 t1 c0 c1 c2 c3
  go_wp2_with fail
  refine (between_any _ _ _).mono ?_
  rintro e w3 ⟨a2, b2, rfl, t2, hb3⟩
  have T1 := Lib.hid (T1.out.up hb3)
  have T2 := Lib.hid t2
  have G3 := Lib.hid (G2.out.up hb3)
  have P3 := Lib.hid (P2.out.up hb3)
  have HB3 := Lib.hid (HB2.out.trans (hb3.mono HB2.out.size))
  clear hb3 HB2 G2 P2 t2
  obtain ⟨c0, c1, c2, c3⟩ := G3.out
  obtain ⟨d0, d1, d2⟩ := P3.out
  go_wp2_with fail
  refine (segsOf_any _ _ _ _ _ _).mono ?_
  rintro e w4 ⟨rfl, hb4⟩
  have T1 := Lib.hid (T1.out.up hb4)
  have T2 := Lib.hid (T2.out.up hb4)
  have G4 := Lib.hid (G3.out.up hb4)
  have P4 := Lib.hid (P3.out.up hb4)
  have HB4 := Lib.hid (HB3.out.trans (hb4.mono HB3.out.size))
  clear hb4 HB3 G3 P3 c0 c1 c2 c3 d0 d1 d2
  go_wp2_with fail
  refine (between_any _ _ _).mono ?_
  rintro e w5 ⟨a3, b3, rfl, t3, hb5⟩
  have T1 := Lib.hid (T1.out.up hb5)
  have T2 := Lib.hid (T2.out.up hb5)
  have T3 := Lib.hid t3
  have G5 := Lib.hid (G4.out.up hb5)
  have P5 := Lib.hid (P4.out.up hb5)
  have HB5 := Lib.hid (HB4.out.trans (hb5.mono HB4.out.size))
  clear hb5 HB4 G4 P4 t3
  obtain ⟨c0, c1, c2, c3⟩ := G5.out
  obtain ⟨d0, d1, d2⟩ := P5.out
  go_wp2_with fail
  cases hV : inB (-1) (V - 1) v
  · refine (in_any _ _ _ _ _ _ _ T1.out hV).mono ?_
    rintro e w6 ⟨rfl, rfl⟩
    obtain rfl : t = false := by rw [← HT.out, hV]; rfl
    clear hV
    go_wp2
    go_ret2
    exact ⟨rfl, HB5.out⟩
  · refine (in_any _ _ _ _ _ _ _ T1.out hV).mono ?_
    rintro e w6 ⟨rfl, rfl⟩
    have HV := Lib.hid hV
    clear hV
    go_wp2_with fail
    cases hS : inB 0 (segsOfI D S v - 1) s
    · refine (in_any _ _ _ _ _ _ _ T3.out hS).mono ?_
      rintro e w6 ⟨rfl, rfl⟩
      obtain rfl : t = false := by rw [← HT.out, HV.out, hS]; rfl
      clear hS
      go_wp2
      go_ret2
      exact ⟨rfl, HB5.out⟩
    · refine (in_any _ _ _ _ _ _ _ T3.out hS).mono ?_
      rintro e w6 ⟨rfl, rfl⟩
      have HS := Lib.hid hS
      clear hS
      go_wp2_with fail
      cases hO : inB 0 15 o
      · refine (in_any _ _ _ _ _ _ _ T2.out hO).mono ?_
        rintro e w6 ⟨rfl, rfl⟩
        obtain rfl : t = false := by rw [← HT.out, HV.out, HS.out, hO]; rfl
        clear hO
        go_wp2
        go_ret2
        exact ⟨rfl, HB5.out⟩
      · refine (in_any _ _ _ _ _ _ _ T2.out hO).mono ?_
        rintro e w6 ⟨rfl, rfl⟩
        obtain rfl : t = true := by rw [← HT.out, HV.out, HS.out, hO]; rfl
        obtain ⟨v1, v2⟩ := inB_yes HV.out
        obtain ⟨s1, s2⟩ := inB_yes HS.out
        obtain ⟨o1, o2⟩ := inB_yes hO
        obtain ⟨f1, f2⟩ := firstI_bd H.out v1 (by omega)
        have HF : Hid (∀ w', Below w5.heap.size w5 w' → Calls Try.prog 25 #[.agg #[.int .i64 D, .int .i64 L, .int .i64 V, .int .i64 S], .int .i64 v] w' fun e w'' => e = .returned (.int .i64 (firstI D S v)) ∧ Below w5.heap.size w5 w'') := fun w' hb =>
          (firstOf_any D L V S v w' (by omega) m2 v1 (by omega) (by omega) m8).mono fun e w'' ⟨he, hb'⟩ => ⟨he, hb.trans (hb'.mono hb.size)⟩
        obtain ⟨f, hf⟩ : ∃ f, firstI D S v = f := ⟨_, rfl⟩
        rw [hf] at HF f1 f2
        have HA : Hid (addrI D S v s o = 16 * (f + s) + o + 1) := by unfold addrI; rw [hf]; rfl
        have g1 : 0 ≤ f + s := by omega
        have g2 : f + s ≤ 4000 := by omega
        have HK : Hid (∀ w', Below w5.heap.size w5 w' → w'.cell? ⟨w.heap.size, 0, none⟩ = some (.int .i64 D) ∧ w'.cell? ⟨w.heap.size, 1, none⟩ = some (.int .i64 L) ∧ w'.cell? ⟨w.heap.size, 2, none⟩ = some (.int .i64 V) ∧ w'.cell? ⟨w.heap.size, 3, none⟩ = some (.int .i64 S)
            ∧ w'.cell? ⟨w.heap.size + 1, 0, none⟩ = some (.int .i64 v) ∧ w'.cell? ⟨w.heap.size + 1, 1, none⟩ = some (.int .i64 s) ∧ w'.cell? ⟨w.heap.size + 1, 2, none⟩ = some (.int .i64 o)) := fun w' hb =>
          ⟨(G5.out.up hb).1, (G5.out.up hb).2.1, (G5.out.up hb).2.2.1, (G5.out.up hb).2.2.2, (P5.out.up hb).1, (P5.out.up hb).2.1, (P5.out.up hb).2.2⟩
        have q1 : IntKind.i64.wrap (f + s) = f + s := IntWalk.i64_in _ (by omega)
        have q2 : IntKind.i64.wrap (16 * (f + s) + 1 + o) = 16 * (f + s) + 1 + o := IntWalk.i64_in _ (by omega)
        have g3 : f + s ≤ 4096 := by omega
        clear hO hf v1 v2 s2 c0 c1 c2 c3 d0 d1 d2 so1 so2
        go_wp2_with fail
        go_region_held3 (fun w' => w'.cell? ⟨w.heap.size, 0, none⟩ = some (.int .i64 D) ∧ w'.cell? ⟨w.heap.size, 1, none⟩ = some (.int .i64 L) ∧ w'.cell? ⟨w.heap.size, 2, none⟩ = some (.int .i64 V) ∧ w'.cell? ⟨w.heap.size, 3, none⟩ = some (.int .i64 S)
            ∧ w'.cell? ⟨w.heap.size + 1, 0, none⟩ = some (.int .i64 v) ∧ w'.cell? ⟨w.heap.size + 1, 1, none⟩ = some (.int .i64 s) ∧ w'.cell? ⟨w.heap.size + 1, 2, none⟩ = some (.int .i64 o))
          (first | exact HK.out _ (Below.refl _ _).drew | exact HK.out _ (by assumption))
          (first
            | (go_at_call 25; (with_reducible refine (HF.out _ (by first | exact (Below.refl _ _).drew | assumption)).mono ?_); rintro e w6 ⟨rfl, hbw⟩)
            | (go_at_call 28; (with_reducible refine (firstBlock_any _ _ g1 g3).mono ?_); rintro e w7 ⟨rfl, rfl⟩))
        all_goals go_wp2
        all_goals go_ret2
        all_goals exact ⟨ret_two (by rw [HA.out]; omega) rfl, HB5.out.trans (Below.mono (by assumption) HB5.out.size)⟩

theorem ret_place {a b c a' b' c' d : Int} (h : a' = a) (h' : b' = b) (h'' : c = c') : Ending.returned (.tuple #[.agg #[.int .i64 a, .int .i64 b, .int .i64 c], .int .i64 d]) = .returned (.tuple #[.agg #[.int .i64 a', .int .i64 b', .int .i64 c'], .int .i64 d]) := by rw [h, h', h'']
theorem place_cells {w : World} {g : Nat} {t : TypeId} {v s o : Value} (h : Bk w g t #[v, s, o]) : w.cell? ⟨g, 0, none⟩ = some v ∧ w.cell? ⟨g, 1, none⟩ = some s ∧ w.cell? ⟨g, 2, none⟩ = some o
    ∧ w.frozen? ⟨g, 0, none⟩ = false ∧ w.frozen? ⟨g, 1, none⟩ = false ∧ w.frozen? ⟨g, 2, none⟩ = false := ⟨h.cell 0, h.cell 1, h.cell 2, h.free 0, h.free 1, h.free 2⟩
theorem place_puts {w : World} {g : Nat} {t : TypeId} {x y z : Value} (h : Bk w g t #[x, y, z]) (v s o : Value) : (w.setCell ⟨g, 0, none⟩ v).cell? ⟨g, 0, none⟩ = some v ∧ ((w.setCell ⟨g, 0, none⟩ v).setCell ⟨g, 1, none⟩ s).cell? ⟨g, 1, none⟩ = some s
    ∧ (((w.setCell ⟨g, 0, none⟩ v).setCell ⟨g, 1, none⟩ s).setCell ⟨g, 2, none⟩ o).cell? ⟨g, 2, none⟩ = some o ∧ Bk (((w.setCell ⟨g, 0, none⟩ v).setCell ⟨g, 1, none⟩ s).setCell ⟨g, 2, none⟩ o) g t #[v, s, o] :=
  ⟨(h.set_ 0 v).cell 0, ((h.set_ 0 v).set_ 1 s).cell 1, (((h.set_ 0 v).set_ 1 s).set_ 2 o).cell 2, ((h.set_ 0 v).set_ 1 s).set_ 2 o⟩
theorem Where_bad (D L V S a : Int) (w : World) (h : mayB D L V S = false) :
    Calls Try.prog 16 #[.agg #[.int .i64 D, .int .i64 L, .int .i64 V, .int .i64 S], .int .i64 a] w fun e w' => e = .returned (.tuple #[.agg #[.int .i64 0, .int .i64 0, .int .i64 0], .int .i64 1]) ∧ Below w.heap.size w w' := by
  have H := Lib.hid h
  clear h
  go_enter Try.func16, Try.ntmps16
  go_wp2_with fail
  have HB0 := Lib.hid (Below.alloc (Below.alloc (Below.refl w.heap.size w) (Nat.le_refl _) (.cells #[.int .i64 D, .int .i64 L, .int .i64 V, .int .i64 S] 23)) (by simp) (.cells #[.int .i64 0, .int .i64 0, .int .i64 0] 28))
  have K0 := Lib.hid (Bk.new (w.alloc (.cells #[.int .i64 D, .int .i64 L, .int .i64 V, .int .i64 S] 23)) 28 #[.int .i64 0, .int .i64 0, .int .i64 0])
  rw [World.alloc_size'] at K0
  refine (Segment_bad _ _ _ _ _ _ H.out).mono ?_
  rintro e w1 ⟨rfl, hb1⟩
  have K1 := Lib.hid (K0.out.below hb1 K0.out.lt)
  have HB1 := Lib.hid (HB0.out.trans (hb1.mono HB0.out.size))
  clear hb1 HB0 K0
  obtain ⟨k0, k1, k2, f0, f1, f2⟩ := place_cells K1.out
  obtain ⟨p0, p1, p2, _⟩ := place_puts K1.out (.int .i64 0) (.int .i64 0) (.int .i64 0)
  go_wp2
  refine bodyPost_ret (v := .tuple #[.agg #[.int .i64 0, .int .i64 0, .int .i64 0], .int .i64 1]) (by simp [results, Try.results16, go_sem, p0, p1, p2]) rfl ⟨rfl, ?_⟩
  exact ((HB1.out.setCell (by simp) _).setCell (by simp) _).setCell (by simp) _

set_option maxHeartbeats 1000000 in
theorem Where_in (D L V S a : Int) (t : Bool) (w : World) (h : mayB D L V S = true) (ht : inB 1 (16 * segsN D V S) a = t) :
    Calls Try.prog 16 #[.agg #[.int .i64 D, .int .i64 L, .int .i64 V, .int .i64 S], .int .i64 a] w fun e w' =>
      e = .returned (.tuple #[.agg #[.int .i64 (if t then volI D S ((a - 1) / 16) else 0), .int .i64 (if t then segI D S ((a - 1) / 16) else 0), .int .i64 (if t then (a - 1) % 16 else 0)], .int .i64 (if t then 0 else 4)]) ∧ Below w.heap.size w w' := by
  obtain ⟨m1, m2, m3, m4, m5, m6, m7, m8⟩ := mayB_yes h
  have sb := (segsN_bd h).2
  have H := Lib.hid h
  have HT := Lib.hid ht
  clear h ht
  go_enter Try.func16, Try.ntmps16
  go_wp2_with fail
  have HB0 := Lib.hid (Below.alloc (Below.alloc (Below.refl w.heap.size w) (Nat.le_refl _) (.cells #[.int .i64 D, .int .i64 L, .int .i64 V, .int .i64 S] 23)) (by simp) (.cells #[.int .i64 0, .int .i64 0, .int .i64 0] 28))
  have G0 := Lib.hid ((Geo.new w 23 D L V S).up (Below.alloc (Below.refl _ _) (Nat.le_refl _) (.cells #[.int .i64 0, .int .i64 0, .int .i64 0] 28)))
  have K0 := Lib.hid (Bk.new (w.alloc (.cells #[.int .i64 D, .int .i64 L, .int .i64 V, .int .i64 S] 23)) 28 #[.int .i64 0, .int .i64 0, .int .i64 0])
  rw [World.alloc_size'] at K0
  refine (Segment_in _ _ _ _ _ _ _ H.out HT.out).mono ?_
  rintro e w1 ⟨rfl, hb1⟩
  have G1 := Lib.hid (G0.out.up hb1)
  have K1 := Lib.hid (K0.out.below hb1 K0.out.lt)
  have HB1 := Lib.hid (HB0.out.trans (hb1.mono HB0.out.size))
  clear hb1 HB0 G0 K0
  cases t
  · obtain ⟨k0, k1, k2, f0, f1, f2⟩ := place_cells K1.out
    obtain ⟨p0, p1, p2, _⟩ := place_puts K1.out (.int .i64 0) (.int .i64 0) (.int .i64 0)
    go_wp2
    refine bodyPost_ret (v := .tuple #[.agg #[.int .i64 0, .int .i64 0, .int .i64 0], .int .i64 4]) (by simp [results, Try.results16, go_sem, p0, p1, p2]) rfl ⟨rfl, ?_⟩
    exact ((HB1.out.setCell (by simp) _).setCell (by simp) _).setCell (by simp) _
  · obtain ⟨a1, a2⟩ := inB_yes HT.out
    obtain ⟨s, hs⟩ : ∃ s, (a - 1) / 16 = s := ⟨_, rfl⟩
    have s1 : 0 ≤ s := by omega
    have s2 : s ≤ 2304 := by omega
    have hoff : a - (16 * s + 1) = (a - 1) % 16 := by omega
    have o1 : 0 ≤ a - (16 * s + 1) := by omega
    have o2 : a - (16 * s + 1) ≤ 15 := by omega
    have HOFF := Lib.hid hoff
    have a3 : a ≤ 40000 := by omega
    have HSQ := Lib.hid hs
    rw [hs]
    clear hs hoff a2 sb
    obtain ⟨c0, c1, c2, c3⟩ := G1.out
    obtain ⟨k0, k1, k2, f0, f1, f2⟩ := place_cells K1.out
    simp only [if_true]
    by_cases hD : s < D
    · have HV : Hid (volI D S s = -1) := by show _ = _; unfold volI; rw [if_pos hD]
      have HS : Hid (segI D S s = s) := by show _ = _; unfold segI; rw [if_pos hD]
      obtain ⟨p0, p1, p2, _⟩ := place_puts K1.out (.int .i64 (-1)) (.int .i64 s) (.int .i64 (a - (16 * s + 1)))
      go_wp2_with fail
      refine (firstBlock_any _ _ s1 (by omega)).mono ?_
      rintro e w2 ⟨rfl, rfl⟩
      go_wp2
      refine bodyPost_ret (v := .tuple #[.agg #[.int .i64 (-1), .int .i64 s, .int .i64 (a - (16 * s + 1))], .int .i64 0]) (by simp [results, Try.results16, go_sem, p0, p1, p2]) rfl ⟨ret_place (by rw [HSQ.out]; exact HV.out) (by rw [HSQ.out]; exact HS.out) HOFF.out, ?_⟩
      exact ((HB1.out.setCell (by simp) _).setCell (by simp) _).setCell (by simp) _
    · have HV : Hid (volI D S s = (s - D) / S) := by show _ = _; unfold volI; rw [if_neg hD]
      have HS : Hid (segI D S s = (s - D) % S) := by show _ = _; unfold segI; rw [if_neg hD]
      obtain ⟨p0, p1, p2, _⟩ := place_puts K1.out (.int .i64 ((s - D) / S)) (.int .i64 ((s - D) % S)) (.int .i64 (a - (16 * s + 1)))
      go_wp2_with fail
      refine (firstBlock_any _ _ s1 (by omega)).mono ?_
      rintro e w2 ⟨rfl, rfl⟩
      go_wp2_with fail
      go_region
      all_goals go_wp2
      all_goals refine bodyPost_ret (v := .tuple #[.agg #[.int .i64 ((s - D) / S), .int .i64 ((s - D) % S), .int .i64 (a - (16 * s + 1))], .int .i64 0]) (by simp [results, Try.results16, go_sem, p0, p1, p2]) rfl ⟨ret_place (by rw [HSQ.out]; exact HV.out) (by rw [HSQ.out]; exact HS.out) HOFF.out, ?_⟩
      all_goals have hge : w.heap.size ≤ w.heap.size + 1 := by omega
      all_goals exact ((HB1.out.drew.setCell (p := ⟨w.heap.size + 1, 0, none⟩) hge _).setCell (p := ⟨w.heap.size + 1, 1, none⟩) hge _).setCell (p := ⟨w.heap.size + 1, 2, none⟩) hge _
end Go.Proofs.Ytfjcclgambkieaa
