/-
  EntryRules: the walk, from the properties. (Printed by wip/tools/entlaw2.py.)
-/
import Derived.Test.YtgboccepgbeihaaEntC
namespace Go.Proofs.Ytgboccepgbeihaa
open Go.RowKit
set_option maxRecDepth 100000
set_option linter.unusedVariables false

theorem addR_len {l : List Et} {x : Et} (h : l.length ≤ 33) : (addR l x).length ≤ 40 := by
  unfold addR
  split
  · have := (addR_may (by assumption)).2; omega
  · exact Nat.zero_le _
theorem takeR_len {l : List Et} {s : List UInt8} (h : l.length ≤ 33) : (takeR l s).length ≤ 40 := by
  unfold takeR
  split
  · have : (cutE l s).length ≤ l.length := List.length_filter_le _ _
    omega
  · exact Nat.zero_le _
set_option maxHeartbeats 8000000 in
theorem entryRules_walk (W : World) (HC : EncEC W) (HF : FindEC W) (HA : AddEC W) (HT : TakeEC W) (A : Option Addr) (n c : Nat) (l : List Et) (x : Et)
    (hl : l.length = n) (hnc : n ≤ c) (hcm : c ≤ maxLen) (hr : Rd W W.heap.size A (etsV l)) (hs : ∀ x ∈ l, inE x) (hx : inE x) :
    Calls Try.prog 4 #[.slice A n c, etG x] W fun e w' => e = .returned (.bool true) ∧ Below W.heap.size W w' := by
  have HAW := Lib.hid (awakeE_any HC HA HT)
  have HF := Lib.hid HF
  have HA := Lib.hid HA
  have HT := Lib.hid HT
  obtain ⟨nm, xi, xt⟩ := x
  show Calls _ _ #[.slice A n c, .agg #[.string (str nm), .int .i64 xi, .int .i64 xt]] _ _
  have HSH := Lib.hid (fewE_short hs)
  have hfl := fewE_len l
  have HTW := Lib.hid (fewE_twice l)
  have HXS : Hid (shortE ⟨nm.take 60, xi, xt⟩) := few1_short hx
  have HNL : Hid ((nm.take 60).length ≤ 1000) := HXS.out.1
  have HFX := Lib.hid fun w' => few10_any nm w' hx.1
  obtain ⟨X, hX⟩ : ∃ X, str nm = X := ⟨_, rfl⟩
  rw [hX] at HFX ⊢
  have HFW := Lib.hid (fewLoop_own W.heap.size A n c l (W.alloc (.cells #[.string X, .int .i64 xi, .int .i64 xt] 38)) hl hnc hcm (hr.alloc (Nat.le_refl _) _) (by simp) hs)
  have KX := Lib.hid (Bk.new W 38 #[.string X, .int .i64 xi, .int .i64 xt])
  have HB := Lib.hid ((Below.refl W.heap.size W).alloc (Nat.le_refl _) (.cells #[.string X, .int .i64 xi, .int .i64 xt] 38))
  obtain ⟨L, hL⟩ : ∃ L, fewE l = L := ⟨_, rfl⟩
  rw [hL] at HFW HSH hfl HTW
  have hfl' := hfl
  obtain ⟨T, hT⟩ : ∃ T, nm.take 60 = T := ⟨_, rfl⟩
  rw [hT] at HXS HNL HFX
  clear hl hnc hcm hr hs hx hX hL hT
  go_enter Try.func4, Try.ntmps4
  go_wp2_with fail
  refine HFW.out.mono ?_
  rintro e w1 ⟨v1, n1, rfl, hown, hb⟩
  obtain ⟨A1, c1, rfl, hc1, hm1⟩ := own_len hown
  have hn1 : n1 ≤ 33 := by have := hown.1; rw [etsV_length] at this; omega
  have KX := Lib.hid (KX.out.below hb KX.out.lt)
  have HB := Lib.hid (HB.out.trans (hb.mono HB.out.size))
  have HOWN := Lib.hid hown
  obtain ⟨c0, c1', c2', f0, f1, f2⟩ := et_cells KX.out
  clear hb hown HFW hc1 hm1
  go_wp2_with fail
  refine (HFX.out _).mono ?_
  rintro e w2 ⟨rfl, rfl⟩
  have HBg : Hid (W.heap.size < w1.heap.size) := KX.out.lt
  obtain ⟨Y, hY⟩ : ∃ Y, str T = Y := ⟨_, rfl⟩
  rw [hY]
  obtain ⟨w2, hw2⟩ : ∃ w2, w1.setCell ⟨W.heap.size, 0, none⟩ (.string Y) = w2 := ⟨_, rfl⟩
  have HOWN := Lib.hid (own_farE HOWN.out (p := ⟨W.heap.size, 0, none⟩) (by simp) (.string Y))
  have KX : Hid (Bk (w1.setCell ⟨W.heap.size, 0, none⟩ (.string Y)) W.heap.size 38 #[.string Y, .int .i64 xi, .int .i64 xt]) := KX.out.set_ 0 (.string Y)
  have HB := Lib.hid (HB.out.setCell (p := ⟨W.heap.size, 0, none⟩) (Nat.le_refl _) (.string Y))
  rw [hw2] at HOWN KX HB
  have E1 := Lib.hid (EtsW.own HOWN.out)
  have HFW := Lib.hid (fewLoop_any w2.heap.size A1 n1 c1 L w2 E1.out.parts.1 E1.out.parts.2.1 E1.out.parts.2.2.1 E1.out.parts.2.2.2 (Nat.le_refl _) fun x hx => shortE_in (HSH.out x hx))
  rw [HTW.out] at HFW
  go_wp2_with fail
  refine HFW.out.mono ?_
  rintro e w3 ⟨v0, rfl, hE0, hb⟩
  clear hw2 c0 c1' c2' f0 f1 f2 HOWN HBg HFW
  have KX := Lib.hid (KX.out.below hb KX.out.lt)
  have E1 := Lib.hid (E1.out.up hb)
  have HB := Lib.hid (HB.out.trans (hb.mono HB.out.size))
  obtain ⟨A0, n0, c0, rfl, hn0, -, -, -⟩ := id hE0
  have E0 := Lib.hid hE0
  have hn0 : n0 ≤ 33 := by omega
  clear hb hE0
  obtain ⟨⟨f1, f2, f3⟩, hfr⟩ : ∃ F, findR L T = F := ⟨_, rfl⟩
  obtain ⟨q1, hq1⟩ : ∃ q, findQ L T = q := ⟨_, rfl⟩
  obtain ⟨q2, hq2⟩ : ∃ q, addQ L ⟨T, xi, xt⟩ = q := ⟨_, rfl⟩
  obtain ⟨R2, hr2⟩ : ∃ R, addR L ⟨T, xi, xt⟩ = R := ⟨_, rfl⟩
  obtain ⟨R3, hr3⟩ : ∃ R, takeR L T = R := ⟨_, rfl⟩
  have HR2 : Hid (R2.length ≤ 40) := by show _ ≤ _; rw [← hr2]; exact addR_len hfl'
  have HR3 : Hid (R3.length ≤ 40) := by show _ ≤ _; rw [← hr3]; exact takeR_len hfl'
  obtain ⟨Z, hZ⟩ : ∃ Z, str f1 = Z := ⟨_, rfl⟩
  have CF : Hid (∀ w', EtsW w' L (.slice A1 n1 c1) → Below W.heap.size W w' → Calls Try.prog 17 #[.slice A1 n1 c1, .string Y] w' fun e w'' => e = .returned (.tuple #[.agg #[.string Z, .int .i64 f2, .int .i64 f3], .int .i64 q1]) ∧ Below w'.heap.size w' w'') := fun w' hE hb => by
    have h := HF.out.call L T A1 n1 c1 w' hE (by omega) HSH.out HNL.out hb
    rw [hfr, hq1, hY] at h; rw [← hZ]; exact h
  have CF2 : Hid (∀ w', EtsW w' L (.slice A1 n1 c1) → Calls Try.prog 18 #[.slice A1 n1 c1, .string Y] w' fun e w'' => e = .returned (.tuple #[.agg #[.string Z, .int .i64 f2, .int .i64 f3], .int .i64 q1]) ∧ Below w'.heap.size w' w'') := fun w' hE => by
    have h := rFindE T hE (by omega) HSH.out HNL.out
    rw [hfr, hq1, hY] at h; rw [← hZ]; exact h
  have CA : Hid (∀ w', EtsW w' L (.slice A1 n1 c1) → Below W.heap.size W w' → Calls Try.prog 19 #[.slice A1 n1 c1, .agg #[.string Y, .int .i64 xi, .int .i64 xt]] w' fun e w'' => ∃ v, e = .returned (.tuple #[v, .int .i64 q2]) ∧ EtsW w'' R2 v ∧ Below w'.heap.size w' w'') := fun w' hE hb => by
    have h := HA.out.call L ⟨T, xi, xt⟩ A1 n1 c1 w' hE (by omega) HSH.out HXS.out hb
    rw [hq2, hr2] at h; rw [← hY]; exact h
  have CA2 : Hid (∀ w', EtsW w' L (.slice A1 n1 c1) → Calls Try.prog 20 #[.slice A1 n1 c1, .agg #[.string Y, .int .i64 xi, .int .i64 xt]] w' fun e w'' => ∃ v, e = .returned (.tuple #[v, .int .i64 q2]) ∧ EtsW w'' R2 v ∧ Below w'.heap.size w' w'') := fun w' hE => by
    have h := rAddE ⟨T, xi, xt⟩ hE (by omega) HSH.out HXS.out
    rw [hq2, hr2] at h; rw [← hY]; exact h
  have CT : Hid (∀ w', EtsW w' L (.slice A1 n1 c1) → Below W.heap.size W w' → Calls Try.prog 21 #[.slice A1 n1 c1, .string Y] w' fun e w'' => ∃ v, e = .returned (.tuple #[v, .int .i64 q1]) ∧ EtsW w'' R3 v ∧ Below w'.heap.size w' w'') := fun w' hE hb => by
    have h := HT.out.call L T A1 n1 c1 w' hE (by omega) HSH.out HNL.out hb
    rw [hq1, hr3, hY] at h; exact h
  have CT2 : Hid (∀ w', EtsW w' L (.slice A1 n1 c1) → Calls Try.prog 22 #[.slice A1 n1 c1, .string Y] w' fun e w'' => ∃ v, e = .returned (.tuple #[v, .int .i64 q1]) ∧ EtsW w'' R3 v ∧ Below w'.heap.size w' w'') := fun w' hE => by
    have h := rTakeE T hE (by omega) HSH.out HNL.out
    rw [hq1, hr3, hY] at h; exact h
  clear hfr hq1 hq2 hr2 hr3 hY hZ
  obtain ⟨k0, k1, k2, g0, g1, g2⟩ := et_cells KX.out
  go_wp2_with fail
  refine (CF.out _ E1.out HB.out).mono ?_
  rintro e w4 ⟨rfl, hb⟩
  clear k0 k1 k2 g0 g1 g2
  have KX := Lib.hid (KX.out.below hb KX.out.lt)
  have E1 := Lib.hid (E1.out.up hb)
  have E0 := Lib.hid (E0.out.up hb)
  have HB := Lib.hid (HB.out.trans (hb.mono HB.out.size))
  clear hb
  obtain ⟨w5, hw5⟩ : ∃ z, w4.alloc (.cells #[.string Z, .int .i64 f2, .int .i64 f3] 38) = z := ⟨_, rfl⟩
  have KA : Hid (Bk w5 w4.heap.size 38 #[.string Z, .int .i64 f2, .int .i64 f3]) := by rw [← hw5]; exact Bk.new _ _ _
  have hb : Below w4.heap.size w4 w5 := by rw [← hw5]; exact (Below.refl _ _).alloc (Nat.le_refl _) _
  have KX := Lib.hid (KX.out.below hb KX.out.lt)
  have E1 := Lib.hid (E1.out.up hb)
  have E0 := Lib.hid (E0.out.up hb)
  have HB := Lib.hid (HB.out.trans (hb.mono HB.out.size))
  clear hb
  obtain ⟨ga, hga⟩ : ∃ g, w4.heap.size = g := ⟨_, rfl⟩
  rw [hga] at KA
  have HGA := Lib.hid hga
  obtain ⟨k0, k1, k2, g0, g1, g2⟩ := et_cells KX.out
  go_wp2_with fail
  refine (CF2.out _ E1.out).mono ?_
  rintro e w6 ⟨rfl, hb⟩
  clear k0 k1 k2 g0 g1 g2
  have KX := Lib.hid (KX.out.below hb KX.out.lt)
  have E1 := Lib.hid (E1.out.up hb)
  have E0 := Lib.hid (E0.out.up hb)
  have KA := Lib.hid (KA.out.below hb KA.out.lt)
  have HB := Lib.hid (HB.out.trans (hb.mono HB.out.size))
  clear hb
  obtain ⟨w7, hw7⟩ : ∃ z, w6.alloc (.cells #[.string Z, .int .i64 f2, .int .i64 f3] 38) = z := ⟨_, rfl⟩
  have KC : Hid (Bk w7 w6.heap.size 38 #[.string Z, .int .i64 f2, .int .i64 f3]) := by rw [← hw7]; exact Bk.new _ _ _
  have hb : Below w6.heap.size w6 w7 := by rw [← hw7]; exact (Below.refl _ _).alloc (Nat.le_refl _) _
  have KX := Lib.hid (KX.out.below hb KX.out.lt)
  have E1 := Lib.hid (E1.out.up hb)
  have E0 := Lib.hid (E0.out.up hb)
  have KA := Lib.hid (KA.out.below hb KA.out.lt)
  have HB := Lib.hid (HB.out.trans (hb.mono HB.out.size))
  clear hb
  obtain ⟨gc, hgc⟩ : ∃ g, w6.heap.size = g := ⟨_, rfl⟩
  rw [hgc] at KC
  have HGC := Lib.hid hgc
  obtain ⟨k0, k1, k2, g0, g1, g2⟩ := et_cells KX.out
  go_wp2_with fail
  refine (CA.out _ E1.out HB.out).mono ?_
  rintro e w8 ⟨v, rfl, hE, hb⟩
  clear k0 k1 k2 g0 g1 g2
  have KX := Lib.hid (KX.out.below hb KX.out.lt)
  have E1 := Lib.hid (E1.out.up hb)
  have E0 := Lib.hid (E0.out.up hb)
  have KA := Lib.hid (KA.out.below hb KA.out.lt)
  have KC := Lib.hid (KC.out.below hb KC.out.lt)
  have HB := Lib.hid (HB.out.trans (hb.mono HB.out.size))
  obtain ⟨A2, n2, c2, rfl, hn2, -, -, -⟩ := id hE
  have E2 := Lib.hid hE
  have hn2 : n2 ≤ 40 := by rw [← hn2]; exact HR2.out
  clear hb hE
  obtain ⟨k0, k1, k2, g0, g1, g2⟩ := et_cells KX.out
  go_wp2_with fail
  refine (CA2.out _ E1.out).mono ?_
  rintro e w9 ⟨v, rfl, hE, hb⟩
  clear k0 k1 k2 g0 g1 g2
  have KX := Lib.hid (KX.out.below hb KX.out.lt)
  have E1 := Lib.hid (E1.out.up hb)
  have E0 := Lib.hid (E0.out.up hb)
  have KA := Lib.hid (KA.out.below hb KA.out.lt)
  have KC := Lib.hid (KC.out.below hb KC.out.lt)
  have E2 := Lib.hid (E2.out.up hb)
  have HB := Lib.hid (HB.out.trans (hb.mono HB.out.size))
  obtain ⟨A3, n3, c3, rfl, hn3, -, -, -⟩ := id hE
  have E3 := Lib.hid hE
  have hn3 : n3 ≤ 40 := by rw [← hn3]; exact HR2.out
  clear hb hE
  obtain ⟨k0, k1, k2, g0, g1, g2⟩ := et_cells KX.out
  go_wp2_with fail
  refine (CT.out _ E1.out HB.out).mono ?_
  rintro e w10 ⟨v, rfl, hE, hb⟩
  clear k0 k1 k2 g0 g1 g2
  have KX := Lib.hid (KX.out.below hb KX.out.lt)
  have E1 := Lib.hid (E1.out.up hb)
  have E0 := Lib.hid (E0.out.up hb)
  have KA := Lib.hid (KA.out.below hb KA.out.lt)
  have KC := Lib.hid (KC.out.below hb KC.out.lt)
  have E2 := Lib.hid (E2.out.up hb)
  have E3 := Lib.hid (E3.out.up hb)
  have HB := Lib.hid (HB.out.trans (hb.mono HB.out.size))
  obtain ⟨A4, n4, c4, rfl, hn4, -, -, -⟩ := id hE
  have E4 := Lib.hid hE
  have hn4 : n4 ≤ 40 := by rw [← hn4]; exact HR3.out
  clear hb hE
  obtain ⟨k0, k1, k2, g0, g1, g2⟩ := et_cells KX.out
  go_wp2_with fail
  refine (CT2.out _ E1.out).mono ?_
  rintro e w11 ⟨v, rfl, hE, hb⟩
  clear k0 k1 k2 g0 g1 g2
  have KX := Lib.hid (KX.out.below hb KX.out.lt)
  have E1 := Lib.hid (E1.out.up hb)
  have E0 := Lib.hid (E0.out.up hb)
  have KA := Lib.hid (KA.out.below hb KA.out.lt)
  have KC := Lib.hid (KC.out.below hb KC.out.lt)
  have E2 := Lib.hid (E2.out.up hb)
  have E3 := Lib.hid (E3.out.up hb)
  have E4 := Lib.hid (E4.out.up hb)
  have HB := Lib.hid (HB.out.trans (hb.mono HB.out.size))
  obtain ⟨A5, n5, c5, rfl, hn5, -, -, -⟩ := id hE
  have E5 := Lib.hid hE
  have hn5 : n5 ≤ 40 := by rw [← hn5]; exact HR3.out
  clear hb hE
  obtain ⟨k0, k1, k2, -⟩ := et_cells KA.out
  obtain ⟨m0, m1, m2, -⟩ := et_cells KC.out
  go_wp2_with fail
  refine (rSameE E2.out E3.out (by omega) (by omega) true ⟨fun _ => rfl, fun _ => rfl⟩).mono ?_
  rintro e w12 ⟨rfl, hb⟩
  have KX := Lib.hid (KX.out.below hb KX.out.lt)
  have E1 := Lib.hid (E1.out.up hb)
  have E0 := Lib.hid (E0.out.up hb)
  have KA := Lib.hid (KA.out.below hb KA.out.lt)
  have KC := Lib.hid (KC.out.below hb KC.out.lt)
  have E2 := Lib.hid (E2.out.up hb)
  have E3 := Lib.hid (E3.out.up hb)
  have E4 := Lib.hid (E4.out.up hb)
  have E5 := Lib.hid (E5.out.up hb)
  have HB := Lib.hid (HB.out.trans (hb.mono HB.out.size))
  clear hb
  clear k0 k1 k2 m0 m1 m2
  go_wp2_with fail
  refine (rSameE E4.out E5.out (by omega) (by omega) true ⟨fun _ => rfl, fun _ => rfl⟩).mono ?_
  rintro e w13 ⟨rfl, hb⟩
  have KX := Lib.hid (KX.out.below hb KX.out.lt)
  have E1 := Lib.hid (E1.out.up hb)
  have E0 := Lib.hid (E0.out.up hb)
  have KA := Lib.hid (KA.out.below hb KA.out.lt)
  have KC := Lib.hid (KC.out.below hb KC.out.lt)
  have E2 := Lib.hid (E2.out.up hb)
  have E3 := Lib.hid (E3.out.up hb)
  have E4 := Lib.hid (E4.out.up hb)
  have E5 := Lib.hid (E5.out.up hb)
  have HB := Lib.hid (HB.out.trans (hb.mono HB.out.size))
  clear hb
  go_wp2_with fail
  refine (rSameE E1.out E0.out (by omega) (by omega) true ⟨fun _ => rfl, fun _ => rfl⟩).mono ?_
  rintro e w14 ⟨rfl, hb⟩
  have KX := Lib.hid (KX.out.below hb KX.out.lt)
  have E1 := Lib.hid (E1.out.up hb)
  have E0 := Lib.hid (E0.out.up hb)
  have KA := Lib.hid (KA.out.below hb KA.out.lt)
  have KC := Lib.hid (KC.out.below hb KC.out.lt)
  have E2 := Lib.hid (E2.out.up hb)
  have E3 := Lib.hid (E3.out.up hb)
  have E4 := Lib.hid (E4.out.up hb)
  have E5 := Lib.hid (E5.out.up hb)
  have HB := Lib.hid (HB.out.trans (hb.mono HB.out.size))
  clear hb
  go_wp2_with fail
  refine (HAW.out.call _ HB.out).mono ?_
  rintro e w15 ⟨rfl, hb⟩
  have KX := Lib.hid (KX.out.below hb KX.out.lt)
  have E1 := Lib.hid (E1.out.up hb)
  have E0 := Lib.hid (E0.out.up hb)
  have KA := Lib.hid (KA.out.below hb KA.out.lt)
  have KC := Lib.hid (KC.out.below hb KC.out.lt)
  have E2 := Lib.hid (E2.out.up hb)
  have E3 := Lib.hid (E3.out.up hb)
  have E4 := Lib.hid (E4.out.up hb)
  have E5 := Lib.hid (E5.out.up hb)
  have HB := Lib.hid (HB.out.trans (hb.mono HB.out.size))
  clear hb
  go_wp2
  go_ret
  exact ⟨rfl, HB.out⟩
end Go.Proofs.Ytgboccepgbeihaa
