/-
  EntryBack: the walk, from the properties. (Printed by wip/tools/entlaw3.py.)
-/
import Derived.Test.YtgboccepgbeihaaEntLaw2
import Derived.BigQuiet
namespace Go.Proofs.Ytgboccepgbeihaa
open Go.RowKit
set_option maxRecDepth 100000
set_option linter.unusedVariables false

set_option maxHeartbeats 8000000 in
theorem entryBack_walk (W : World) (HM : MayEC W) (HC : EncEC W) (HF : FindEC W) (HA : AddEC W) (HT : TakeEC W) (A : Option Addr) (n c : Nat) (l : List Et) (x : Et)
    (hl : l.length = n) (hnc : n ≤ c) (hcm : c ≤ maxLen) (hr : Rd W W.heap.size A (etsV l)) (hs : ∀ x ∈ l, inE x) (hx : inE x) :
    Calls Try.prog 5 #[.slice A n c, etG x] W fun e w' => e = .returned (.bool true) ∧ Below W.heap.size W w' := by
  have HAW := Lib.hid (awakeE_any HC HA HT)
  have HM := Lib.hid HM
  have HF := Lib.hid HF
  have HA := Lib.hid HA
  have HT := Lib.hid HT
  obtain ⟨nm, xi, xt⟩ := x
  show Calls _ _ #[.slice A n c, .agg #[.string (str nm), .int .i64 xi, .int .i64 xt]] _ _
  have HSH := Lib.hid (fewE_short hs)
  have hfl := fewE_len l
  have HXS : Hid (shortE ⟨nm.take 60, xi, xt⟩) := few1_short hx
  have HNL : Hid ((nm.take 60).length ≤ 1000) := HXS.out.1
  have HFX := Lib.hid fun w' => few10_any nm w' hx.1
  obtain ⟨X, hX⟩ : ∃ X, str nm = X := ⟨_, rfl⟩
  rw [hX] at HFX ⊢
  have HFW := Lib.hid (fewLoop_own W.heap.size A n c l (W.alloc (.cells #[.string X, .int .i64 xi, .int .i64 xt] 38)) hl hnc hcm (hr.alloc (Nat.le_refl _) _) (by simp) hs)
  have KX := Lib.hid (Bk.new W 38 #[.string X, .int .i64 xi, .int .i64 xt])
  have HB := Lib.hid ((Below.refl W.heap.size W).alloc (Nat.le_refl _) (.cells #[.string X, .int .i64 xi, .int .i64 xt] 38))
  obtain ⟨L, hL⟩ : ∃ L, fewE l = L := ⟨_, rfl⟩
  rw [hL] at HFW HSH hfl
  obtain ⟨T, hT⟩ : ∃ T, nm.take 60 = T := ⟨_, rfl⟩
  rw [hT] at HXS HNL HFX
  clear hl hnc hcm hr hs hx hX hL hT
  go_enter Try.func5, Try.ntmps5
  go_wp2_with fail
  refine HFW.out.mono ?_
  rintro e w1 ⟨v1, n1, rfl, hown, hb⟩
  obtain ⟨A1, c1, rfl, hc1, hm1⟩ := own_len hown
  have hn1 : n1 ≤ 33 := by have := hown.1; rw [etsV_length] at this; omega
  have KX := Lib.hid (KX.out.below hb KX.out.lt)
  have HB := Lib.hid (HB.out.trans (hb.mono HB.out.size))
  have HOWN := Lib.hid hown
  obtain ⟨c0, c1', c2', f0, f1, f2⟩ := et_cells KX.out
  clear hb hown HFW hc1 hm1
  go_wp2_with fail
  refine (HFX.out _).mono ?_
  rintro e w2 ⟨rfl, rfl⟩
  have HBg : Hid (W.heap.size < w1.heap.size) := KX.out.lt
  obtain ⟨Y, hY⟩ : ∃ Y, str T = Y := ⟨_, rfl⟩
  rw [hY]
  obtain ⟨w2, hw2⟩ : ∃ w2, w1.setCell ⟨W.heap.size, 0, none⟩ (.string Y) = w2 := ⟨_, rfl⟩
  have HOWN := Lib.hid (own_farE HOWN.out (p := ⟨W.heap.size, 0, none⟩) (by simp) (.string Y))
  have KX : Hid (Bk (w1.setCell ⟨W.heap.size, 0, none⟩ (.string Y)) W.heap.size 38 #[.string Y, .int .i64 xi, .int .i64 xt]) := KX.out.set_ 0 (.string Y)
  have HB := Lib.hid (HB.out.setCell (p := ⟨W.heap.size, 0, none⟩) (Nat.le_refl _) (.string Y))
  rw [hw2] at HOWN KX HB
  have E1 := Lib.hid (EtsW.own HOWN.out)
  have HYT : Hid (str T = Y) := hY
  clear hY
  obtain ⟨q2, hq2⟩ : ∃ q, addQ L ⟨T, xi, xt⟩ = q := ⟨_, rfl⟩
  obtain ⟨R2, hr2⟩ : ∃ R, addR L ⟨T, xi, xt⟩ = R := ⟨_, rfl⟩
  obtain ⟨q3, hq3⟩ : ∃ q, findQ L T = q := ⟨_, rfl⟩
  obtain ⟨R3, hr3⟩ : ∃ R, takeR L T = R := ⟨_, rfl⟩
  have HQ3 : Hid ((q3 = 0 ∧ mayE R3 = true ∧ R3.length + 1 = L.length ∧ findQ R3 T = 6) ∨ q3 ≠ 0) := by
    by_cases h : q3 = 0
    · have e : R3 = cutE L T := by rw [← hr3, takeR, hq3, if_pos h]
      rw [e]
      exact .inl ⟨h, taken (hq3.trans h)⟩
    · exact .inr h
  have HS3 : Hid (∀ x ∈ R3, shortE x) := fun x hx => by
    rw [← hr3, takeR] at hx
    split at hx
    · exact HSH.out x (List.mem_filter.1 hx).1
    · cases hx
  have HQ2 : Hid ((q2 = 0 ∧ addQ L ⟨T, xi, xt⟩ = 0 ∧ R2 = putE L ⟨T, xi, xt⟩) ∨ q2 ≠ 0) := by
    by_cases h : q2 = 0
    · exact .inl ⟨h, hq2.trans h, by rw [← hr2, addR, if_pos (hq2.trans h)]⟩
    · exact .inr h
  have CA : Hid (∀ w', EtsW w' L (.slice A1 n1 c1) → Below W.heap.size W w' → Calls Try.prog 19 #[.slice A1 n1 c1, .agg #[.string Y, .int .i64 xi, .int .i64 xt]] w' fun e w'' => ∃ v, e = .returned (.tuple #[v, .int .i64 q2]) ∧ EtsW w'' R2 v ∧ Below w'.heap.size w' w'') := fun w' hE hb => by
    have h := HA.out.call L ⟨T, xi, xt⟩ A1 n1 c1 w' hE (by omega) HSH.out HXS.out hb
    rw [hq2, hr2] at h; rw [← HYT.out]; exact h
  have CT : Hid (∀ w', EtsW w' L (.slice A1 n1 c1) → Below W.heap.size W w' → Calls Try.prog 21 #[.slice A1 n1 c1, .string Y] w' fun e w'' => ∃ v, e = .returned (.tuple #[v, .int .i64 q3]) ∧ EtsW w'' R3 v ∧ Below w'.heap.size w' w'') := fun w' hE hb => by
    have h := HT.out.call L T A1 n1 c1 w' hE (by omega) HSH.out HNL.out hb
    rw [hq3, hr3, HYT.out] at h; exact h
  clear hq2 hr2 hq3 hr3
  obtain ⟨k0, k1, k2, g0, g1, g2⟩ := et_cells KX.out
  go_wp2_with fail
  refine (CA.out _ E1.out HB.out).mono ?_
  rintro e w4 ⟨v, rfl, hE, hb⟩
  clear k0 k1 k2 g0 g1 g2
  have KX := Lib.hid (KX.out.below hb KX.out.lt)
  have E1 := Lib.hid (E1.out.up hb)
  have HB := Lib.hid (HB.out.trans (hb.mono HB.out.size))
  clear hw2 c0 c1' c2' f0 f1 f2 HOWN HBg
  rcases HQ2.out with ⟨rfl, ha, rfl⟩ | hq20
  · obtain ⟨A2, n2, c2, rfl, hn2, -, -, -⟩ := id hE
    have E2 := Lib.hid hE
    obtain ⟨a1, a2, a3, a4⟩ := find_added ha
    obtain ⟨a5, a6⟩ := addR_may ha
    have hl2 : (n1 : Int) + 1 = (n2 : Int) := by have := E1.out.parts.1; omega
    have hn2s : n2 ≤ 40 := by have := E1.out.parts.1; omega
    have HS2 : Hid (∀ y ∈ putE L ⟨T, xi, xt⟩, shortE y) := fun y hy => by
      rcases (putE_mem (addQ_zero.1 ha).2.2.1).1 hy with rfl | hy
      · exact HXS.out
      · exact HSH.out y hy
    have HMM := Lib.hid a5
    have HZ := Lib.hid a3
    have CF : Hid (∀ w', EtsW w' (putE L ⟨T, xi, xt⟩) (.slice A2 n2 c2) → Below W.heap.size W w' → Calls Try.prog 17 #[.slice A2 n2 c2, .string Y] w' fun e w'' => e = .returned (.tuple #[.agg #[.string Y, .int .i64 xi, .int .i64 xt], .int .i64 0]) ∧ Below w'.heap.size w' w'') := fun w' hE hb => by
      have h := HF.out.call (putE L ⟨T, xi, xt⟩) T A2 n2 c2 w' hE (by omega) HS2.out HNL.out hb
      rw [a1, a2, HYT.out] at h; rw [← HYT.out] at h ⊢; exact h
    have CT2 : Hid (∀ w', EtsW w' (putE L ⟨T, xi, xt⟩) (.slice A2 n2 c2) → Below W.heap.size W w' → Calls Try.prog 21 #[.slice A2 n2 c2, .string Y] w' fun e w'' => ∃ v, e = .returned (.tuple #[v, .int .i64 0]) ∧ EtsW w'' L v ∧ Below w'.heap.size w' w'') := fun w' hE hb => by
      have h := HT.out.call (putE L ⟨T, xi, xt⟩) T A2 n2 c2 w' hE (by omega) HS2.out HNL.out hb
      rw [takeR, a1, if_pos rfl, a4, HYT.out] at h; exact h
    obtain ⟨M, hM⟩ : ∃ M, putE L ⟨T, xi, xt⟩ = M := ⟨_, rfl⟩
    rw [hM] at E2 HS2 HMM HZ CF CT2
    clear hb hE hn2 a1 a2 a3 a4 a5 a6 ha hM CA HQ2
    obtain ⟨k0, k1, k2, g0, g1, g2⟩ := et_cells KX.out
    go_wp2_with fail
    refine (CF.out _ E2.out HB.out).mono ?_
    rintro e w5 ⟨rfl, hb⟩
    clear k0 k1 k2 g0 g1 g2
    have KX := Lib.hid (KX.out.below hb KX.out.lt)
    have E1 := Lib.hid (E1.out.up hb)
    have E2 := Lib.hid (E2.out.up hb)
    have HB := Lib.hid (HB.out.trans (hb.mono HB.out.size))
    clear hb
    obtain ⟨w6, hw6⟩ : ∃ z, w5.alloc (.cells #[.string Y, .int .i64 xi, .int .i64 xt] 38) = z := ⟨_, rfl⟩
    have KA : Hid (Bk w6 w5.heap.size 38 #[.string Y, .int .i64 xi, .int .i64 xt]) := by rw [← hw6]; exact Bk.new _ _ _
    have hb : Below w5.heap.size w5 w6 := by rw [← hw6]; exact (Below.refl _ _).alloc (Nat.le_refl _) _
    have KX := Lib.hid (KX.out.below hb KX.out.lt)
    have E1 := Lib.hid (E1.out.up hb)
    have E2 := Lib.hid (E2.out.up hb)
    have HB := Lib.hid (HB.out.trans (hb.mono HB.out.size))
    clear hb
    obtain ⟨ga, hga⟩ : ∃ g, w5.heap.size = g := ⟨_, rfl⟩
    rw [hga] at KA
    have HGA := Lib.hid hga
    obtain ⟨k0, k1, k2, g0, g1, g2⟩ := et_cells KX.out
    go_wp2_with fail
    refine (CT2.out _ E2.out HB.out).mono ?_
    rintro e w7 ⟨v, rfl, hE, hb⟩
    clear k0 k1 k2 g0 g1 g2
    have KX := Lib.hid (KX.out.below hb KX.out.lt)
    have E1 := Lib.hid (E1.out.up hb)
    have E2 := Lib.hid (E2.out.up hb)
    have KA := Lib.hid (KA.out.below hb KA.out.lt)
    have HB := Lib.hid (HB.out.trans (hb.mono HB.out.size))
    obtain ⟨A3, n3, c3, rfl, hn3, -, -, -⟩ := id hE
    have E3 := Lib.hid hE
    have hn3s : n3 ≤ 40 := by omega
    clear hb hE hn3
    obtain ⟨k0, k1, k2, -⟩ := et_cells KX.out
    obtain ⟨m0, m1, m2, -⟩ := et_cells KA.out
    go_wp2_with fail
    refine (rSameE E3.out E1.out (by omega) (by omega) true ⟨fun _ => rfl, fun _ => rfl⟩).mono ?_
    rintro e w8 ⟨rfl, hb⟩
    have KX := Lib.hid (KX.out.below hb KX.out.lt)
    have E1 := Lib.hid (E1.out.up hb)
    have E2 := Lib.hid (E2.out.up hb)
    have KA := Lib.hid (KA.out.below hb KA.out.lt)
    have E3 := Lib.hid (E3.out.up hb)
    have HB := Lib.hid (HB.out.trans (hb.mono HB.out.size))
    clear hb
    clear k0 k1 k2 m0 m1 m2
    go_wp2_with fail
    refine (HM.out.call M A2 n2 c2 _ E2.out (by omega) HS2.out HB.out).mono ?_
    rintro e w9 ⟨rfl, hb⟩
    have KX := Lib.hid (KX.out.below hb KX.out.lt)
    have E1 := Lib.hid (E1.out.up hb)
    have E2 := Lib.hid (E2.out.up hb)
    have KA := Lib.hid (KA.out.below hb KA.out.lt)
    have E3 := Lib.hid (E3.out.up hb)
    have HB := Lib.hid (HB.out.trans (hb.mono HB.out.size))
    clear hb
    rw [HMM.out]
    go_wp2
    go_loopw [11] (fun i wr => ∃ k : Nat, k ≤ n1 ∧ i = .int .i64 (k : Int) ∧ Hid (Bk wr W.heap.size 38 #[.string Y, .int .i64 xi, .int .i64 xt]) ∧ Hid (EtsW wr L (.slice A1 n1 c1)) ∧ Hid (EtsW wr M (.slice A2 n2 c2)) ∧ Hid (Below W.heap.size W wr)) (fun i _ => n1 - (intOf i).toNat)
    case atStart => exact ⟨0, Nat.zero_le _, rfl, KX, E1, E2, HB⟩
    case round =>
      clear KX E1 E2 HB KA E3 HGA
      obtain ⟨k, hk, rfl, KX, E1, E2, HB⟩ := hrel
      by_cases hlt : k < n1
      · obtain ⟨y, hy⟩ : ∃ y, L[k]? = some y := ⟨_, List.getElem?_eq_getElem (by rw [E1.out.parts.1]; exact hlt)⟩
        have HRL := Lib.hid E1.out.parts.2.2.2
        obtain ⟨b, o, rfl, -, -⟩ := HRL.out.plain (by rw [etsV_length, E1.out.parts.1]; omega)
        obtain ⟨c0, c1', c2'⟩ := ets_at HRL.out hy
        obtain ⟨z1, z2⟩ := HZ.out y (List.mem_of_getElem? hy)
        have hys := HSH.out y (List.mem_of_getElem? hy)
        have HYG := Lib.hid hy
        obtain ⟨nm2, q, t⟩ := y
        simp only at c0 c1' c2' z1 z2 hys
        have CG : Hid (Calls Try.prog 17 #[.slice A2 n2 c2, .string (str nm2)] wr fun e w'' => e = .returned (.tuple #[.agg #[.string (str nm2), .int .i64 q, .int .i64 t], .int .i64 0]) ∧ Below wr.heap.size wr w'') := by
          have h := HF.out.call M nm2 A2 n2 c2 wr E2.out (by omega) HS2.out hys.1 HB.out
          rw [z1, z2] at h; exact h
        obtain ⟨V, hV⟩ : ∃ V, str nm2 = V := ⟨_, rfl⟩
        have HVT := Lib.hid hV
        rw [hV] at CG c0
        clear hy z1 z2 hys hV
        go_wp2_with fail
        refine CG.out.mono ?_
        rintro e w10 ⟨rfl, hb⟩
        have KX := Lib.hid (KX.out.below hb KX.out.lt)
        have E1 := Lib.hid (E1.out.up hb)
        have E2 := Lib.hid (E2.out.up hb)
        have HB := Lib.hid (HB.out.trans (hb.mono HB.out.size))
        clear hb c0 c1' c2' HRL
        obtain ⟨w11, hw11⟩ : ∃ z, w10.alloc (.cells #[.string V, .int .i64 q, .int .i64 t] 38) = z := ⟨_, rfl⟩
        have KZ : Hid (Bk w11 w10.heap.size 38 #[.string V, .int .i64 q, .int .i64 t]) := by rw [← hw11]; exact Bk.new _ _ _
        have hb : Below w10.heap.size w10 w11 := by rw [← hw11]; exact (Below.refl _ _).alloc (Nat.le_refl _) _
        have KX := Lib.hid (KX.out.below hb KX.out.lt)
        have E1 := Lib.hid (E1.out.up hb)
        have E2 := Lib.hid (E2.out.up hb)
        have HB := Lib.hid (HB.out.trans (hb.mono HB.out.size))
        clear hb
        obtain ⟨gz, hgz⟩ : ∃ g, w10.heap.size = g := ⟨_, rfl⟩
        rw [hgz] at KZ
        have HGZ := Lib.hid hgz
        obtain ⟨c0, c1', c2'⟩ := ets_at E1.out.parts.2.2.2 HYG.out
        simp only [HVT.out] at c0 c1' c2'
        obtain ⟨m0, m1, m2, -⟩ := et_cells KZ.out
        go_wp2
        go_quiet (fail)
        go_wp2
        go_roundw
        case rel => exact ⟨k + 1, by omega, by go_num, KX, E1, E2, HB.out.drewN' _⟩
        case measure => simp [intOf]; omega
      · have hkn : n1 = k := by omega
        subst hkn
        obtain ⟨k0, k1, k2, g0, g1, g2⟩ := et_cells KX.out
        go_wp2_with fail
        refine (CT.out _ E1.out HB.out).mono ?_
        rintro e x1 ⟨v, rfl, hE, hb⟩
        clear k0 k1 k2 g0 g1 g2
        have KX := Lib.hid (KX.out.below hb KX.out.lt)
        have E1 := Lib.hid (E1.out.up hb)
        have HB := Lib.hid (HB.out.trans (hb.mono HB.out.size))
        rcases HQ3.out with ⟨rfl, hR3⟩ | hq30
        · obtain ⟨t1, t2, t3⟩ := hR3
          obtain ⟨A5, n5, c5, rfl, hn5, -, -, -⟩ := id hE
          have E5 := Lib.hid hE
          have hln : (n1 : Int) - 1 = (n5 : Int) := by have := E1.out.parts.1; omega
          have hn5 : n5 ≤ 40 := by have := E1.out.parts.1; omega
          have HT1 := Lib.hid t1
          have HT3 := Lib.hid t3
          clear hb hE t1 t2 t3
          have CG : Hid (∀ w', EtsW w' R3 (.slice A5 n5 c5) → Below W.heap.size W w' → Calls Try.prog 17 #[.slice A5 n5 c5, .string Y] w' fun e w'' => e = .returned (.tuple #[.agg #[.string ByteArray.empty, .int .i64 0, .int .i64 0], .int .i64 6]) ∧ Below w'.heap.size w' w'') := fun w' hE hb => by
            have h := HF.out.call R3 T A5 n5 c5 w' hE (by omega) HS3.out HNL.out hb
            rw [findR, HT3.out, if_neg (by decide), HYT.out] at h; exact h
          obtain ⟨k0, k1, k2, g0, g1, g2⟩ := et_cells KX.out
          go_wp2_with fail
          refine (CG.out _ E5.out HB.out).mono ?_
          rintro e x2 ⟨rfl, hb⟩
          clear k0 k1 k2 g0 g1 g2
          have KX := Lib.hid (KX.out.below hb KX.out.lt)
          have E1 := Lib.hid (E1.out.up hb)
          have E5 := Lib.hid (E5.out.up hb)
          have HB := Lib.hid (HB.out.trans (hb.mono HB.out.size))
          clear hb
          obtain ⟨x3a, hx3a⟩ : ∃ z, x2.alloc (.cells #[.string ByteArray.empty, .int .i64 0, .int .i64 0] 38) = z := ⟨_, rfl⟩
          have hk5 : Bk x3a x2.heap.size 38 #[.string ByteArray.empty, .int .i64 0, .int .i64 0] := by rw [← hx3a]; exact Bk.new _ _ _
          obtain ⟨k0, k1, k2, g0, g1, g2⟩ := et_cells hk5
          obtain ⟨x3, hx3⟩ : ∃ z, (x3a.setCell ⟨x2.heap.size, 1, none⟩ (.int .i64 0)).setCell ⟨x2.heap.size, 2, none⟩ (.int .i64 0) = z := ⟨_, rfl⟩
          have hb : Below x2.heap.size x2 x3 := by rw [← hx3, ← hx3a]; exact (((Below.refl _ _).alloc (Nat.le_refl _) _).setCell (p := ⟨x2.heap.size, 1, none⟩) (Nat.le_refl _) _).setCell (p := ⟨x2.heap.size, 2, none⟩) (Nat.le_refl _) _
          have KX := Lib.hid (KX.out.below hb KX.out.lt)
          have E1 := Lib.hid (E1.out.up hb)
          have E5 := Lib.hid (E5.out.up hb)
          have HB := Lib.hid (HB.out.trans (hb.mono HB.out.size))
          clear hb hk5
          go_wp2_with fail
          refine (HM.out.call R3 A5 n5 c5 _ E5.out (by omega) HS3.out HB.out).mono ?_
          rintro e x4 ⟨rfl, hb⟩
          have KX := Lib.hid (KX.out.below hb KX.out.lt)
          have E1 := Lib.hid (E1.out.up hb)
          have E5 := Lib.hid (E5.out.up hb)
          have HB := Lib.hid (HB.out.trans (hb.mono HB.out.size))
          clear hb
          rw [HT1.out]
          go_wp2_with fail
          refine (HAW.out.call _ HB.out).mono ?_
          rintro e x5 ⟨rfl, hb⟩
          have KX := Lib.hid (KX.out.below hb KX.out.lt)
          have E1 := Lib.hid (E1.out.up hb)
          have E5 := Lib.hid (E5.out.up hb)
          have HB := Lib.hid (HB.out.trans (hb.mono HB.out.size))
          clear hb
          go_wp2
          go_ret
          exact ⟨rfl, HB.out⟩
        · have hq3n : (q3 == 0) = false := beq_false_of_ne hq30
          clear hb hE hq30
          go_wp2_with fail
          refine (HAW.out.call _ HB.out).mono ?_
          rintro e x5 ⟨rfl, hb⟩
          have KX := Lib.hid (KX.out.below hb KX.out.lt)
          have E1 := Lib.hid (E1.out.up hb)
          have HB := Lib.hid (HB.out.trans (hb.mono HB.out.size))
          clear hb
          go_wp2
          go_ret
          exact ⟨rfl, HB.out⟩
  · have hq2n : (q2 == 0) = false := beq_false_of_ne hq20
    clear hb hE hq20 CA HQ2
    obtain ⟨k0, k1, k2, g0, g1, g2⟩ := et_cells KX.out
    go_wp2_with fail
    refine (CT.out _ E1.out HB.out).mono ?_
    rintro e y1 ⟨v, rfl, hE, hb⟩
    clear k0 k1 k2 g0 g1 g2
    have KX := Lib.hid (KX.out.below hb KX.out.lt)
    have E1 := Lib.hid (E1.out.up hb)
    have HB := Lib.hid (HB.out.trans (hb.mono HB.out.size))
    rcases HQ3.out with ⟨rfl, hR3⟩ | hq30
    · obtain ⟨t1, t2, t3⟩ := hR3
      obtain ⟨A5, n5, c5, rfl, hn5, -, -, -⟩ := id hE
      have E5 := Lib.hid hE
      have hln : (n1 : Int) - 1 = (n5 : Int) := by have := E1.out.parts.1; omega
      have hn5 : n5 ≤ 40 := by have := E1.out.parts.1; omega
      have HT1 := Lib.hid t1
      have HT3 := Lib.hid t3
      clear hb hE t1 t2 t3
      have CG : Hid (∀ w', EtsW w' R3 (.slice A5 n5 c5) → Below W.heap.size W w' → Calls Try.prog 17 #[.slice A5 n5 c5, .string Y] w' fun e w'' => e = .returned (.tuple #[.agg #[.string ByteArray.empty, .int .i64 0, .int .i64 0], .int .i64 6]) ∧ Below w'.heap.size w' w'') := fun w' hE hb => by
        have h := HF.out.call R3 T A5 n5 c5 w' hE (by omega) HS3.out HNL.out hb
        rw [findR, HT3.out, if_neg (by decide), HYT.out] at h; exact h
      obtain ⟨k0, k1, k2, g0, g1, g2⟩ := et_cells KX.out
      go_wp2_with fail
      refine (CG.out _ E5.out HB.out).mono ?_
      rintro e y2 ⟨rfl, hb⟩
      clear k0 k1 k2 g0 g1 g2
      have KX := Lib.hid (KX.out.below hb KX.out.lt)
      have E1 := Lib.hid (E1.out.up hb)
      have E5 := Lib.hid (E5.out.up hb)
      have HB := Lib.hid (HB.out.trans (hb.mono HB.out.size))
      clear hb
      obtain ⟨y3a, hy3a⟩ : ∃ z, y2.alloc (.cells #[.string ByteArray.empty, .int .i64 0, .int .i64 0] 38) = z := ⟨_, rfl⟩
      have hk5 : Bk y3a y2.heap.size 38 #[.string ByteArray.empty, .int .i64 0, .int .i64 0] := by rw [← hy3a]; exact Bk.new _ _ _
      obtain ⟨k0, k1, k2, g0, g1, g2⟩ := et_cells hk5
      obtain ⟨y3, hy3⟩ : ∃ z, (y3a.setCell ⟨y2.heap.size, 1, none⟩ (.int .i64 0)).setCell ⟨y2.heap.size, 2, none⟩ (.int .i64 0) = z := ⟨_, rfl⟩
      have hb : Below y2.heap.size y2 y3 := by rw [← hy3, ← hy3a]; exact (((Below.refl _ _).alloc (Nat.le_refl _) _).setCell (p := ⟨y2.heap.size, 1, none⟩) (Nat.le_refl _) _).setCell (p := ⟨y2.heap.size, 2, none⟩) (Nat.le_refl _) _
      have KX := Lib.hid (KX.out.below hb KX.out.lt)
      have E1 := Lib.hid (E1.out.up hb)
      have E5 := Lib.hid (E5.out.up hb)
      have HB := Lib.hid (HB.out.trans (hb.mono HB.out.size))
      clear hb hk5
      go_wp2_with fail
      refine (HM.out.call R3 A5 n5 c5 _ E5.out (by omega) HS3.out HB.out).mono ?_
      rintro e y4 ⟨rfl, hb⟩
      have KX := Lib.hid (KX.out.below hb KX.out.lt)
      have E1 := Lib.hid (E1.out.up hb)
      have E5 := Lib.hid (E5.out.up hb)
      have HB := Lib.hid (HB.out.trans (hb.mono HB.out.size))
      clear hb
      rw [HT1.out]
      go_wp2_with fail
      refine (HAW.out.call _ HB.out).mono ?_
      rintro e y5 ⟨rfl, hb⟩
      have KX := Lib.hid (KX.out.below hb KX.out.lt)
      have E1 := Lib.hid (E1.out.up hb)
      have E5 := Lib.hid (E5.out.up hb)
      have HB := Lib.hid (HB.out.trans (hb.mono HB.out.size))
      clear hb
      go_wp2
      go_ret
      exact ⟨rfl, HB.out⟩
    · have hq3n : (q3 == 0) = false := beq_false_of_ne hq30
      clear hb hE hq30
      go_wp2_with fail
      refine (HAW.out.call _ HB.out).mono ?_
      rintro e y5 ⟨rfl, hb⟩
      have KX := Lib.hid (KX.out.below hb KX.out.lt)
      have E1 := Lib.hid (E1.out.up hb)
      have HB := Lib.hid (HB.out.trans (hb.mono HB.out.size))
      clear hb
      go_wp2
      go_ret
      exact ⟨rfl, HB.out⟩
end Go.Proofs.Ytgboccepgbeihaa
