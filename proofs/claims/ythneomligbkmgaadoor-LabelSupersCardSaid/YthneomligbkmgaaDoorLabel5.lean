/-
  What label.read, ReadSuper and ReadLabel do.
-/
import Derived.Test.YthneomligbkmgaaDoorLabel4
import Derived.BigQuiet
namespace Go.Proofs.YthneomligbkmgaaDoor
open Go.RowKit
set_option linter.unusedVariables false

theorem Unpack_new (B : Nat) (A A' : Option Addr) (n c n' c' : Nat) (bs : List UInt8) (ws : List Int) (w : World) (hl : bs.length = n) (hl' : ws.length = n') (h0 : unpCode ws n = 0) (hr : Rd w B A (bs.map bv)) (hr' : Rd w B A' (ws.map iv)) (hB : B ≤ w.heap.size) (hc : n ≤ c) (hcm : c ≤ maxLen) (hn : n' ≤ 4096) :
    Calls Tryd.prog 33 #[.slice A n c, .slice A' n' c'] w fun e w' => ∃ A' c', e = .returned (.tuple #[.slice A' n' c', .int .i64 0]) ∧ n' ≤ c' ∧ c' ≤ maxLen ∧ Rd w' w'.heap.size A' ((nums bs ws).map uv) ∧ (∀ ad, A' = some ad → w.heap.size ≤ ad.block) ∧ Below w.heap.size w w' := by
  subst hl hl'
  refine (Unpack_any B A A' c c' bs ws w hr hr' hB hc hcm hn).mono ?_
  rintro e w' ⟨r, rfl, hok, _, hb⟩
  have hown := hok h0
  obtain ⟨A', c', rfl, h1, h2⟩ := own_len hown
  refine ⟨A', c', by rw [h0], h1, h2, Rd.own hown, fun ad e => ?_, hb⟩
  subst e
  rcases hown.2 with ⟨hv, _⟩ | ⟨g, cap, cur, hv, hg, _⟩
  · cases hv
  · cases hv
    exact hg

set_option maxHeartbeats 1000000 in
theorem read_super (B g : Nat) (A Aw : Option Addr) (n c cw : Nat) (bs : List UInt8) (q : Int) (a0 a1 a2 a3 : Value) (w : World) (hl : bs.length = n) (hr : Rd w g A (bs.map bv)) (hc : n ≤ c) (hcm : c ≤ maxLen) (hrw : Rd w w.heap.size Aw (superW.map iv)) (hk : Bk w g 23 #[a0, a1, a2, a3]) (hq : superQ bs = q) (hT : Tab w) (hg : 0 < g) :
    Calls Tryd.prog 22 #[.slice A n c, .func (.func 23) #[] #[.pointer (some ⟨g, 0, none⟩)], .slice Aw 5 cw] w fun e w' => e = .returned (.int .i64 q) ∧ (q = 0 → Bk w' g 23 #[.int .i64 (dN bs : Nat), .int .i64 (lN bs : Nat), .int .i64 (vN bs : Nat), .int .i64 (sN bs : Nat)]) ∧ Below g w w' := by
  have hgw : g ≤ w.heap.size := Nat.le_of_lt hk.lt
  have HL0 := Lib.hid hl
  have HR := Lib.hid hr
  have HRW := Lib.hid hrw
  have HK := Lib.hid hk

  have HT := Lib.hid hT
  cases hh : heldB bs
  · obtain rfl : 5 = q := by rw [← hq, superQ, hh]; rfl
    have HH := Lib.hid hh
    clear hl hr hrw hk  hT hq hh
    go_enter Tryd.func22, Tryd.ntmps22
    go_wp2_with fail
    refine (Held_any g A n c bs false w HR.out hgw HL0.out hc HH.out HT.out).mono ?_
    rintro e w1 ⟨rfl, hb1⟩
    have HB1 := Lib.hid hb1
    clear hb1
    go_wp2
    go_ret
    exact ⟨rfl, fun h => absurd h (by decide), HB1.out.mono hgw⟩
  have hn : n = 128 := by rw [← hl]; simp only [heldB, Bool.and_eq_true, decide_eq_true_iff] at hh; exact hh.1
  subst hn
  obtain ⟨t, ht⟩ : ∃ t, mayB (dN bs) (lN bs) (vN bs) (sN bs) = t := ⟨_, rfl⟩
  have HQ : Hid (sameQ t (superB (dN bs) (lN bs) (vN bs) (sN bs)) bs = q) := by rw [← hq, superQ, hh, ht]; exact rfl
  have HH := Lib.hid hh
  have HM := Lib.hid ht
  clear hl hr hrw hk  hT hq hh ht
  go_enter Tryd.func22, Tryd.ntmps22
  go_wp2_with fail
  refine (Held_any g A 128 c bs true w HR.out hgw HL0.out hc HH.out HT.out).mono ?_
  rintro e w1 ⟨rfl, hb1⟩
  have HB1 := Lib.hid hb1
  have HK1 := Lib.hid (HK.out.below hb1 HK.out.lt)
  have HRB1 := Lib.hid (HR.out.below (hb1.mono hgw))
  have HRW1 := Lib.hid ((HRW.out.below hb1).mono hb1.size)
  have HT1 := Lib.hid (HT.out.up hb1)
  clear hb1
  go_wp2_with fail
  refine (Unpack_new w1.heap.size A Aw 128 c 5 cw bs superW w1 HL0.out rfl rfl (HRB1.out.mono (Nat.le_trans hgw HB1.out.size)) HRW1.out (Nat.le_refl _) hc hcm (by omega)).mono ?_
  rintro e w2 ⟨A2, c2, rfl, hc2, hcm2, hr2, hne, hb2⟩
  rw [nums_super] at hr2
  have HR2 := Lib.hid hr2
  have HB2 := Lib.hid (HB1.out.trans (hb2.mono HB1.out.size))
  have HK2 := Lib.hid (HK1.out.below hb2 HK1.out.lt)
  have HRB2 := Lib.hid (HRB1.out.below (hb2.mono (Nat.le_trans hgw HB1.out.size)))
  have HT2 := Lib.hid (HT1.out.up hb2)
  have HNE : Hid (∀ ad, A2 = some ad → g < ad.block) := fun ad e => Nat.lt_of_lt_of_le HK1.out.lt (hne ad e)
  clear hb2 hr2 hne
  go_wp2_with fail
  refine (makeSuper_any w2.heap.size A2 c2 g (valB (bs.take 4)) (dN bs) (lN bs) (vN bs) (sN bs) _ _ _ _ t w2 HR2.out HK2.out (dN_lt bs) (lN_lt bs) (Nat.lt_trans (vN_lt bs) (by decide)) (sN_lt bs) HM.out (Nat.le_refl _) HT2.out hg HNE.out).mono ?_
  rintro e w3 ⟨hmade, hk3, hb3⟩
  have HB3 := Lib.hid ((HB2.out.mono hgw).trans hb3)
  have HK3 := Lib.hid hk3
  have HRB3 := Lib.hid (HRB2.out.below hb3)
  clear hb3 hk3 
  obtain ⟨r, rfl, hyes, hno⟩ := hmade
  cases t
  · obtain rfl := hno rfl
    obtain rfl : 3 = q := by rw [← HQ.out]; rfl
    clear hyes hno
    simp only [Bool.false_eq_true, if_false]
    go_wp2
    go_ret
    exact ⟨rfl, fun h => absurd h (by decide), HB3.out⟩
  · obtain ⟨g2, rfl, hg2, hbk⟩ := hyes rfl
    clear hno hyes
    simp only [if_true]
    have HBK := Lib.hid hbk
    clear hbk
    obtain ⟨u, hu⟩ : ∃ u, ((superB (dN bs) (lN bs) (vN bs) (sN bs)) == bs) = u := ⟨_, rfl⟩
    have HU := Lib.hid hu
    have HQ2 : Hid (q = if u then 0 else 3) := by rw [← HQ.out, sameQ, hu]; exact rfl
    clear hu
    go_wp2_with fail
    refine (Equal_any w3.heap.size g (some ⟨g2, 0, none⟩) A 128 128 128 c (superB (dN bs) (lN bs) (vN bs) (sN bs)) bs u w3 (superB_length _ _ _ _) HL0.out (by simpa using Rd.bk HBK.out) HRB3.out HU.out).mono ?_
    rintro e w4 ⟨rfl, rfl⟩
    cases u
    · obtain rfl : q = 3 := HQ2.out
      go_wp2
      go_ret
      exact ⟨rfl, fun h => absurd h (by decide), HB3.out⟩
    · obtain rfl : q = 0 := HQ2.out
      go_wp2
      go_ret
      exact ⟨rfl, HK3.out, HB3.out⟩

set_option maxHeartbeats 1000000 in
theorem read_label (B g g' : Nat) (A Aw : Option Addr) (n c cw : Nat) (bs : List UInt8) (q : Int) (a0 a1 : Value) (w : World) (hl : bs.length = n) (hr : Rd w g A (bs.map bv)) (hc : n ≤ c) (hcm : c ≤ maxLen) (hrw : Rd w w.heap.size Aw (labelW.map iv)) (hk : Bk w g 3 #[a0]) (hk' : Bk w g' 3 #[a1]) (hgg : g < g') (hq : labelQ bs = q) (hT : Tab w) (hg : 0 < g) :
    Calls Tryd.prog 22 #[.slice A n c, .func (.func 24) #[] #[.pointer (some ⟨g, 0, none⟩), .pointer (some ⟨g', 0, none⟩)], .slice Aw 3 cw] w fun e w' => e = .returned (.int .i64 q) ∧ (q = 0 → (Bk w' g 3 #[.int .i64 (volN bs : Nat)] ∧ Bk w' g' 3 #[.int .i64 (genN bs : Nat)])) ∧ Below g w w' := by
  have hgw : g ≤ w.heap.size := Nat.le_of_lt hk.lt
  have HL0 := Lib.hid hl
  have HR := Lib.hid hr
  have HRW := Lib.hid hrw
  have HK := Lib.hid hk
  have HL := Lib.hid hk'
  have HT := Lib.hid hT
  cases hh : heldB bs
  · obtain rfl : 5 = q := by rw [← hq, labelQ, hh]; rfl
    have HH := Lib.hid hh
    clear hl hr hrw hk hk' hT hq hh
    go_enter Tryd.func22, Tryd.ntmps22
    go_wp2_with fail
    refine (Held_any g A n c bs false w HR.out hgw HL0.out hc HH.out HT.out).mono ?_
    rintro e w1 ⟨rfl, hb1⟩
    have HB1 := Lib.hid hb1
    clear hb1
    go_wp2
    go_ret
    exact ⟨rfl, fun h => absurd h (by decide), HB1.out.mono hgw⟩
  have hn : n = 128 := by rw [← hl]; simp only [heldB, Bool.and_eq_true, decide_eq_true_iff] at hh; exact hh.1
  subst hn
  obtain ⟨t, ht⟩ : ∃ t, labB (volN bs) (genN bs) = t := ⟨_, rfl⟩
  have HQ : Hid (sameQ t (labelB (volN bs) (genN bs)) bs = q) := by rw [← hq, labelQ, hh, ht]; exact rfl
  have HH := Lib.hid hh
  have HM := Lib.hid ht
  clear hl hr hrw hk hk' hT hq hh ht
  go_enter Tryd.func22, Tryd.ntmps22
  go_wp2_with fail
  refine (Held_any g A 128 c bs true w HR.out hgw HL0.out hc HH.out HT.out).mono ?_
  rintro e w1 ⟨rfl, hb1⟩
  have HB1 := Lib.hid hb1
  have HK1 := Lib.hid (HK.out.below hb1 HK.out.lt)
  have HL1 := Lib.hid (HL.out.below hb1 HL.out.lt)
  have HRB1 := Lib.hid (HR.out.below (hb1.mono hgw))
  have HRW1 := Lib.hid ((HRW.out.below hb1).mono hb1.size)
  have HT1 := Lib.hid (HT.out.up hb1)
  clear hb1
  go_wp2_with fail
  refine (Unpack_new w1.heap.size A Aw 128 c 3 cw bs labelW w1 HL0.out rfl rfl (HRB1.out.mono (Nat.le_trans hgw HB1.out.size)) HRW1.out (Nat.le_refl _) hc hcm (by omega)).mono ?_
  rintro e w2 ⟨A2, c2, rfl, hc2, hcm2, hr2, hne, hb2⟩
  rw [nums_label] at hr2
  have HR2 := Lib.hid hr2
  have HB2 := Lib.hid (HB1.out.trans (hb2.mono HB1.out.size))
  have HK2 := Lib.hid (HK1.out.below hb2 HK1.out.lt)
  have HL2 := Lib.hid (HL1.out.below hb2 HL1.out.lt)
  have HRB2 := Lib.hid (HRB1.out.below (hb2.mono (Nat.le_trans hgw HB1.out.size)))
  have HT2 := Lib.hid (HT1.out.up hb2)
  have HNE : Hid (∀ ad, A2 = some ad → g' < ad.block) := fun ad e => Nat.lt_of_lt_of_le HL1.out.lt (hne ad e)
  clear hb2 hr2 hne
  go_wp2_with fail
  refine (makeLabel_any w2.heap.size A2 c2 g g' (valB (bs.take 4)) (volN bs) (genN bs) _ _ t w2 HR2.out HK2.out HL2.out hgg (Nat.lt_trans (volN_lt bs) (by decide)) (genN_lt bs) HM.out (Nat.le_refl _) HT2.out hg HNE.out).mono ?_
  rintro e w3 ⟨hmade, hk3, hk4, hb3⟩
  have HB3 := Lib.hid ((HB2.out.mono hgw).trans hb3)
  have HK3 := Lib.hid (And.intro hk3 hk4)
  have HRB3 := Lib.hid (HRB2.out.below hb3)
  clear hb3 hk3 hk4
  obtain ⟨r, rfl, hyes, hno⟩ := hmade
  cases t
  · obtain rfl := hno rfl
    obtain rfl : 3 = q := by rw [← HQ.out]; rfl
    clear hyes hno
    simp only [Bool.false_eq_true, if_false]
    go_wp2
    go_ret
    exact ⟨rfl, fun h => absurd h (by decide), HB3.out⟩
  · obtain ⟨g2, rfl, hg2, hbk⟩ := hyes rfl
    clear hno hyes
    simp only [if_true]
    have HBK := Lib.hid hbk
    clear hbk
    obtain ⟨u, hu⟩ : ∃ u, ((labelB (volN bs) (genN bs)) == bs) = u := ⟨_, rfl⟩
    have HU := Lib.hid hu
    have HQ2 : Hid (q = if u then 0 else 3) := by rw [← HQ.out, sameQ, hu]; exact rfl
    clear hu
    go_wp2_with fail
    refine (Equal_any w3.heap.size g (some ⟨g2, 0, none⟩) A 128 128 128 c (labelB (volN bs) (genN bs)) bs u w3 (labelB_length _ _) HL0.out (by simpa using Rd.bk HBK.out) HRB3.out HU.out).mono ?_
    rintro e w4 ⟨rfl, rfl⟩
    cases u
    · obtain rfl : q = 3 := HQ2.out
      go_wp2
      go_ret
      exact ⟨rfl, fun h => absurd h (by decide), HB3.out⟩
    · obtain rfl : q = 0 := HQ2.out
      go_wp2
      go_ret
      exact ⟨rfl, HK3.out, HB3.out⟩


theorem superQ_vals (b : List UInt8) : superQ b = 0 ∨ superQ b = 3 ∨ superQ b = 5 := by unfold superQ sameQ; split <;> (try split) <;> simp
theorem labelQ_vals (b : List UInt8) : labelQ b = 0 ∨ labelQ b = 3 ∨ labelQ b = 5 := by unfold labelQ sameQ; split <;> (try split) <;> simp
theorem four_puts {w : World} {g : Nat} {t : TypeId} {x0 x1 x2 x3 : Value} (h : Bk w g t #[x0, x1, x2, x3]) (a b c d : Value) :
    ((((w.setCell ⟨g, 0, none⟩ a).setCell ⟨g, 1, none⟩ b).setCell ⟨g, 2, none⟩ c).setCell ⟨g, 3, none⟩ d).cell? ⟨g, 0, none⟩ = some a ∧ ((((w.setCell ⟨g, 0, none⟩ a).setCell ⟨g, 1, none⟩ b).setCell ⟨g, 2, none⟩ c).setCell ⟨g, 3, none⟩ d).cell? ⟨g, 1, none⟩ = some b
    ∧ ((((w.setCell ⟨g, 0, none⟩ a).setCell ⟨g, 1, none⟩ b).setCell ⟨g, 2, none⟩ c).setCell ⟨g, 3, none⟩ d).cell? ⟨g, 2, none⟩ = some c ∧ ((((w.setCell ⟨g, 0, none⟩ a).setCell ⟨g, 1, none⟩ b).setCell ⟨g, 2, none⟩ c).setCell ⟨g, 3, none⟩ d).cell? ⟨g, 3, none⟩ = some d :=
  have H := set4_3 (set4_2 (set4_1 (set4_0 h a) b) c) d
  ⟨H.cell 0, H.cell 1, H.cell 2, H.cell 3⟩

set_option maxRecDepth 100000 in
set_option maxHeartbeats 1000000 in
theorem ReadSuper_any (B : Nat) (A : Option Addr) (n c : Nat) (bs : List UInt8) (q D L V S : Int) (w : World) (hl : bs.length = n) (hr : Rd w B A (bs.map bv)) (hB : B ≤ w.heap.size) (hc : n ≤ c) (hcm : c ≤ maxLen) (hq : superQ bs = q) (hD : superG bs (dN bs) = D) (hL : superG bs (lN bs) = L) (hV : superG bs (vN bs) = V) (hS : superG bs (sN bs) = S) (hT : Tab w) :
    Calls Tryd.prog 10 #[.slice A n c] w fun e w' => e = .returned (.tuple #[.agg #[.int .i64 D, .int .i64 L, .int .i64 V, .int .i64 S], .int .i64 q]) ∧ Below w.heap.size w w' := by
  have HL0 := Lib.hid hl
  have HR := Lib.hid hr
  have HT := Lib.hid hT
  have HQ := Lib.hid hq
  have HG : Hid ((q = 0 → D = (dN bs : Nat) ∧ L = (lN bs : Nat) ∧ V = (vN bs : Nat) ∧ S = (sN bs : Nat)) ∧ (q ≠ 0 → D = 0 ∧ L = 0 ∧ V = 0 ∧ S = 0)) := by
    rw [← hD, ← hL, ← hV, ← hS]
    unfold superG
    rw [hq]
    exact ⟨fun h => by simp [h], fun h => by simp [h]⟩
  have hv := superQ_vals bs
  rw [hq] at hv
  have hG := hT.lt
  clear hl hr hT hq hD hL hV hS
  go_enter Tryd.func10, Tryd.ntmps10
  go_wp2_with fail
  have K0 := Lib.hid (Bk.new w 23 #[.int .i64 0, .int .i64 0, .int .i64 0, .int .i64 0])
  have K1 := Lib.hid (Bk.new (w.alloc (.cells #[.int .i64 0, .int .i64 0, .int .i64 0, .int .i64 0] 23)) 23 #[.int .i64 0, .int .i64 0, .int .i64 0, .int .i64 0])
  have K2 := Rd.bk (Bk.new ((w.alloc (.cells #[.int .i64 0, .int .i64 0, .int .i64 0, .int .i64 0] 23)).alloc (.cells #[.int .i64 0, .int .i64 0, .int .i64 0, .int .i64 0] 23)) 3 #[.int .i64 4, .int .i64 2, .int .i64 2, .int .i64 1, .int .i64 2])
  have HB0 := Lib.hid (((((Below.refl w.heap.size w).alloc (Nat.le_refl _) (.cells #[.int .i64 0, .int .i64 0, .int .i64 0, .int .i64 0] 23)).alloc (by simp) (.cells #[.int .i64 0, .int .i64 0, .int .i64 0, .int .i64 0] 23)).alloc (by simp; omega) (.cells #[.int .i64 4, .int .i64 2, .int .i64 2, .int .i64 1, .int .i64 2] 3)))
  have K0 := Lib.hid ((K0.out.alloc (.cells #[.int .i64 0, .int .i64 0, .int .i64 0, .int .i64 0] 23)).alloc (.cells #[.int .i64 4, .int .i64 2, .int .i64 2, .int .i64 1, .int .i64 2] 3))
  have K1 := Lib.hid (K1.out.alloc (.cells #[.int .i64 4, .int .i64 2, .int .i64 2, .int .i64 1, .int .i64 2] 3))
  simp only [World.alloc_size'] at K1 K2
  have K2 := Lib.hid K2
  refine (read_super B (w.heap.size + 1) A _ n c 5 bs q _ _ _ _ _ HL0.out ((HR.out.below (HB0.out.mono hB)).mono (by omega)) hc hcm (by rw [World.alloc_size', World.alloc_size', World.alloc_size']; exact K2.out) K1.out HQ.out (HT.out.up HB0.out) (by omega)).mono ?_
  rintro e w1 ⟨rfl, hk, hb1⟩
  have HK1 := Lib.hid hk
  have HB1 := Lib.hid (HB0.out.trans (hb1.mono (by omega)))
  have K3 := Lib.hid (K0.out.below hb1 (by omega))
  clear hb1 hk K0 K1 K2 HB0
  obtain ⟨k0, k1, k2, k3, f0, f1, f2, f3⟩ := four_cells K3.out
  have hge : w.heap.size ≤ w.heap.size := Nat.le_refl _
  rcases hv with rfl | rfl | rfl
  · obtain ⟨d1, d2, d3, d4⟩ := HG.out.1 rfl
    have hk := HK1.out rfl
    rw [← d1, ← d2, ← d3, ← d4] at hk
    obtain ⟨j0, j1, j2, j3, -⟩ := four_cells hk
    obtain ⟨p0, p1, p2, p3⟩ := four_puts K3.out (.int .i64 D) (.int .i64 L) (.int .i64 V) (.int .i64 S)
    clear d1 d2 d3 d4 hk
    go_wp2
    refine bodyPost_ret (v := .tuple #[.agg #[.int .i64 D, .int .i64 L, .int .i64 V, .int .i64 S], .int .i64 0]) (by simp [results, Tryd.results10, go_sem, p0, p1, p2, p3]) rfl ⟨rfl, ?_⟩
    exact (((HB1.out.setCell (p := ⟨w.heap.size, 0, none⟩) hge _).setCell (p := ⟨w.heap.size, 1, none⟩) hge _).setCell (p := ⟨w.heap.size, 2, none⟩) hge _).setCell (p := ⟨w.heap.size, 3, none⟩) hge _
  · obtain ⟨rfl, rfl, rfl, rfl⟩ := HG.out.2 (by decide)
    obtain ⟨p0, p1, p2, p3⟩ := four_puts K3.out (.int .i64 0) (.int .i64 0) (.int .i64 0) (.int .i64 0)
    go_wp2
    refine bodyPost_ret (v := .tuple #[.agg #[.int .i64 0, .int .i64 0, .int .i64 0, .int .i64 0], .int .i64 3]) (by simp [results, Tryd.results10, go_sem, p0, p1, p2, p3]) rfl ⟨rfl, ?_⟩
    exact (((HB1.out.setCell (p := ⟨w.heap.size, 0, none⟩) hge _).setCell (p := ⟨w.heap.size, 1, none⟩) hge _).setCell (p := ⟨w.heap.size, 2, none⟩) hge _).setCell (p := ⟨w.heap.size, 3, none⟩) hge _
  · obtain ⟨rfl, rfl, rfl, rfl⟩ := HG.out.2 (by decide)
    obtain ⟨p0, p1, p2, p3⟩ := four_puts K3.out (.int .i64 0) (.int .i64 0) (.int .i64 0) (.int .i64 0)
    go_wp2
    refine bodyPost_ret (v := .tuple #[.agg #[.int .i64 0, .int .i64 0, .int .i64 0, .int .i64 0], .int .i64 5]) (by simp [results, Tryd.results10, go_sem, p0, p1, p2, p3]) rfl ⟨rfl, ?_⟩
    exact (((HB1.out.setCell (p := ⟨w.heap.size, 0, none⟩) hge _).setCell (p := ⟨w.heap.size, 1, none⟩) hge _).setCell (p := ⟨w.heap.size, 2, none⟩) hge _).setCell (p := ⟨w.heap.size, 3, none⟩) hge _

set_option maxRecDepth 100000 in
set_option maxHeartbeats 1000000 in
theorem ReadLabel_any (B : Nat) (A : Option Addr) (n c : Nat) (bs : List UInt8) (q v g : Int) (w : World) (hl : bs.length = n) (hr : Rd w B A (bs.map bv)) (hB : B ≤ w.heap.size) (hc : n ≤ c) (hcm : c ≤ maxLen) (hq : labelQ bs = q) (hD : labelG bs (volN bs) = v) (hL : labelG bs (genN bs) = g) (hT : Tab w) :
    Calls Tryd.prog 11 #[.slice A n c] w fun e w' => e = .returned (.tuple #[.int .i64 v, .int .i64 g, .int .i64 q]) ∧ Below w.heap.size w w' := by
  have HL0 := Lib.hid hl
  have HR := Lib.hid hr
  have HT := Lib.hid hT
  have HQ := Lib.hid hq
  have HG : Hid ((q = 0 → v = (volN bs : Nat) ∧ g = (genN bs : Nat)) ∧ (q ≠ 0 → v = 0 ∧ g = 0)) := by
    rw [← hD, ← hL]
    unfold labelG
    rw [hq]
    exact ⟨fun h => by simp [h], fun h => by simp [h]⟩
  have hv := labelQ_vals bs
  rw [hq] at hv
  have hG := hT.lt
  clear hl hr hT hq hD hL
  go_enter Tryd.func11, Tryd.ntmps11
  go_wp2_with fail
  have K0 := Lib.hid (Bk.new w 3 #[.int .i64 0])
  have K1 := Lib.hid (Bk.new (w.alloc (.cells #[.int .i64 0] 3)) 3 #[.int .i64 0])
  have K2 := Rd.bk (Bk.new ((w.alloc (.cells #[.int .i64 0] 3)).alloc (.cells #[.int .i64 0] 3)) 3 #[.int .i64 4, .int .i64 1, .int .i64 4])
  have HB0 := Lib.hid (((((Below.refl w.heap.size w).alloc (Nat.le_refl _) (.cells #[.int .i64 0] 3)).alloc (by simp) (.cells #[.int .i64 0] 3)).alloc (by simp; omega) (.cells #[.int .i64 4, .int .i64 1, .int .i64 4] 3)))
  have K0 := Lib.hid ((K0.out.alloc (.cells #[.int .i64 0] 3)).alloc (.cells #[.int .i64 4, .int .i64 1, .int .i64 4] 3))
  have K1 := Lib.hid (K1.out.alloc (.cells #[.int .i64 4, .int .i64 1, .int .i64 4] 3))
  simp only [World.alloc_size'] at K1 K2
  have K2 := Lib.hid K2
  refine (read_label B w.heap.size (w.heap.size + 1) A _ n c 3 bs q _ _ _ HL0.out ((HR.out.below (HB0.out.mono hB)).mono hB) hc hcm (by rw [World.alloc_size', World.alloc_size', World.alloc_size']; exact K2.out) K0.out K1.out (by omega) HQ.out (HT.out.up HB0.out) hG).mono ?_
  rintro e w1 ⟨rfl, hk, hb1⟩
  have HK1 := Lib.hid hk
  have HB1 := Lib.hid (HB0.out.trans hb1)
  clear hb1 hk K0 K1 K2 HB0
  rcases hv with rfl | rfl | rfl
  · obtain ⟨d1, d2⟩ := HG.out.1 rfl
    obtain ⟨hk, hk'⟩ := HK1.out rfl
    rw [← d1] at hk
    rw [← d2] at hk'
    obtain ⟨j0, -⟩ := one_cell hk
    obtain ⟨j1, -⟩ := one_cell hk'
    clear d1 d2 hk hk'
    go_wp2_with fail
    go_region
    all_goals go_wp2
    all_goals exact bodyPost_ret (v := .tuple #[.int .i64 v, .int .i64 g, .int .i64 0]) (by simp [results, Tryd.results11, go_sem]) rfl ⟨rfl, HB1.out.drew⟩
  · obtain ⟨rfl, rfl⟩ := HG.out.2 (by decide)
    go_wp2
    exact bodyPost_ret (v := .tuple #[.int .i64 0, .int .i64 0, .int .i64 3]) (by simp [results, Tryd.results11, go_sem]) rfl ⟨rfl, HB1.out⟩
  · obtain ⟨rfl, rfl⟩ := HG.out.2 (by decide)
    go_wp2
    exact bodyPost_ret (v := .tuple #[.int .i64 0, .int .i64 0, .int .i64 5]) (by simp [results, Tryd.results11, go_sem]) rfl ⟨rfl, HB1.out⟩
end Go.Proofs.YthneomligbkmgaaDoor
