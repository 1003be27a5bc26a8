/-
  What summary.Decode does. (Printed by wip/tools/sum8.py.)
-/
import Derived.Test.YtjibjojnkieliaaDoorSum3
import Derived.Test.YtjibjojnkieliaaDoorSum7
namespace Go.Proofs.YtjibjojnkieliaaDoor
open Go.RowKit Go.Shelf
set_option linter.unusedVariables false
attribute [local go_sem] Oper.semAt_some

theorem under_strB : Tryd.prog.underlying 9 = some .string := by kernel_rfl
theorem bytesEqual_any (B B' : Nat) (A A' : Option Addr) (n n' c c' : Nat) (a b : List UInt8) (t : Bool) (w : World) (ha : a.length = n) (hb : b.length = n') (ra : Rd w B A (a.map bv)) (rb : Rd w B' A' (b.map bv)) (ht : (a == b) = t) :
    Calls Tryd.prog 30 #[.slice A n c, .slice A' n' c'] w fun e w' => e = .returned (.bool t) ∧ w = w' := by
  have h1 := run_conv (P := Tryd.prog) 26 5 9 Tryd.underlying26 Tryd.underlying5 under_strB n c ha ra
  have h2 := run_conv (P := Tryd.prog) 26 5 9 Tryd.underlying26 Tryd.underlying5 under_strB n' c' hb rb
  have HE : Hid (((str a).toList == (str b).toList) = t) := by rw [str_toList, str_toList]; exact ht
  clear ra rb ha hb ht
  go_enter Tryd.func30, Tryd.ntmps30
  go_wp2
  go_ret
  exact ⟨ret_bool HE.out, rfl⟩

theorem sumDecode_short (A : Option Addr) (n c : Nat) (bs : List UInt8) (w : World) (hn : bs.length = n) (hr : Rd w w.heap.size A (bs.map bv)) (hc : n ≤ c) (hh : heldB bs = false) (ht : Tab w) :
    Calls Tryd.prog 13 #[.slice A n c] w fun e w' => e = .returned (.tuple #[ptV 0 0 false none 0 0, .int .i64 5]) ∧ Below w.heap.size w w' := by
  have K0 := Lib.hid (Bk.new w 24 #[.int .i64 0, .int .i64 0, .bool false, .slice none 0 0])
  have HB0 := Lib.hid ((Below.refl w.heap.size w).alloc (Nat.le_refl _) (.cells #[.int .i64 0, .int .i64 0, .bool false, .slice none 0 0] 24))
  have HH := Lib.hid (Held_any w.heap.size A n c bs false _ (hr.below HB0.out) HB0.out.size hn hc hh (ht.up HB0.out))
  clear hn hr hh ht
  go_enter Tryd.func13, Tryd.ntmps13
  go_wp2_with fail
  refine HH.out.mono ?_
  rintro e w1 ⟨rfl, hb1⟩
  have HB1 := Lib.hid (HB0.out.trans (hb1.mono HB0.out.size))
  have K1 := K0.out.below hb1 K0.out.lt
  obtain ⟨k0, k1, k2, k3, f0, f1, f2, f3⟩ := ent_cells K1
  obtain ⟨p0, p1, p2, p3, -⟩ := ent_puts K1 (.int .i64 0) (.int .i64 0) (.bool false) (.slice none 0 0)
  have HB2 := Lib.hid ((((HB1.out.setCell (p := ⟨w.heap.size, 0, none⟩) (Nat.le_refl _) (.int .i64 0)).setCell (p := ⟨w.heap.size, 1, none⟩) (Nat.le_refl _) (.int .i64 0)).setCell (p := ⟨w.heap.size, 2, none⟩) (Nat.le_refl _) (.bool false)).setCell (p := ⟨w.heap.size, 3, none⟩) (Nat.le_refl _) (.slice none 0 0))
  clear hb1 HH K1
  go_wp2
  refine bodyPost_ret (v := .tuple #[ptV 0 0 false none 0 0, .int .i64 5]) (by simp [results, Tryd.results13, go_sem, p0, p1, p2, p3, ptV]) rfl ⟨rfl, HB2.out⟩

/-- a new block of four cells -/
def NewPt (base : Nat) (v : Value) (w : World) : Prop := ∃ g, v = .pointer (some ⟨g, 0, none⟩) ∧ base ≤ g ∧ Bk w g 24 #[.int .i64 0, .int .i64 0, .bool false, .slice none 0 0]
theorem NewPt.up {base : Nat} {v : Value} {w w' : World} (h : NewPt base v w) (hb : Below w.heap.size w w') : NewPt base v w' := by
  obtain ⟨g, rfl, hg, hr⟩ := h
  exact ⟨g, rfl, hg, hr.below hb hr.lt⟩
def slotD6 (i : Nat) : Nat := if i = 13 then 6 else 22 + i
def waitD6 : Nat → List Nat
  | 1 => [0]
  | 2 => [1]
  | 3 => [2]
  | 5 => [4]
  | 6 => [5]
  | 7 => [6]
  | 9 => [8]
  | 10 => [9]
  | 11 => [10]
  | 12 => [3, 7, 11]
  | 14 => [12, 13]
  | _ => []
def leaveD6 (base gv ov cv sq nx en : Nat) (fn : Bool) : Nat → Value → World → Prop
  | 0, v, _ => v = .slice (some ⟨gv, ov, none⟩) 5 cv
  | 1, v, _ => v = .pointer (some ⟨gv, ov + 1, none⟩)
  | 2, v, _ => v = .int .u64 (sq : Int)
  | 3, v, _ => v = .int .i64 (sq : Int)
  | 4, v, _ => v = .slice (some ⟨gv, ov, none⟩) 5 cv
  | 5, v, _ => v = .pointer (some ⟨gv, ov + 2, none⟩)
  | 6, v, _ => v = .int .u64 (nx : Int)
  | 7, v, _ => v = .int .i64 (nx : Int)
  | 8, v, _ => v = .slice (some ⟨gv, ov, none⟩) 5 cv
  | 9, v, _ => v = .pointer (some ⟨gv, ov + 4, none⟩)
  | 10, v, _ => v = .int .u64 (en : Int)
  | 11, v, _ => v = .bool fn
  | 12, v, _ => v = .agg #[.int .i64 (sq : Int), .int .i64 (nx : Int), .bool fn, .slice none 0 0]
  | 13, v, w => NewPt base v w
  | _, _, _ => True
def slotD7 (i : Nat) : Nat := 35 + i
def waitD7 : Nat → List Nat
  | 1 => [0]
  | 3 => [2]
  | 4 => [3]
  | 5 => [4]
  | 6 => [1, 5]
  | _ => []
def leaveD7 (b o c gv ov cv cn : Nat) : Nat → Value → World → Prop
  | 0, v, _ => v = .slice (some ⟨b, o, none⟩) 128 c
  | 1, v, _ => v = .slice (some ⟨b, o + 16, none⟩) 112 (c - 16)
  | 2, v, _ => v = .slice (some ⟨gv, ov, none⟩) 5 cv
  | 3, v, _ => v = .pointer (some ⟨gv, ov + 3, none⟩)
  | 4, v, _ => v = .int .u64 (cn : Int)
  | 5, v, _ => v = .int .i64 (cn : Int)
  | _, _, _ => True
theorem leaveD6_mono (base gv ov cv sq nx en : Nat) (fn : Bool) (w0 : World) (i : Nat) (v' : Value) (w w' : World) (_ : Below w0.heap.size w0 w) (hb : Below w.heap.size w w') (h : leaveD6 base gv ov cv sq nx en fn i v' w) : leaveD6 base gv ov cv sq nx en fn i v' w' := by
  unfold leaveD6 at *
  split at h <;> first | exact h | exact NewPt.up h hb

set_option maxRecDepth 100000 in
set_option maxHeartbeats 8000000 in
theorem sumDecode_held (b o c : Nat) (bs : List UInt8) (w : World) (hn : bs.length = 128) (hr : Rd w w.heap.size (some ⟨b, o, none⟩) (bs.map bv)) (hc : 128 ≤ c) (hcm : c ≤ maxLen) (hh : heldB bs = true) (ht : Tab w) :
    Calls Tryd.prog 13 #[.slice (some ⟨b, o, none⟩) 128 c] w fun e w' => ∃ v, e = .returned (.tuple #[v, .int .i64 (decQ bs)]) ∧ PtAt w' v (decR bs) ∧ Below w.heap.size w w' := by
  obtain ⟨i0, hi, hz0, hz1, hz2⟩ := info_parts info_ent
  obtain ⟨L, hL⟩ : ∃ L, ensAt bs 16 (min (cntN bs) 14) = L := ⟨_, rfl⟩
  obtain ⟨sq, hsq⟩ : ∃ x, seqN bs = x := ⟨_, rfl⟩
  obtain ⟨nx, hnx⟩ : ∃ x, nextN bs = x := ⟨_, rfl⟩
  obtain ⟨cn, hcn⟩ : ∃ x, cntN bs = x := ⟨_, rfl⟩
  obtain ⟨en, hen⟩ : ∃ x, endN bs = x := ⟨_, rfl⟩
  obtain ⟨fn, hfn⟩ : ∃ x, ((en : Int) == 1) = x := ⟨_, rfl⟩
  obtain ⟨mk, hmk⟩ : ∃ x, valB (bs.take 4) = x := ⟨_, rfl⟩
  have HNUM : Hid (nums bs headW = [mk, sq, nx, cn, en]) := by show _ = _; rw [nums_head, hmk, hsq, hnx, hcn, hen]
  have HP : Hid (decP bs = ⟨sq, nx, fn, L⟩) := by
    show _ = _
    unfold decP
    rw [hL, hsq, hnx, hen]
    congr 1
    rw [← hfn, Bool.eq_iff_iff, beq_iff_eq, beq_iff_eq]
    omega
  have HLn : Hid (L.length = min cn 14) := by show _ = _; rw [← hL, ensAt_length, hcn]
  have HE : Hid (EntsIn (bs.drop 16) L) := fun k y hk => by
    have hk' : k < min (cntN bs) 14 := by have := (List.getElem?_eq_some_iff.1 hk).1; rw [← hL, ensAt_length] at this; exact this
    rw [← hL, ensAt_get bs 16 _ k hk'] at hk
    cases hk
    obtain ⟨b0, b1, b2, b3⟩ := enAt_lt bs (16 + 8 * k)
    exact ⟨_, _, _, by rw [List.drop_drop]; exact nums_ent bs (16 + 8 * k), rfl, rfl, rfl, b0, b1, b2, b3⟩
  have hsqb : sq < 281474976710656 := by rw [← hsq]; exact seqN_lt bs
  have hnxb : nx < 4294967296 := by rw [← hnx]; exact nextN_lt bs
  have hcnb : cn < 256 := by rw [← hcn]; exact cntN_lt bs
  have henb : en < 256 := by rw [← hen]; exact endN_lt bs
  have HSM : Hid (sumsOk L) := by show sumsOk L; rw [← hL]; exact ensAt_sums _ _ _
  have HFN := Lib.hid hfn
  clear hL hsq hnx hcn hen hfn hmk
  have K0 := Lib.hid (Bk.new w 24 #[.int .i64 0, .int .i64 0, .bool false, .slice none 0 0])
  have HB0 := Lib.hid ((Below.refl w.heap.size w).alloc (Nat.le_refl _) (.cells #[.int .i64 0, .int .i64 0, .bool false, .slice none 0 0] 24))
  have HH := Lib.hid (Held_any w.heap.size (some ⟨b, o, none⟩) 128 c bs true _ (hr.below HB0.out) HB0.out.size hn hc hh (ht.up HB0.out))
  have HN := Lib.hid hn
  have HR := Lib.hid hr
  have HT := Lib.hid ht
  have HHB := Lib.hid hh
  have HI := Lib.hid hi
  have HZ0 := Lib.hid hz0
  have HZ1' := Lib.hid hz1
  have HZ2 := Lib.hid hz2
  have HCM := Lib.hid hcm
  clear hn hr hh ht hi hz0 hz1 hz2 hcm
  refine (callsIn_wide (n := 5)).1 ?_
  refine callsIn_of_wp_marks Tryd.func13 rfl trivial ?_ rfl
  simp only [Tryd.ntmps13, List.size_toArray, List.length_cons, List.length_nil, Nat.reduceAdd, Nat.reduceSub, Array.replicate_succ, Array.replicate_zero, List.push_toArray, List.append_toArray, List.nil_append, List.cons_append]
  refine wpIn_wide.2 ?_
  go_wp2_with fail
  refine HH.out.mono ?_
  rintro e w1 ⟨rfl, hb1⟩
  have HB1 := Lib.hid (HB0.out.trans (hb1.mono HB0.out.size))
  have K0 := Lib.hid (K0.out.below hb1 K0.out.lt)
  have HWS := Lib.hid (Rd.new w1 3 #[iv 4, iv 6, iv 4, iv 1, iv 1] (0, 0))
  clear hb1 HH HB0
  go_wp2_with fail
  have HA := Lib.hid ((Below.refl w1.heap.size w1).alloc (Nat.le_refl _) (.cells #[iv 4, iv 6, iv 4, iv 1, iv 1] 3))
  have hz1 := HB1.out.size
  refine (Unpack_ok (w1.heap.size + 1) _ (some ⟨w1.heap.size, 0, none⟩) 128 c 5 5 bs headW [mk, sq, nx, cn, en] _ HN.out rfl ((unpCode_zero _ _).2 ⟨by decide, by decide⟩) HNUM.out (((HR.out.below HB1.out).alloc hz1 _).mono (by omega)) HWS.out (by simp) hc HCM.out (by omega)).mono ?_
  rintro e w2 ⟨A2, cv, rfl, hcv, hcvm, hrd2, hb2⟩
  have HB12 : Hid (Below w1.heap.size w1 w2) := HA.out.trans (hb2.mono HA.out.size)
  have HB2 := Lib.hid (HB1.out.trans (HB12.out.mono hz1))
  have K0 := Lib.hid (K0.out.below HB12.out K0.out.lt)
  obtain ⟨gv, ov, rfl, hgv, -⟩ := hrd2.plain (by simp)
  have HKV : Hid (∀ w', Below w2.heap.size w2 w' → w'.cell? ⟨gv, ov + 1, none⟩ = some (.int .u64 (sq : Int)) ∧ w'.cell? ⟨gv, ov + 2, none⟩ = some (.int .u64 (nx : Int)) ∧ w'.cell? ⟨gv, ov + 3, none⟩ = some (.int .u64 (cn : Int)) ∧ w'.cell? ⟨gv, ov + 4, none⟩ = some (.int .u64 (en : Int))) := fun w' hb => by
    have hc := hrd2.below hb
    refine ⟨?_, ?_, ?_, ?_⟩
    · obtain ⟨ad, e, _, hc⟩ := hc 1 _ rfl; cases e; rwa [add_plain] at hc
    · obtain ⟨ad, e, _, hc⟩ := hc 2 _ rfl; cases e; rwa [add_plain] at hc
    · obtain ⟨ad, e, _, hc⟩ := hc 3 _ rfl; cases e; rwa [add_plain] at hc
    · obtain ⟨ad, e, _, hc⟩ := hc 4 _ rfl; cases e; rwa [add_plain] at hc
  have HZ2b : Hid (w.heap.size < w2.heap.size) := K0.out.lt
  have HK3 : ∀ {w'}, Below w2.heap.size w2 w' → Bk w' w.heap.size 24 #[.int .i64 0, .int .i64 0, .bool false, .slice none 0 0] := fun hb => K0.out.below hb K0.out.lt
  clear hrd2 hb2 hcv hcvm HWS HA HB12 hz1
  go_wp2_with fail
  refine wp_region_tail (by kernel_rfl) 14 64 slotD6 waitD6 (leaveD6 w2.heap.size gv ov cv sq nx en fn) rfl
    (by kernel_rfl) (leaveD6_mono _ _ _ _ _ _ _ _ _) ?_ ?_
  · intro i hi
    match i, hi with
    | 0, _ =>
      intro o ho a wc hk hb hd K hK
      cases ho
      have e0 := hk.rest 4 (.slice (some ⟨gv, ov, none⟩) 5 cv) (by omega) (by kernel_rfl) rfl
      rw [Array.getD_eq_getD_getElem?] at e0
      go_simp
      exact hK _ _ (Below.refl _ _) rfl
    | 1, _ =>
      intro o ho a wc hk hb hd K hK
      cases ho
      have e0 := hd 0 (by simp [waitD6])
      simp only [leaveD6, slotD6, if_false, Nat.reduceEqDiff, Nat.reduceAdd, Array.getD_eq_getD_getElem?] at e0
      go_simp
      exact hK _ _ (Below.refl _ _) rfl
    | 2, _ =>
      intro o ho a wc hk hb hd K hK
      cases ho
      have e0 := hd 1 (by simp [waitD6])
      simp only [leaveD6, slotD6, if_false, Nat.reduceEqDiff, Nat.reduceAdd, Array.getD_eq_getD_getElem?] at e0
      obtain ⟨c0, c1, c2, c3⟩ := HKV.out _ hb
      go_simp
      exact hK _ _ (Below.refl _ _) rfl
    | 3, _ =>
      intro o ho a wc hk hb hd K hK
      cases ho
      have e0 := hd 2 (by simp [waitD6])
      simp only [leaveD6, slotD6, if_false, Nat.reduceEqDiff, Nat.reduceAdd, Array.getD_eq_getD_getElem?] at e0
      go_simp
      go_bits
      exact hK _ _ (Below.refl _ _) rfl
    | 4, _ =>
      intro o ho a wc hk hb hd K hK
      cases ho
      have e0 := hk.rest 4 (.slice (some ⟨gv, ov, none⟩) 5 cv) (by omega) (by kernel_rfl) rfl
      rw [Array.getD_eq_getD_getElem?] at e0
      go_simp
      exact hK _ _ (Below.refl _ _) rfl
    | 5, _ =>
      intro o ho a wc hk hb hd K hK
      cases ho
      have e0 := hd 4 (by simp [waitD6])
      simp only [leaveD6, slotD6, if_false, Nat.reduceEqDiff, Nat.reduceAdd, Array.getD_eq_getD_getElem?] at e0
      go_simp
      exact hK _ _ (Below.refl _ _) rfl
    | 6, _ =>
      intro o ho a wc hk hb hd K hK
      cases ho
      have e0 := hd 5 (by simp [waitD6])
      simp only [leaveD6, slotD6, if_false, Nat.reduceEqDiff, Nat.reduceAdd, Array.getD_eq_getD_getElem?] at e0
      obtain ⟨c0, c1, c2, c3⟩ := HKV.out _ hb
      go_simp
      exact hK _ _ (Below.refl _ _) rfl
    | 7, _ =>
      intro o ho a wc hk hb hd K hK
      cases ho
      have e0 := hd 6 (by simp [waitD6])
      simp only [leaveD6, slotD6, if_false, Nat.reduceEqDiff, Nat.reduceAdd, Array.getD_eq_getD_getElem?] at e0
      go_simp
      go_bits
      exact hK _ _ (Below.refl _ _) rfl
    | 8, _ =>
      intro o ho a wc hk hb hd K hK
      cases ho
      have e0 := hk.rest 4 (.slice (some ⟨gv, ov, none⟩) 5 cv) (by omega) (by kernel_rfl) rfl
      rw [Array.getD_eq_getD_getElem?] at e0
      go_simp
      exact hK _ _ (Below.refl _ _) rfl
    | 9, _ =>
      intro o ho a wc hk hb hd K hK
      cases ho
      have e0 := hd 8 (by simp [waitD6])
      simp only [leaveD6, slotD6, if_false, Nat.reduceEqDiff, Nat.reduceAdd, Array.getD_eq_getD_getElem?] at e0
      go_simp
      exact hK _ _ (Below.refl _ _) rfl
    | 10, _ =>
      intro o ho a wc hk hb hd K hK
      cases ho
      have e0 := hd 9 (by simp [waitD6])
      simp only [leaveD6, slotD6, if_false, Nat.reduceEqDiff, Nat.reduceAdd, Array.getD_eq_getD_getElem?] at e0
      obtain ⟨c0, c1, c2, c3⟩ := HKV.out _ hb
      go_simp
      exact hK _ _ (Below.refl _ _) rfl
    | 11, _ =>
      intro o ho a wc hk hb hd K hK
      cases ho
      have e0 := hd 10 (by simp [waitD6])
      simp only [leaveD6, slotD6, if_false, Nat.reduceEqDiff, Nat.reduceAdd, Array.getD_eq_getD_getElem?] at e0
      go_simp
      exact hK _ _ (Below.refl _ _) (by show Value.bool _ = _; rw [HFN.out])
    | 12, _ =>
      intro o ho a wc hk hb hd K hK
      cases ho
      have e0 := hd 3 (by simp [waitD6])
      have e1 := hd 7 (by simp [waitD6])
      have e2 := hd 11 (by simp [waitD6])
      simp only [leaveD6, slotD6, if_false, Nat.reduceEqDiff, Nat.reduceAdd, Array.getD_eq_getD_getElem?] at e0 e1 e2
      go_simp
      exact hK _ _ (Below.refl _ _) rfl
    | 13, _ =>
      intro o ho a wc hk hb hd K hK
      cases ho
      go_simp
      exact hK _ _ ((Below.refl _ _).alloc (Nat.le_refl _) _) ⟨_, rfl, hb.size, Bk.new wc _ _⟩
    | _ + 14, h => exact absurd h (by omega)
  · intro vals w3 hb hR
    have v0 := hR 0 (by omega)
    have v1 := hR 1 (by omega)
    have v2 := hR 2 (by omega)
    have v3 := hR 3 (by omega)
    have v4 := hR 4 (by omega)
    have v5 := hR 5 (by omega)
    have v6 := hR 6 (by omega)
    have v7 := hR 7 (by omega)
    have v8 := hR 8 (by omega)
    have v9 := hR 9 (by omega)
    have v10 := hR 10 (by omega)
    have v11 := hR 11 (by omega)
    have v12 := hR 12 (by omega)
    have v13 := hR 13 (by omega)
    simp only [leaveD6] at v0 v1 v2 v3 v4 v5 v6 v7 v8 v9 v10 v11 v12 v13
    clear hR
    simp only [putAll, slotD6, if_true, if_false, Nat.reduceEqDiff, Nat.reduceAdd, List.setIfInBounds_toArray, List.set_cons_zero, List.set_cons_succ, List.drop_succ_cons, List.drop_zero, v0, v1, v2, v3, v4, v5, v6, v7, v8, v9, v10, v11, v12]
    clear v0 v1 v2 v3 v4 v5 v6 v7 v8 v9 v10 v11 v12
    obtain ⟨g6, v13, hg6, hbk⟩ := v13
    rw [v13]
    have K3 := HK3 hb
    have hb23 := HB2.out.trans (hb.mono HB2.out.size)
    have hne6 : w.heap.size ≠ g6 := by have := HZ2b.out; omega
    have hge6 : w.heap.size ≤ g6 := by have := HZ2b.out; omega
    obtain ⟨c0, c1, c2, c3, f0, f1, f2, f3⟩ := ent_cells hbk
    obtain ⟨-, -, -, -, KP⟩ := ent_puts hbk (.int .i64 (sq : Int)) (.int .i64 (nx : Int)) (.bool fn) (.slice none 0 0)
    have hX := put4_below w3 hge6 (.int .i64 (sq : Int)) (.int .i64 (nx : Int)) (.bool fn) (.slice none 0 0)
    have hY := put4_below w3 hg6 (.int .i64 (sq : Int)) (.int .i64 (nx : Int)) (.bool fn) (.slice none 0 0)
    have hZ := put4_far K3 hne6 (.int .i64 (sq : Int)) (.int .i64 (nx : Int)) (.bool fn) (.slice none 0 0)
    unfold put4 at hX hY hZ
    have HQ := Lib.hid (And.intro KP (And.intro (hb23.trans hX) (And.intro (hb.trans hY) hZ)))
    clear K3 hb23 KP hX hY hZ v13 hb hbk
    go_wp2_with fail
    obtain ⟨w4, hw4⟩ : ∃ w4, (((w3.setCell ⟨g6, 0, none⟩ (.int .i64 (sq : Int))).setCell ⟨g6, 1, none⟩ (.int .i64 (nx : Int))).setCell ⟨g6, 2, none⟩ (.bool fn)).setCell ⟨g6, 3, none⟩ (.slice none 0 0) = w4 := ⟨_, rfl⟩
    rw [hw4] at HQ ⊢
    have KP := Lib.hid HQ.out.1
    have HB4 := Lib.hid HQ.out.2.1
    have HB24 := Lib.hid HQ.out.2.2.1
    have K0 := Lib.hid HQ.out.2.2.2
    have hc16 : ¬ c = 16 := by omega
    clear hw4 HQ f0 f1 f2 f3 c0 c1 c2 c3
    refine wp_region_tail (by kernel_rfl) 6 64 slotD7 waitD7 (leaveD7 b o c gv ov cv cn) rfl
      (by kernel_rfl) (fun i v w w' _ _ h => by unfold leaveD7 at *; split at h <;> exact h) ?_ ?_
    · intro i hi
      match i, hi with
      | 0, _ =>
        intro o ho a wc hk hb hd K hK
        cases ho
        have e0 := hk.rest 0 (.slice (some ⟨b, o, none⟩) 128 c) (by omega) (by kernel_rfl) rfl
        rw [Array.getD_eq_getD_getElem?] at e0
        go_simp
        exact hK _ _ (Below.refl _ _) rfl
      | 1, _ =>
        intro o ho a wc hk hb hd K hK
        cases ho
        have e0 := hd 0 (by simp [waitD7])
        simp only [leaveD7, slotD7, Nat.reduceAdd, Array.getD_eq_getD_getElem?] at e0
        go_simp
        exact hK _ _ (Below.refl _ _) rfl
      | 2, _ =>
        intro o ho a wc hk hb hd K hK
        cases ho
        have e0 := hk.rest 4 (.slice (some ⟨gv, ov, none⟩) 5 cv) (by omega) (by kernel_rfl) rfl
        rw [Array.getD_eq_getD_getElem?] at e0
        go_simp
        exact hK _ _ (Below.refl _ _) rfl
      | 3, _ =>
        intro o ho a wc hk hb hd K hK
        cases ho
        have e0 := hd 2 (by simp [waitD7])
        simp only [leaveD7, slotD7, Nat.reduceAdd, Array.getD_eq_getD_getElem?] at e0
        go_simp
        exact hK _ _ (Below.refl _ _) rfl
      | 4, _ =>
        intro o ho a wc hk hb hd K hK
        cases ho
        have e0 := hd 3 (by simp [waitD7])
        simp only [leaveD7, slotD7, Nat.reduceAdd, Array.getD_eq_getD_getElem?] at e0
        obtain ⟨c0, c1, c2, c3⟩ := HKV.out _ (HB24.out.trans (hb.mono HB24.out.size))
        go_simp
        exact hK _ _ (Below.refl _ _) rfl
      | 5, _ =>
        intro o ho a wc hk hb hd K hK
        cases ho
        have e0 := hd 4 (by simp [waitD7])
        simp only [leaveD7, slotD7, Nat.reduceAdd, Array.getD_eq_getD_getElem?] at e0
        go_simp
        go_bits
        exact hK _ _ (Below.refl _ _) rfl
      | _ + 6, h => exact absurd h (by omega)
    · intro vals w5 hb hR
      have v0 := hR 0 (by omega)
      have v1 := hR 1 (by omega)
      have v2 := hR 2 (by omega)
      have v3 := hR 3 (by omega)
      have v4 := hR 4 (by omega)
      have v5 := hR 5 (by omega)
      simp only [leaveD7] at v0 v1 v2 v3 v4 v5
      clear hR
      simp only [putAll, slotD7, Nat.reduceAdd, List.setIfInBounds_toArray, List.set_cons_zero, List.set_cons_succ, List.drop_succ_cons, List.drop_zero, v0, v1, v2, v3, v4, v5]
      clear v0 v1 v2 v3 v4 v5
      have HB5 := Lib.hid (HB4.out.trans (hb.mono HB4.out.size))
      have KP := Lib.hid (KP.out.below hb KP.out.lt)
      have K0 := Lib.hid (K0.out.below hb K0.out.lt)
      clear hb HKV HB24 HB4 HB2
      go_wp2_with fail
      refine (entries_any (some ⟨b, o + 16, none⟩) 112 (c - 16) (cn : Int) w5).mono ?_
      rintro e w6 ⟨rfl, hw6⟩
      have HB6 : Hid (Below w.heap.size w w6) := by rw [hw6]; exact (HB5.out.alloc HB5.out.size _).alloc (by have := HB5.out.size; simp; omega) _
      have hb56 : Below w5.heap.size w5 w6 := by rw [hw6]; exact ((Below.refl _ _).alloc (Nat.le_refl _) _).alloc (by simp) _
      have K0 := Lib.hid (K0.out.below hb56 K0.out.lt)
      have KP := Lib.hid (KP.out.below hb56 KP.out.lt)
      have KS1 : Hid (Bk w6 w5.heap.size 26 #[.slice (some ⟨b, o + 16, none⟩) 112 (c - 16)]) := by rw [hw6]; exact (Bk.new w5 _ _).alloc _
      have KS2 : Hid (Bk w6 (w5.heap.size + 1) 3 #[.int .i64 (cn : Int)]) := by
        rw [hw6]
        have := Bk.new (w5.alloc (.cells #[.slice (some ⟨b, o + 16, none⟩) 112 (c - 16)] 26)) 3 #[.int .i64 (cn : Int)]
        rwa [World.alloc_size'] at this
      clear hw6 hb56
      go_wp2_with fail
      refine (wpIn_wide (n := 5)).1 ?_
      refine wpIn_rangeFunc_ownH rfl (by omega) (gf := 45) (lb := #[.pointer (some ⟨w5.heap.size, 0, none⟩), .pointer (some ⟨w5.heap.size + 1, 0, none⟩)]) rfl trivial (enters_of Tryd.func45 (by kernel_rfl) rfl)
        (entries_stops 4 w5.heap.size (w5.heap.size + 1) w.heap.size b (o + 16) (c - 16) cn (bs.drop 16) L w6 (by omega) (by rw [List.length_drop, HN.out]) (by omega) (by have := HCM.out; omega) hcnb HLn.out HE.out KS1.out KS2.out HB6.out.size
          (by have h := (HR.out.below HB6.out).drop 16; rw [add_plain] at h; rw [List.map_drop]; exact h))
        belowK_t (belowK_b HB6.out.size) (Below.refl _ _) (fun _ => rfl)
        (fun pre W => (∃ v, Bk W g6 24 #[.int .i64 (sq : Int), .int .i64 (nx : Int), .bool fn, v] ∧ W.ownsRow w.heap.size 60 4 v pre.length (ensV (pickP L pre))) ∧ Bk W w.heap.size 24 #[.int .i64 0, .int .i64 0, .bool false, .slice none 0 0] ∧ Below w.heap.size w W ∧ w6.heap.size ≤ W.heap.size)
        (fun _ _ _ => False)
        (OwnFrom.and (Own.from (holds_own _ _ _ _ _ (fun v => #[.int .i64 (sq : Int), .int .i64 (nx : Int), .bool fn, v]) _ _) _) (OwnFrom.and (Own.from (bk_own _ _ _) _) (OwnFrom.and (ownFrom_below (Nat.le_refl _) HB6.out.size) (fun _ _ _ _ hs hg _ => Nat.le_trans hs hg.size))))
        (fun co => fun _ _ _ _ hs _ _ => hs)
        ⟨⟨_, KP.out, World.ownsRow_nil _ _ _ _⟩, K0.out, HB6.out, Nat.le_refl _⟩
        (fun k a' W => ∃ Bx, w6.heap.size ≤ Bx ∧ Bk W Bx 60 (enV (L[k.1]'k.2)).toArray ∧ a' = { tmps := #[.slice (some ⟨b, o, none⟩) 128 c, undef, .pointer (some ⟨w.heap.size, 0, none⟩), .int .i64 0, .slice (some ⟨gv, ov, none⟩) 5 cv, .int .i64 0, .pointer (some ⟨g6, 0, none⟩), .pointer (some ⟨Bx, 0, none⟩), undef, .slice (some ⟨b, o, none⟩) 128 c, .bool true, .bool false, undef, .tuple #[.slice (some ⟨gv, ov, none⟩) 5 cv, .int .i64 0], .slice (some ⟨b, o, none⟩) 128 c, .slice (some ⟨w1.heap.size, 0, none⟩) 5 5, .tuple #[.slice (some ⟨gv, ov, none⟩) 5 cv, .int .i64 0], .slice (some ⟨gv, ov, none⟩) 5 cv, .int .i64 0, .int .i64 0, .bool false, undef, .slice (some ⟨gv, ov, none⟩) 5 cv, .pointer (some ⟨gv, ov + 1, none⟩), .int .u64 (sq : Int), .int .i64 (sq : Int), .slice (some ⟨gv, ov, none⟩) 5 cv, .pointer (some ⟨gv, ov + 2, none⟩), .int .u64 (nx : Int), .int .i64 (nx : Int), .slice (some ⟨gv, ov, none⟩) 5 cv, .pointer (some ⟨gv, ov + 4, none⟩), .int .u64 (en : Int), .bool fn, .agg #[.int .i64 (sq : Int), .int .i64 (nx : Int), .bool fn, .slice none 0 0], .slice (some ⟨b, o, none⟩) 128 c, .slice (some ⟨b, o + 16, none⟩) 112 (c - 16), .slice (some ⟨gv, ov, none⟩) 5 cv, .pointer (some ⟨gv, ov + 3, none⟩), .int .u64 (cn : Int), .int .i64 (cn : Int), .func (.func 45) #[] #[.pointer (some ⟨w5.heap.size, 0, none⟩), .pointer (some ⟨w5.heap.size + 1, 0, none⟩)], enG (L[k.1]'k.2), undef, undef, undef, undef, undef, undef, undef, undef, undef, undef, undef, undef, undef, undef, undef, undef, undef, undef, undef, undef, undef], defers := [] })
        (fun k a' => fun _ W W' row hs hg hrow => by
          obtain ⟨Bx, h1, h2, h3⟩ := hs
          exact ⟨Bx, h1, Own.from (bk_own (β := Unit) Bx 60 _) _ () W W' row h2 hg hrow, h3⟩) ?assign ?body ?done ?stop
      case assign =>
        intro l0 pre k W K hi hK
        obtain ⟨y, hy⟩ : ∃ y, L[k.1]'k.2 = y := ⟨_, rfl⟩
        rw [hy] at hK
        simp only [enF, hy, enG]
        simp only [enG] at hK
        obtain ⟨y1, y2, y3, y4⟩ := y
        obtain ⟨⟨v, hv, hrow⟩, h2, h4, h5⟩ := hi
        have hz := h4.size
        gi_wp2
        have hb := (Below.refl W.heap.size W).alloc (Nat.le_refl _) (.cells #[.int .i64 y1, .int .i64 y2, .int .i64 y3, .int .u32 (y4 : Int)] 60)
        exact hK _ _ (keepsFrom_up hb) (hb.mono hz) ⟨⟨v, hv.alloc _, hrow.alloc _⟩, h2.alloc _, h4.alloc hz _, by simp; omega⟩ ⟨W.heap.size, h5, Bk.new W _ _, rfl⟩
      case body =>
        rintro l0 pre k a' W hl0 - ⟨⟨v, hv, hrow⟩, hk0, hbw, hsz⟩ ⟨Bx, hBx, hkx, rfl⟩ hlt
        obtain ⟨y, hy⟩ : ∃ y, L[k.1]'k.2 = y := ⟨_, rfl⟩
        rw [hy] at hkx
        simp only [hy, enG]
        obtain ⟨y1, y2, y3, y4⟩ := y
        obtain ⟨c0, c1, c2, c3, -⟩ := ent_cells hkx
        obtain ⟨d0, d1, d2, d3, -⟩ := ent_cells hv
        obtain ⟨Av, cv', hve, hcv, hcm'⟩ := own_len hrow
        have HV := Lib.hid hv
        have HROW := Lib.hid hrow
        have HBW := Lib.hid hbw
        have HKK := Lib.hid hk0
        have HSZ := Lib.hid hsz
        have HYY := Lib.hid hy
        subst hve
        clear hv hrow hbw hk0 hkx hsz hy
        gi_wp2_with (gi_at_builtin; refine wpListIn_append_own _ rfl _ _ 22 rfl w.heap.size 60 i0 (.agg #[.int .i64 0, .int .i64 0, .int .i64 0, .int .u32 0]) 4 32 Tryd.underlying22 HI.out HZ0.out HZ1'.out HZ2.out rfl (by decide) _ _ _ rfl (HROW.out.alloc _) ⟨W.heap.size, 0, none⟩ 1 1 [.int .i64 y1, .int .i64 y2, .int .i64 y3, .int .u32 (y4 : Int)] rfl rfl ?c1 ?c2 ?c3 ?c4 ?c5 ?_)
        · exact ⟨rfl, rfl, rfl, rfl⟩
        · unfold maxLen; omega
        · omega
        · have := HBW.out.size; omega
        · intro v' wq hown' hgrow hne
          obtain ⟨g', cap', rfl⟩ := ownsRow_succ hown'
          obtain ⟨hq, hq', hown2, hko, hbl, hfar⟩ := app_kept (o := 3) (u := .slice (some ⟨g', 0, none⟩) (pre.length + 1) cap') HV.out (by decide) HROW.out HBW.out.size hge6 hown' hgrow
          have q3 := hq.cell 3
          have qf := hq.free 3
          have HQ : Hid (ownPostG w6.heap.size (Below w.heap.size) (fun pre W => (∃ v, Bk W g6 24 #[.int .i64 (sq : Int), .int .i64 (nx : Int), .bool fn, v] ∧ W.ownsRow w.heap.size 60 4 v pre.length (ensV (pickP L pre))) ∧ Bk W w.heap.size 24 #[.int .i64 0, .int .i64 0, .bool false, .slice none 0 0] ∧ Below w.heap.size w W ∧ w6.heap.size ≤ W.heap.size)
              (fun _ _ _ => False) (pre ++ [k]) W .normal { tmps := #[], defers := [] } (wq.setCell ⟨g6, 3, none⟩ (.slice (some ⟨g', 0, none⟩) (pre.length + 1) cap'))) := by
            refine ⟨hko.from _, hbl, ⟨_, hq', ?_⟩, hfar _ _ _ HKK.out (by decide) hne6, HBW.out.trans hbl, Nat.le_trans HSZ.out hbl.size⟩
            rw [pickP_snoc, HYY.out, ensV_append, List.length_append]
            exact hown2
          clear hown' hgrow hne hown2 hko hbl hfar hq' hq
          gi_wp2_with fail
          exact HQ.out
      case done =>
        rintro D xs W hD rfl ⟨⟨v, hv, hrow⟩, hk0, hbw, -⟩ hK
        rw [pickP_all, List.length_finRange] at hrow
        obtain ⟨Av, cv', hve, hcv, hcm'⟩ := own_len hrow
        subst hve
        obtain ⟨d0, d1, d2, d3, -⟩ := ent_cells hv
        have HV := Lib.hid hv
        have HROW := Lib.hid hrow
        have HBW := Lib.hid hbw
        have HK0 := Lib.hid hk0
        have HKD := Lib.hid hK
        have HDL : Hid (D < W.heap.size) := (Array.getElem?_eq_some_iff.1 hK).1
        clear hv hrow hbw hk0 hK
        by_cases hok : ptOk ⟨sq, nx, fn, L⟩ = true
        · have HEN := Lib.hid (sumEncode_yes sq nx fn W.heap.size Av L.length cv' L W rfl (Rd.own HROW.out) (Nat.le_refl _) hok HSM.out (HT.out.up HBW.out))
          unfold ptV at HEN
          have HOK := Lib.hid hok
          clear hok
          go_wp2_with fail
          refine HEN.out.mono ?_
          rintro e w8 ⟨g8, rfl, hg8, hbk8, hb8⟩
          have HV := Lib.hid (HV.out.below hb8 HV.out.lt)
          have HROW := Lib.hid (own_up HROW.out hb8)
          have HK0 := Lib.hid (HK0.out.below hb8 HK0.out.lt)
          have HBW := Lib.hid (HBW.out.trans (hb8.mono HBW.out.size))
          have HKD : Hid (w8.heap[D]? = some (.deferred (some []))) := (hb8.block D HDL.out).trans HKD.out
          obtain ⟨t, hteq⟩ : ∃ t, (octB ⟨sq, nx, fn, L⟩ == bs) = t := ⟨_, rfl⟩
          have HEQ := Lib.hid (bytesEqual_any w8.heap.size w.heap.size (some ⟨g8, 0, none⟩) (some ⟨b, o, none⟩) 128 128 128 c (octB ⟨sq, nx, fn, L⟩) bs t w8 (octB_len _ (headOk_yes (ptOk_yes HOK.out).1).2.2.2.2.2) HN.out (by simpa using Rd.bk hbk8) (HR.out.below HBW.out) hteq)
          have HQR : Hid (decQ bs = (if t then 0 else 3) ∧ decR bs = (if t then ⟨sq, nx, fn, L⟩ else noP)) := by
            have h1 : decQ bs = (if t then 0 else 3) := by rw [decQ, HHB.out, if_pos rfl, HP.out, HOK.out, hteq]; rfl
            refine ⟨h1, ?_⟩
            rw [decR, h1, HP.out]
            cases t <;> rfl
          obtain ⟨d0, d1, d2, d3, -⟩ := ent_cells HV.out
          clear hb8 hbk8 HEN hteq
          go_wp2_with fail
          refine HEQ.out.mono ?_
          rintro e w9 ⟨rfl, rfl⟩
          clear HEQ
          cases t
          · simp only [if_false, Bool.false_eq_true] at HQR
            obtain ⟨e0, e1, e2, e3, f0, f1, f2, f3⟩ := ent_cells HK0.out
            obtain ⟨-, -, -, -, KR⟩ := ent_puts HK0.out (.int .i64 0) (.int .i64 0) (.bool false) (.slice none 0 0)
            have hbw2 := (((HBW.out.setCell (p := ⟨w.heap.size, 0, none⟩) (Nat.le_refl _) (.int .i64 0)).setCell (p := ⟨w.heap.size, 1, none⟩) (Nat.le_refl _) (.int .i64 0)).setCell (p := ⟨w.heap.size, 2, none⟩) (Nat.le_refl _) (.bool false)).setCell (p := ⟨w.heap.size, 3, none⟩) (Nat.le_refl _) (.slice none 0 0)
            have hK' := ((((KeepsOthers.setCell w8 ⟨w.heap.size, 0, none⟩ (.int .i64 0)).trans (KeepsOthers.setCell _ ⟨w.heap.size, 1, none⟩ (.int .i64 0))).trans (KeepsOthers.setCell _ ⟨w.heap.size, 2, none⟩ (.bool false))).trans (KeepsOthers.setCell _ ⟨w.heap.size, 3, none⟩ (.slice none 0 0))).same D _ HKD.out rfl
            have HKR := Lib.hid (And.intro KR (And.intro hbw2 hK'))
            clear KR hbw2 hK'
            go_wp2
            obtain ⟨KR, hbw2, hK'⟩ := HKR.out
            refine ⟨by simp, .inl ⟨_, _, rfl, run_takeDeferred hK', ?_⟩⟩
            obtain ⟨r0, r1, r2, r3, -⟩ := ent_cells (bk_put KR hK' rfl (.deferred none))
            refine ⟨.tuple #[.agg #[.int .i64 0, .int .i64 0, .bool false, .slice none 0 0], .int .i64 3], ?_, _, (by rw [HQR.out.1]), (by rw [HQR.out.2]; exact PtAt.none_ _), hbw2.trans (belowK_b (w := w) (Nat.le_refl _) _ D _ _ (by have := HB6.out.size; omega) hK' rfl rfl)⟩
            simp [results, Tryd.f13, go_sem, r0, r1, r2, r3]
          · simp only [if_true] at HQR
            have hown2 := Lib.hid (own_far (o := 3) (u := .slice Av L.length cv') (((HK0.out.set_ 0 (.int .i64 (sq : Int))).set_ 1 (.int .i64 (nx : Int))).set_ 2 (.bool fn)) (by decide) (own_far (o := 2) (u := .bool fn) ((HK0.out.set_ 0 (.int .i64 (sq : Int))).set_ 1 (.int .i64 (nx : Int))) (by decide) (own_far (o := 1) (u := .int .i64 (nx : Int)) (HK0.out.set_ 0 (.int .i64 (sq : Int))) (by decide) (own_far (o := 0) (u := .int .i64 (sq : Int)) HK0.out (by decide) HROW.out))))
            obtain ⟨e0, e1, e2, e3, f0, f1, f2, f3⟩ := ent_cells HK0.out
            obtain ⟨-, -, -, -, KR⟩ := ent_puts HK0.out (.int .i64 (sq : Int)) (.int .i64 (nx : Int)) (.bool fn) (.slice Av L.length cv')
            have hbw2 := (((HBW.out.setCell (p := ⟨w.heap.size, 0, none⟩) (Nat.le_refl _) (.int .i64 (sq : Int))).setCell (p := ⟨w.heap.size, 1, none⟩) (Nat.le_refl _) (.int .i64 (nx : Int))).setCell (p := ⟨w.heap.size, 2, none⟩) (Nat.le_refl _) (.bool fn)).setCell (p := ⟨w.heap.size, 3, none⟩) (Nat.le_refl _) (.slice Av L.length cv')
            have hK' := ((((KeepsOthers.setCell w8 ⟨w.heap.size, 0, none⟩ (.int .i64 (sq : Int))).trans (KeepsOthers.setCell _ ⟨w.heap.size, 1, none⟩ (.int .i64 (nx : Int)))).trans (KeepsOthers.setCell _ ⟨w.heap.size, 2, none⟩ (.bool fn))).trans (KeepsOthers.setCell _ ⟨w.heap.size, 3, none⟩ (.slice Av L.length cv'))).same D _ HKD.out rfl
            have HKR := Lib.hid (And.intro KR (And.intro hbw2 hK'))
            clear KR hbw2 hK'
            go_wp2
            obtain ⟨KR, hbw2, hK'⟩ := HKR.out
            refine ⟨by simp, .inl ⟨_, _, rfl, run_takeDeferred hK', ?_⟩⟩
            obtain ⟨r0, r1, r2, r3, -⟩ := ent_cells (bk_put KR hK' rfl (.deferred none))
            refine ⟨.tuple #[.agg #[.int .i64 (sq : Int), .int .i64 (nx : Int), .bool fn, .slice Av L.length cv'], .int .i64 0], ?_, _, (by rw [HQR.out.1]), (by rw [HQR.out.2]; exact ⟨Av, cv', rfl, hcv, hcm', Rd.own (ownsRow_putObj hown2.out (.deferred none) hK' rfl)⟩), hbw2.trans (belowK_b (w := w) (Nat.le_refl _) _ D _ _ (by have := HB6.out.size; omega) hK' rfl rfl)⟩
            simp [results, Tryd.f13, go_sem, r0, r1, r2, r3]
        · have hok : ptOk ⟨sq, nx, fn, L⟩ = false := by simpa using hok
          have HEN := Lib.hid (sumEncode_no sq nx fn W.heap.size Av L.length cv' L W rfl (by have := HLn.out; omega) (Rd.own HROW.out) (Nat.le_refl _) hok)
          unfold ptV at HEN
          have HQR : Hid (decQ bs = 3 ∧ decR bs = noP) := by
            have h1 : decQ bs = 3 := by rw [decQ, HHB.out, if_pos rfl, HP.out, hok]; rfl
            exact ⟨h1, by rw [decR, h1]; rfl⟩
          clear hok
          go_wp2_with fail
          refine HEN.out.mono ?_
          rintro e w8 ⟨rfl, hb8⟩
          have HK0 := Lib.hid (HK0.out.below hb8 HK0.out.lt)
          have HBW := Lib.hid (HBW.out.trans (hb8.mono HBW.out.size))
          have HKD : Hid (w8.heap[D]? = some (.deferred (some []))) := (hb8.block D HDL.out).trans HKD.out
          clear hb8 HEN d0 d1 d2 d3
          obtain ⟨e0, e1, e2, e3, f0, f1, f2, f3⟩ := ent_cells HK0.out
          obtain ⟨-, -, -, -, KR⟩ := ent_puts HK0.out (.int .i64 0) (.int .i64 0) (.bool false) (.slice none 0 0)
          have hbw2 := (((HBW.out.setCell (p := ⟨w.heap.size, 0, none⟩) (Nat.le_refl _) (.int .i64 0)).setCell (p := ⟨w.heap.size, 1, none⟩) (Nat.le_refl _) (.int .i64 0)).setCell (p := ⟨w.heap.size, 2, none⟩) (Nat.le_refl _) (.bool false)).setCell (p := ⟨w.heap.size, 3, none⟩) (Nat.le_refl _) (.slice none 0 0)
          have hK' := ((((KeepsOthers.setCell w8 ⟨w.heap.size, 0, none⟩ (.int .i64 0)).trans (KeepsOthers.setCell _ ⟨w.heap.size, 1, none⟩ (.int .i64 0))).trans (KeepsOthers.setCell _ ⟨w.heap.size, 2, none⟩ (.bool false))).trans (KeepsOthers.setCell _ ⟨w.heap.size, 3, none⟩ (.slice none 0 0))).same D _ HKD.out rfl
          have HKR := Lib.hid (And.intro KR (And.intro hbw2 hK'))
          clear KR hbw2 hK'
          go_wp2
          obtain ⟨KR, hbw2, hK'⟩ := HKR.out
          refine ⟨by simp, .inl ⟨_, _, rfl, run_takeDeferred hK', ?_⟩⟩
          obtain ⟨r0, r1, r2, r3, -⟩ := ent_cells (bk_put KR hK' rfl (.deferred none))
          refine ⟨.tuple #[.agg #[.int .i64 0, .int .i64 0, .bool false, .slice none 0 0], .int .i64 3], ?_, _, (by rw [HQR.out.1]), (by rw [HQR.out.2]; exact PtAt.none_ _), hbw2.trans (belowK_b (w := w) (Nat.le_refl _) _ D _ _ (by have := HB6.out.size; omega) hK' rfl rfl)⟩
          simp [results, Tryd.f13, go_sem, r0, r1, r2, r3]
      case stop =>
        rintro D co pre W hD - hf
        exact hf.elim
end Go.Proofs.YtjibjojnkieliaaDoor
