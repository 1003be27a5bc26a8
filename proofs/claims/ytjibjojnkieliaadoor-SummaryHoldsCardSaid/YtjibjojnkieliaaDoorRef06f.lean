/-
  What the document's part of a block of layer 6 is. (Printed by wip/tools/ref06f.py.)
-/
import Derived.Test.YtjibjojnkieliaaDoorRef06e
import Derived.Deep.CutRange
namespace Go.Proofs.YtjibjojnkieliaaDoor
open Go.RowKit
set_option linter.unusedVariables false

theorem get_val (bs : List UInt8) (i : Nat) (h : i < (str bs).size) : ((str bs)[i]'h).toNat = valB ((bs.drop i).take 1) := by
  have h' : i < bs.length := by rw [← str_size]; exact h
  have e : (bs.drop i).take 1 = [bs[i]] := by rw [List.drop_eq_getElem_cons h']; rfl
  rw [str_get, e]
  simp [valB]
theorem get_val' (bs : List UInt8) (i : Nat) (h : i < (str bs).size) (v : Nat) (hv : valB ((bs.drop i).take 1) = v) : (((str bs)[i]'h).toNat : Int) = (v : Int) := by rw [get_val, hv]
/-- a row appended to, and stored into a block of another type -/
theorem app_kept0 {W w1 : World} {n₀ Bp o : Nat} {t e : TypeId} {size : Nat} {v v' u : Value} {k m : Nat} {xs ys : List Value} {cs : Array Value}
    (hv : Bk W Bp t cs) (hte : e ≠ t) (hrow : W.ownsRow n₀ e size v k xs) (hn₀ : n₀ ≤ W.heap.size) (hB : n₀ ≤ Bp) (hown' : w1.ownsRow n₀ e size v' m ys) (hgrow : W.grownBy w1 v.ownBlock) :
    Bk w1 Bp t cs ∧ Bk (w1.setCell ⟨Bp, o, none⟩ u) Bp t (cs.setIfInBounds o u) ∧ (w1.setCell ⟨Bp, o, none⟩ u).ownsRow n₀ e size v' m ys ∧ Below n₀ W (w1.setCell ⟨Bp, o, none⟩ u)
    ∧ (∀ g t' cs', Bk W g t' cs' → e ≠ t' → g ≠ Bp → Bk (w1.setCell ⟨Bp, o, none⟩ u) g t' cs') := by
  have hv1 : Bk w1 Bp t cs := hv.grown hgrow (hv.ne_own hrow hte)
  refine ⟨hv1, hv1.set_ o u, own_far hv1 hte hown', ?_, fun g t' cs' hg hne hgB => (hg.grown hgrow (hg.ne_own hrow hne)).far hgB u⟩
  refine ((Below.refl n₀ W).grown hgrow hn₀ fun j ej => ?_).setCell (p := ⟨Bp, o, none⟩) hB u
  rcases hrow.2 with ⟨rfl, _⟩ | ⟨g, cap, cur, rfl, hb, _, _⟩
  · simp [Value.ownBlock] at ej
  · obtain rfl : g = j := by simpa [Value.ownBlock] using ej
    exact hb
/-- a new slice of one entry -/
def OneEn (base : Nat) (a0 a1 a2 a3 : Nat) (v : Value) (w : World) : Prop := ∃ g, v = .slice (some ⟨g, 0, none⟩) 1 1 ∧ base ≤ g ∧ Bk w g 60 #[.int .i64 (a0 : Int), .int .i64 (a1 : Int), .int .i64 (a2 : Int), .int .u32 (a3 : Int)]
theorem OneEn.up {base a0 a1 a2 a3 : Nat} {v : Value} {w w' : World} (h : OneEn base a0 a1 a2 a3 v w) (hb : Below w.heap.size w w') : OneEn base a0 a1 a2 a3 v w' := by
  obtain ⟨g, rfl, hg, hr⟩ := h
  exact ⟨g, rfl, hg, hr.below hb hr.lt⟩
def slotF3 (i : Nat) : Nat := if i = 10 then 4 else 12 + i
def waitF3 : Nat → List Nat
  | 1 => [0]
  | 2 => [1]
  | 4 => [3]
  | 5 => [4]
  | 7 => [6]
  | 8 => [7]
  | 9 => [2, 5, 8]
  | 11 => [9, 10]
  | _ => []
def leaveF3 (base sq nx en : Nat) (fn : Bool) (bs : List UInt8) : Nat → Value → World → Prop
  | 0, v, _ => v = .string (str bs)
  | 1, v, _ => v = .int .u64 (sq : Int)
  | 2, v, _ => v = .int .i64 (sq : Int)
  | 3, v, _ => v = .string (str bs)
  | 4, v, _ => v = .int .u64 (nx : Int)
  | 5, v, _ => v = .int .i64 (nx : Int)
  | 6, v, _ => v = .string (str bs)
  | 7, v, _ => v = .int .u8 (en : Int)
  | 8, v, _ => v = .bool fn
  | 9, v, _ => v = .agg #[.int .i64 (sq : Int), .int .i64 (nx : Int), .bool fn, .slice none 0 0]
  | 10, v, w => NewPt base v w
  | _, _, _ => True
def slotF11 (i : Nat) : Nat := 36 + i
def waitF11 : Nat → List Nat
  | 1 => [0]
  | 4 => [2, 3]
  | 5 => [4]
  | 8 => [7]
  | 9 => [6, 8]
  | 10 => [9]
  | 13 => [12]
  | 14 => [11, 13]
  | 15 => [14]
  | 18 => [17]
  | 19 => [16, 18]
  | 20 => [19]
  | 21 => [5, 10, 15, 20]
  | 22 => [21]
  | 23 => [1, 22]
  | _ => []
def leaveF11 (base gp t t1 t2 t4 k cv a0 a1 a2 a3 : Nat) (Av : Option Addr) (bs : List UInt8) : Nat → Value → World → Prop
  | 0, v, _ => v = .pointer (some ⟨gp, 3, none⟩)
  | 1, v, _ => v = .slice Av k cv
  | 2, v, _ => v = .string (str bs)
  | 3, v, _ => v = .int .i64 (t : Int)
  | 4, v, _ => v = .int .u8 (a0 : Int)
  | 5, v, _ => v = .int .i64 (a0 : Int)
  | 6, v, _ => v = .string (str bs)
  | 7, v, _ => v = .int .i64 (t : Int)
  | 8, v, _ => v = .int .i64 (t1 : Int)
  | 9, v, _ => v = .int .u8 (a1 : Int)
  | 10, v, _ => v = .int .i64 (a1 : Int)
  | 11, v, _ => v = .string (str bs)
  | 12, v, _ => v = .int .i64 (t : Int)
  | 13, v, _ => v = .int .i64 (t2 : Int)
  | 14, v, _ => v = .int .u64 (a2 : Int)
  | 15, v, _ => v = .int .i64 (a2 : Int)
  | 16, v, _ => v = .string (str bs)
  | 17, v, _ => v = .int .i64 (t : Int)
  | 18, v, _ => v = .int .i64 (t4 : Int)
  | 19, v, _ => v = .int .u64 (a3 : Int)
  | 20, v, _ => v = .int .u32 (a3 : Int)
  | 21, v, _ => v = .agg #[.int .i64 (a0 : Int), .int .i64 (a1 : Int), .int .i64 (a2 : Int), .int .u32 (a3 : Int)]
  | 22, v, w => OneEn base a0 a1 a2 a3 v w
  | _, _, _ => True
theorem leaveF3_mono (base sq nx en : Nat) (fn : Bool) (bs : List UInt8) (w0 : World) (i : Nat) (v' : Value) (w w' : World) (_ : Below w0.heap.size w0 w) (hb : Below w.heap.size w w') (h : leaveF3 base sq nx en fn bs i v' w) : leaveF3 base sq nx en fn bs i v' w' := by
  unfold leaveF3 at *
  split at h <;> first | exact h | exact NewPt.up h hb
theorem leaveF11_mono (base gp t t1 t2 t4 k cv a0 a1 a2 a3 : Nat) (Av : Option Addr) (bs : List UInt8) (w0 : World) (i : Nat) (v' : Value) (w w' : World) (_ : Below w0.heap.size w0 w) (hb : Below w.heap.size w w') (h : leaveF11 base gp t t1 t2 t4 k cv a0 a1 a2 a3 Av bs i v' w) : leaveF11 base gp t t1 t2 t4 k cv a0 a1 a2 a3 Av bs i v' w' := by
  unfold leaveF11 at *
  split at h <;> first | exact h | exact OneEn.up h hb

set_option maxHeartbeats 1000000 in
theorem refDecode_short (bs : List UInt8) (w : World) (hl : bs.length ≤ 9223372036854775807) (hh : heldB bs = false) :
    Calls Tryd.prog 16 #[.string (str bs)] w fun e w' => ∃ v, e = .returned (.tuple #[v, .int .i64 (decQ bs)]) ∧ PtAt w' v (decR bs) ∧ Below w.heap.size w w' := by
  have HQR : Hid (decQ bs = 5 ∧ decR bs = noP) := ⟨decQ_short hh, by rw [decR, decQ_short hh]; rfl⟩
  have K0 := Lib.hid (Bk.new w 24 #[.int .i64 0, .int .i64 0, .bool false, .slice none 0 0])
  have HB0 := Lib.hid ((Below.refl w.heap.size w).alloc (Nat.le_refl _) (.cells #[.int .i64 0, .int .i64 0, .bool false, .slice none 0 0] 24))
  have HH := Lib.hid (refHeld_any bs false (w.alloc (.cells #[.int .i64 0, .int .i64 0, .bool false, .slice none 0 0] 24)) hl hh)
  clear hh
  go_enter Tryd.func16, Tryd.ntmps16
  go_wp2_with fail
  refine HH.out.mono ?_
  rintro e w1 ⟨rfl, hb1⟩
  have HBW := Lib.hid (HB0.out.trans (hb1.mono HB0.out.size))
  have HK0 := Lib.hid (K0.out.below hb1 K0.out.lt)
  clear hb1 HH K0 HB0
  obtain ⟨e0, e1, e2, e3, f0, f1, f2, f3⟩ := ent_cells HK0.out
  obtain ⟨r0, r1, r2, r3, -⟩ := ent_puts HK0.out (.int .i64 0) (.int .i64 0) (.bool false) (.slice none 0 0)
  have HBE := Lib.hid ((((HBW.out.setCell (p := ⟨w.heap.size, 0, none⟩) (Nat.le_refl _) (.int .i64 0)).setCell (p := ⟨w.heap.size, 1, none⟩) (Nat.le_refl _) (.int .i64 0)).setCell (p := ⟨w.heap.size, 2, none⟩) (Nat.le_refl _) (.bool false)).setCell (p := ⟨w.heap.size, 3, none⟩) (Nat.le_refl _) (.slice none 0 0))
  go_wp2
  refine bodyPost_ret (v := .tuple #[.agg #[.int .i64 0, .int .i64 0, .bool false, .slice none 0 0], .int .i64 5]) (by simp [results, Tryd.results16, go_sem, r0, r1, r2, r3]) rfl ⟨_, by rw [HQR.out.1], by rw [HQR.out.2]; exact PtAt.none_ _, HBE.out⟩
set_option maxRecDepth 100000 in
set_option maxHeartbeats 8000000 in
theorem refDecode_held (bs : List UInt8) (w : World) (hn : bs.length = 128) (hh : heldB bs = true) :
    Calls Tryd.prog 16 #[.string (str bs)] w fun e w' => ∃ v, e = .returned (.tuple #[v, .int .i64 (decQ bs)]) ∧ PtAt w' v (decR bs) ∧ Below w.heap.size w w' := by
  obtain ⟨i0, hi, hz0, hz1, hz2⟩ := info_parts info_ent
  have HI := Lib.hid hi
  have HZ0 := Lib.hid hz0
  have HZ1 := Lib.hid hz1
  have HZ2 := Lib.hid hz2
  obtain ⟨sq, hsq⟩ : ∃ x, valB ((bs.drop 4).take 6) = x := ⟨_, rfl⟩
  obtain ⟨nx, hnx⟩ : ∃ x, valB ((bs.drop 10).take 4) = x := ⟨_, rfl⟩
  obtain ⟨cn, hcn⟩ : ∃ x, valB ((bs.drop 14).take 1) = x := ⟨_, rfl⟩
  obtain ⟨en, hen⟩ : ∃ x, valB ((bs.drop 15).take 1) = x := ⟨_, rfl⟩
  obtain ⟨fn, hfn⟩ : ∃ x, ((en : Int) == 1) = x := ⟨_, rfl⟩
  have hsqb : sq < 281474976710656 := by rw [← hsq]; exact seqN_lt bs
  have hnxb : nx < 4294967296 := by rw [← hnx]; exact nextN_lt bs
  have hcnb : cn < 256 := by rw [← hcn]; exact cntN_lt bs
  have henb : en < 256 := by rw [← hen]; exact endN_lt bs
  have hsz : (str bs).size = 128 := by rw [str_size, hn]
  have HSQ := Lib.hid hsq
  have HNX := Lib.hid hnx
  have HCN := Lib.hid hcn
  have HEN := Lib.hid hen
  have HFN := Lib.hid hfn
  have HN := Lib.hid hn
  have HHB := Lib.hid hh
  have K0 := Lib.hid (Bk.new w 24 #[.int .i64 0, .int .i64 0, .bool false, .slice none 0 0])
  have HB0 := Lib.hid ((Below.refl w.heap.size w).alloc (Nat.le_refl _) (.cells #[.int .i64 0, .int .i64 0, .bool false, .slice none 0 0] 24))
  have HH := Lib.hid (refHeld_any bs true (w.alloc (.cells #[.int .i64 0, .int .i64 0, .bool false, .slice none 0 0] 24)) (by omega) hh)
  have hsz15 : 15 < (str bs).size := by omega
  have hsz14 : 14 < (str bs).size := by omega
  clear hi hz0 hz1 hz2 hsq hnx hcn hen hfn hn hh
  go_enter Tryd.func16, Tryd.ntmps16
  go_wp2_with fail
  refine HH.out.mono ?_
  rintro e w1 ⟨rfl, hb1⟩
  have HB1 := Lib.hid (HB0.out.trans (hb1.mono HB0.out.size))
  have K0 := Lib.hid (K0.out.below hb1 K0.out.lt)
  clear hb1 HH HB0
  have HLT1 := Lib.hid K0.out.lt
  go_wp2_with fail
  refine wp_region_tail (by kernel_rfl) 11 72 slotF3 waitF3 (leaveF3 w1.heap.size sq nx en fn bs) rfl
    (by kernel_rfl) (leaveF3_mono _ _ _ _ _ _ _) ?_ ?_
  · intro i hi
    match i, hi with
    | 0, _ =>
      intro o ho a wc hk hb hd K hK
      cases ho
      have e0 := hk.rest 0 (.string (str bs)) (by omega) (by kernel_rfl) rfl
      rw [Array.getD_eq_getD_getElem?] at e0
      go_simp
      exact hK _ _ (Below.refl _ _) rfl
    | 1, _ =>
      intro o ho a wc hk hb hd K hK
      cases ho
      have e0 := hd 0 (by simp [waitF3])
      simp only [leaveF3, slotF3, if_false, Nat.reduceEqDiff, Nat.reduceAdd, Array.getD_eq_getD_getElem?] at e0
      go_simp
      refine (Get_any bs 4 6 wc (by rw [HN.out]; omega) (by omega) (by rw [HN.out]; omega)).mono ?_
      rintro e w3 ⟨rfl, rfl⟩
      exact hK _ _ (Below.refl _ _) (by show Value.int _ _ = _; rw [HSQ.out])
    | 2, _ =>
      intro o ho a wc hk hb hd K hK
      cases ho
      have e0 := hd 1 (by simp [waitF3])
      simp only [leaveF3, slotF3, if_false, Nat.reduceEqDiff, Nat.reduceAdd, Array.getD_eq_getD_getElem?] at e0
      go_simp
      go_bits
      exact hK _ _ (Below.refl _ _) rfl
    | 3, _ =>
      intro o ho a wc hk hb hd K hK
      cases ho
      have e0 := hk.rest 0 (.string (str bs)) (by omega) (by kernel_rfl) rfl
      rw [Array.getD_eq_getD_getElem?] at e0
      go_simp
      exact hK _ _ (Below.refl _ _) rfl
    | 4, _ =>
      intro o ho a wc hk hb hd K hK
      cases ho
      have e0 := hd 3 (by simp [waitF3])
      simp only [leaveF3, slotF3, if_false, Nat.reduceEqDiff, Nat.reduceAdd, Array.getD_eq_getD_getElem?] at e0
      go_simp
      refine (Get_any bs 10 4 wc (by rw [HN.out]; omega) (by omega) (by rw [HN.out]; omega)).mono ?_
      rintro e w3 ⟨rfl, rfl⟩
      exact hK _ _ (Below.refl _ _) (by show Value.int _ _ = _; rw [HNX.out])
    | 5, _ =>
      intro o ho a wc hk hb hd K hK
      cases ho
      have e0 := hd 4 (by simp [waitF3])
      simp only [leaveF3, slotF3, if_false, Nat.reduceEqDiff, Nat.reduceAdd, Array.getD_eq_getD_getElem?] at e0
      go_simp
      go_bits
      exact hK _ _ (Below.refl _ _) rfl
    | 6, _ =>
      intro o ho a wc hk hb hd K hK
      cases ho
      have e0 := hk.rest 0 (.string (str bs)) (by omega) (by kernel_rfl) rfl
      rw [Array.getD_eq_getD_getElem?] at e0
      go_simp
      exact hK _ _ (Below.refl _ _) rfl
    | 7, _ =>
      intro o ho a wc hk hb hd K hK
      cases ho
      have e0 := hd 6 (by simp [waitF3])
      simp only [leaveF3, slotF3, if_false, Nat.reduceEqDiff, Nat.reduceAdd, Array.getD_eq_getD_getElem?] at e0
      go_simp
      exact hK _ _ (Below.refl _ _) (by show Value.int _ _ = _; rw [get_val' bs 15 _ en HEN.out])
    | 8, _ =>
      intro o ho a wc hk hb hd K hK
      cases ho
      have e0 := hd 7 (by simp [waitF3])
      simp only [leaveF3, slotF3, if_false, Nat.reduceEqDiff, Nat.reduceAdd, Array.getD_eq_getD_getElem?] at e0
      go_simp
      exact hK _ _ (Below.refl _ _) (by show Value.bool _ = _; rw [HFN.out])
    | 9, _ =>
      intro o ho a wc hk hb hd K hK
      cases ho
      have e0 := hd 2 (by simp [waitF3])
      have e1 := hd 5 (by simp [waitF3])
      have e2 := hd 8 (by simp [waitF3])
      simp only [leaveF3, slotF3, if_false, Nat.reduceEqDiff, Nat.reduceAdd, Array.getD_eq_getD_getElem?] at e0 e1 e2
      go_simp
      exact hK _ _ (Below.refl _ _) rfl
    | 10, _ =>
      intro o ho a wc hk hb hd K hK
      cases ho
      go_simp
      exact hK _ _ ((Below.refl _ _).alloc (Nat.le_refl _) _) ⟨_, rfl, hb.size, Bk.new wc _ _⟩
    | _ + 11, h => exact absurd h (by omega)
  · intro vals w3 hb hR
    have v0 := hR 0 (by omega)
    have v1 := hR 1 (by omega)
    have v2 := hR 2 (by omega)
    have v3 := hR 3 (by omega)
    have v4 := hR 4 (by omega)
    have v5 := hR 5 (by omega)
    have v6 := hR 6 (by omega)
    have v7 := hR 7 (by omega)
    have v8 := hR 8 (by omega)
    have v9 := hR 9 (by omega)
    have v10 := hR 10 (by omega)
    simp only [leaveF3] at v0 v1 v2 v3 v4 v5 v6 v7 v8 v9 v10
    clear hR
    simp only [putAll, slotF3, if_true, if_false, Nat.reduceEqDiff, Nat.reduceAdd, List.setIfInBounds_toArray, List.set_cons_zero, List.set_cons_succ, List.drop_succ_cons, List.drop_zero, v0, v1, v2, v3, v4, v5, v6, v7, v8, v9]
    clear v0 v1 v2 v3 v4 v5 v6 v7 v8 v9
    obtain ⟨gp, v10, hgp, hbk⟩ := v10
    rw [v10]
    have hltp : w.heap.size < gp := by have := HLT1.out; omega
    have hlep : w.heap.size ≤ gp := by omega
    have K3 := K0.out.below hb K0.out.lt
    obtain ⟨c0, c1, c2, c3, f0, f1, f2, f3⟩ := ent_cells hbk
    obtain ⟨-, -, -, -, KP⟩ := ent_puts hbk (.int .i64 (sq : Int)) (.int .i64 (nx : Int)) (.bool fn) (.slice none 0 0)
    have hX := put4_below w3 hlep (.int .i64 (sq : Int)) (.int .i64 (nx : Int)) (.bool fn) (.slice none 0 0)
    have hZ := put4_far K3 (show w.heap.size ≠ gp by omega) (.int .i64 (sq : Int)) (.int .i64 (nx : Int)) (.bool fn) (.slice none 0 0)
    unfold put4 at hX hZ
    have HQ := Lib.hid (And.intro KP (And.intro ((HB1.out.trans (hb.mono HB1.out.size)).trans hX) hZ))
    have h14 : (((str bs)[14]'hsz14).toNat : Int) = (cn : Int) := get_val' bs 14 hsz14 cn HCN.out
    clear K3 KP hX hZ v10 hb hbk HB1 K0
    go_upto_region 4 with fail
    obtain ⟨w4, hw4⟩ : ∃ w4, (((w3.setCell ⟨gp, 0, none⟩ (.int .i64 (sq : Int))).setCell ⟨gp, 1, none⟩ (.int .i64 (nx : Int))).setCell ⟨gp, 2, none⟩ (.bool fn)).setCell ⟨gp, 3, none⟩ (.slice none 0 0) = w4 := ⟨_, rfl⟩
    rw [hw4] at HQ ⊢
    have KP := Lib.hid HQ.out.1
    have HBW := Lib.hid HQ.out.2.1
    have HK0 := Lib.hid HQ.out.2.2
    clear hw4 HQ f0 f1 f2 f3 c0 c1 c2 c3
    by_cases h13 : cn ≤ 13
    · go_wp2_with fail
      clear h14
      obtain ⟨L, hL⟩ : ∃ L, ensAt bs 16 cn = L := ⟨_, rfl⟩
      have HLe : Hid (L.length = cn) := by show _ = _; rw [← hL, ensAt_length]
      have HLg : Hid (∀ k, k < cn → L[k]? = some (enAt bs (16 + 8 * k))) := fun k hk => by rw [← hL]; exact ensAt_get bs 16 cn k hk
      have HLs : Hid (sumsOk L) := by show sumsOk L; rw [← hL]; exact ensAt_sums _ _ _
      have HP : Hid (decP bs = ⟨sq, nx, fn, L⟩) := by
        show _ = _
        unfold decP
        rw [show seqN bs = sq from HSQ.out, show nextN bs = nx from HNX.out, show endN bs = en from HEN.out, show cntN bs = cn from HCN.out, show min cn 14 = cn from by omega, hL]
        congr 1
        rw [← HFN.out, Bool.eq_iff_iff, beq_iff_eq, beq_iff_eq]
        omega
      clear hL
      go_loopw [6] (fun i wr => ∃ (k : Nat) (v : Value), k ≤ cn ∧ i = .int .i64 k ∧ Hid (Bk wr gp 24 #[.int .i64 (sq : Int), .int .i64 (nx : Int), .bool fn, v]) ∧ Hid (wr.ownsRow w.heap.size 60 4 v k (ensV (L.take k))) ∧ Hid (Bk wr w.heap.size 24 #[.int .i64 0, .int .i64 0, .bool false, .slice none 0 0]) ∧ Hid (Below w.heap.size w wr)) (fun i _ => cn - (intOf i).toNat)
      case atStart => exact ⟨0, _, Nat.zero_le _, rfl, KP.out, by simpa [ensV, Hid] using World.ownsRow_nil _ w.heap.size _ 4, HK0.out, HBW.out⟩
      case round =>
        obtain ⟨k, v, hk, rfl, HKPr, HROW, HKZ, HBR⟩ := hrel
        clear KP HK0 HBW
        have HK0 := HKZ
        have HBW := HBR
        clear HKZ HBR
        obtain ⟨Av, cv, hve, hcv, hcm⟩ := own_len HROW.out
        subst hve
        by_cases hlt : k < cn
        · have hLk := HLg.out k hlt
          obtain ⟨t, ht⟩ : ∃ t, 16 + 8 * k = t := ⟨_, rfl⟩
          obtain ⟨t1, hj1⟩ : ∃ x, t + 1 = x := ⟨_, rfl⟩
          obtain ⟨t2, hj2⟩ : ∃ x, t + 2 = x := ⟨_, rfl⟩
          obtain ⟨t4, hj4⟩ : ∃ x, t + 4 = x := ⟨_, rfl⟩
          obtain ⟨a0, ha0⟩ : ∃ x, valB ((bs.drop t).take 1) = x := ⟨_, rfl⟩
          obtain ⟨a1, ha1⟩ : ∃ x, valB ((bs.drop t1).take 1) = x := ⟨_, rfl⟩
          obtain ⟨a2, ha2⟩ : ∃ x, valB ((bs.drop t2).take 2) = x := ⟨_, rfl⟩
          obtain ⟨a3, ha3⟩ : ∃ x, valB ((bs.drop t4).take 4) = x := ⟨_, rfl⟩
          obtain ⟨b0, b1, b2, b3⟩ := enAt_lt bs t
          rw [hj1] at b1
          rw [hj2] at b2
          rw [hj4] at b3
          rw [ha0] at b0
          rw [ha1] at b1
          rw [ha2] at b2
          rw [ha3] at b3
          have HLK : Hid (L[k]? = some ⟨a0, a1, a2, a3⟩) := by
            show _ = _
            rw [hLk, ht, enAt, hj1, hj2, hj4, ha0, ha1, ha2, ha3]
          have HA0 := Lib.hid ha0
          have HA1 := Lib.hid ha1
          have HA2 := Lib.hid ha2
          have HA3 := Lib.hid ha3
          have htt : (16 : Int) + 8 * (k : Int) = (t : Int) := by omega
          have hs0 : t < (str bs).size := by omega
          have hs1 : t1 < (str bs).size := by omega
          have HT1 : Hid ((t : Int) + 1 = (t1 : Int)) := by show _ = _; omega
          have HT2 : Hid ((t : Int) + 2 = (t2 : Int)) := by show _ = _; omega
          have HT4 : Hid ((t : Int) + 4 = (t4 : Int)) := by show _ = _; omega
          have HI0 : Hid ((t : Int) < 128) := by show _ < _; omega
          have HI1 : Hid ((t1 : Int) < 128) := by show _ < _; omega
          have HKP : Hid (∀ w', Below wr.heap.size wr w' → Bk w' gp 24 #[.int .i64 (sq : Int), .int .i64 (nx : Int), .bool fn, .slice Av k cv]) := fun w' hb => HKPr.out.below hb HKPr.out.lt
          have HTT := Lib.hid (show t + 8 ≤ 128 by omega)
          have hb2' : t2 + 2 ≤ 128 := by omega
          have hb4' : t4 + 4 ≤ 128 := by omega
          clear ha0 ha1 ha2 ha3 hLk ht hj1 hj2 hj4
          go_wp2_with fail
          have ht8 := HTT.out
          refine wp_region_tail (by kernel_rfl) 23 72 slotF11 waitF11 (leaveF11 wr.heap.size gp t t1 t2 t4 k cv a0 a1 a2 a3 Av bs) rfl
            (by kernel_rfl) (leaveF11_mono _ _ _ _ _ _ _ _ _ _ _ _ _ _ _) ?_ ?_
          · intro i hi
            match i, hi with
            | 0, _ =>
              intro o ho a wc hk hb hd K hK
              cases ho
              have e0 := hk.rest 4 (.pointer (some ⟨gp, 0, none⟩)) (by omega) (by kernel_rfl) rfl
              rw [Array.getD_eq_getD_getElem?] at e0
              go_simp
              exact hK _ _ (Below.refl _ _) rfl
            | 1, _ =>
              intro o ho a wc hk hb hd K hK
              cases ho
              have e0 := hd 0 (by simp [waitF11])
              simp only [leaveF11, slotF11, Nat.reduceAdd, Array.getD_eq_getD_getElem?] at e0
              obtain ⟨c0, c1, c2, c3, -⟩ := ent_cells (HKP.out _ hb)
              go_simp
              exact hK _ _ (Below.refl _ _) rfl
            | 2, _ =>
              intro o ho a wc hk hb hd K hK
              cases ho
              have e0 := hk.rest 0 (.string (str bs)) (by omega) (by kernel_rfl) rfl
              rw [Array.getD_eq_getD_getElem?] at e0
              go_simp
              exact hK _ _ (Below.refl _ _) rfl
            | 3, _ =>
              intro o ho a wc hk hb hd K hK
              cases ho
              have e0 := hk.rest 7 (.int .i64 (t : Int)) (by omega) (by kernel_rfl) rfl
              rw [Array.getD_eq_getD_getElem?] at e0
              go_simp
              exact hK _ _ (Below.refl _ _) rfl
            | 4, _ =>
              intro o ho a wc hk hb hd K hK
              cases ho
              have e0 := hd 2 (by simp [waitF11])
              have e1 := hd 3 (by simp [waitF11])
              simp only [leaveF11, slotF11, Nat.reduceAdd, Array.getD_eq_getD_getElem?] at e0 e1
              have hi := HI0.out
              go_simp
              exact hK _ _ (Below.refl _ _) (by show Value.int _ _ = _; rw [get_val' bs t _ a0 HA0.out])
            | 5, _ =>
              intro o ho a wc hk hb hd K hK
              cases ho
              have e0 := hd 4 (by simp [waitF11])
              simp only [leaveF11, slotF11, Nat.reduceAdd, Array.getD_eq_getD_getElem?] at e0
              go_simp
              go_bits
              exact hK _ _ (Below.refl _ _) rfl
            | 6, _ =>
              intro o ho a wc hk hb hd K hK
              cases ho
              have e0 := hk.rest 0 (.string (str bs)) (by omega) (by kernel_rfl) rfl
              rw [Array.getD_eq_getD_getElem?] at e0
              go_simp
              exact hK _ _ (Below.refl _ _) rfl
            | 7, _ =>
              intro o ho a wc hk hb hd K hK
              cases ho
              have e0 := hk.rest 7 (.int .i64 (t : Int)) (by omega) (by kernel_rfl) rfl
              rw [Array.getD_eq_getD_getElem?] at e0
              go_simp
              exact hK _ _ (Below.refl _ _) rfl
            | 8, _ =>
              intro o ho a wc hk hb hd K hK
              cases ho
              have e0 := hd 7 (by simp [waitF11])
              simp only [leaveF11, slotF11, Nat.reduceAdd, Array.getD_eq_getD_getElem?] at e0
              have ht := HT1.out
              go_simp
              go_bits
              exact hK _ _ (Below.refl _ _) rfl
            | 9, _ =>
              intro o ho a wc hk hb hd K hK
              cases ho
              have e0 := hd 6 (by simp [waitF11])
              have e1 := hd 8 (by simp [waitF11])
              simp only [leaveF11, slotF11, Nat.reduceAdd, Array.getD_eq_getD_getElem?] at e0 e1
              have hi := HI1.out
              go_simp
              exact hK _ _ (Below.refl _ _) (by show Value.int _ _ = _; rw [get_val' bs t1 _ a1 HA1.out])
            | 10, _ =>
              intro o ho a wc hk hb hd K hK
              cases ho
              have e0 := hd 9 (by simp [waitF11])
              simp only [leaveF11, slotF11, Nat.reduceAdd, Array.getD_eq_getD_getElem?] at e0
              go_simp
              go_bits
              exact hK _ _ (Below.refl _ _) rfl
            | 11, _ =>
              intro o ho a wc hk hb hd K hK
              cases ho
              have e0 := hk.rest 0 (.string (str bs)) (by omega) (by kernel_rfl) rfl
              rw [Array.getD_eq_getD_getElem?] at e0
              go_simp
              exact hK _ _ (Below.refl _ _) rfl
            | 12, _ =>
              intro o ho a wc hk hb hd K hK
              cases ho
              have e0 := hk.rest 7 (.int .i64 (t : Int)) (by omega) (by kernel_rfl) rfl
              rw [Array.getD_eq_getD_getElem?] at e0
              go_simp
              exact hK _ _ (Below.refl _ _) rfl
            | 13, _ =>
              intro o ho a wc hk hb hd K hK
              cases ho
              have e0 := hd 12 (by simp [waitF11])
              simp only [leaveF11, slotF11, Nat.reduceAdd, Array.getD_eq_getD_getElem?] at e0
              have ht := HT2.out
              go_simp
              go_bits
              exact hK _ _ (Below.refl _ _) rfl
            | 14, _ =>
              intro o ho a wc hk hb hd K hK
              cases ho
              have e0 := hd 11 (by simp [waitF11])
              have e1 := hd 13 (by simp [waitF11])
              simp only [leaveF11, slotF11, Nat.reduceAdd, Array.getD_eq_getD_getElem?] at e0 e1
              go_simp
              refine (Get_any bs t2 2 wc (by rw [HN.out]; omega) (by omega) (by rw [HN.out]; omega)).mono ?_
              rintro e w3 ⟨rfl, rfl⟩
              exact hK _ _ (Below.refl _ _) (by show Value.int _ _ = _; rw [HA2.out])
            | 15, _ =>
              intro o ho a wc hk hb hd K hK
              cases ho
              have e0 := hd 14 (by simp [waitF11])
              simp only [leaveF11, slotF11, Nat.reduceAdd, Array.getD_eq_getD_getElem?] at e0
              go_simp
              go_bits
              exact hK _ _ (Below.refl _ _) rfl
            | 16, _ =>
              intro o ho a wc hk hb hd K hK
              cases ho
              have e0 := hk.rest 0 (.string (str bs)) (by omega) (by kernel_rfl) rfl
              rw [Array.getD_eq_getD_getElem?] at e0
              go_simp
              exact hK _ _ (Below.refl _ _) rfl
            | 17, _ =>
              intro o ho a wc hk hb hd K hK
              cases ho
              have e0 := hk.rest 7 (.int .i64 (t : Int)) (by omega) (by kernel_rfl) rfl
              rw [Array.getD_eq_getD_getElem?] at e0
              go_simp
              exact hK _ _ (Below.refl _ _) rfl
            | 18, _ =>
              intro o ho a wc hk hb hd K hK
              cases ho
              have e0 := hd 17 (by simp [waitF11])
              simp only [leaveF11, slotF11, Nat.reduceAdd, Array.getD_eq_getD_getElem?] at e0
              have ht := HT4.out
              go_simp
              go_bits
              exact hK _ _ (Below.refl _ _) rfl
            | 19, _ =>
              intro o ho a wc hk hb hd K hK
              cases ho
              have e0 := hd 16 (by simp [waitF11])
              have e1 := hd 18 (by simp [waitF11])
              simp only [leaveF11, slotF11, Nat.reduceAdd, Array.getD_eq_getD_getElem?] at e0 e1
              go_simp
              refine (Get_any bs t4 4 wc (by rw [HN.out]; omega) (by omega) (by rw [HN.out]; omega)).mono ?_
              rintro e w3 ⟨rfl, rfl⟩
              exact hK _ _ (Below.refl _ _) (by show Value.int _ _ = _; rw [HA3.out])
            | 20, _ =>
              intro o ho a wc hk hb hd K hK
              cases ho
              have e0 := hd 19 (by simp [waitF11])
              simp only [leaveF11, slotF11, Nat.reduceAdd, Array.getD_eq_getD_getElem?] at e0
              go_simp
              go_bits
              exact hK _ _ (Below.refl _ _) rfl
            | 21, _ =>
              intro o ho a wc hk hb hd K hK
              cases ho
              have e0 := hd 5 (by simp [waitF11])
              have e1 := hd 10 (by simp [waitF11])
              have e2 := hd 15 (by simp [waitF11])
              have e3 := hd 20 (by simp [waitF11])
              simp only [leaveF11, slotF11, Nat.reduceAdd, Array.getD_eq_getD_getElem?] at e0 e1 e2 e3
              go_simp
              exact hK _ _ (Below.refl _ _) rfl
            | 22, _ =>
              intro o ho a wc hk hb hd K hK
              cases ho
              have e0 := hd 21 (by simp [waitF11])
              simp only [leaveF11, slotF11, Nat.reduceAdd, Array.getD_eq_getD_getElem?] at e0
              go_simp
              exact hK _ _ ((Below.refl _ _).alloc (Nat.le_refl _) _) ⟨_, rfl, hb.size, Bk.new wc _ _⟩
            | _ + 23, h => exact absurd h (by omega)
          · intro vals w6 hb hR
            have v0 := hR 0 (by omega)
            have v1 := hR 1 (by omega)
            have v2 := hR 2 (by omega)
            have v3 := hR 3 (by omega)
            have v4 := hR 4 (by omega)
            have v5 := hR 5 (by omega)
            have v6 := hR 6 (by omega)
            have v7 := hR 7 (by omega)
            have v8 := hR 8 (by omega)
            have v9 := hR 9 (by omega)
            have v10 := hR 10 (by omega)
            have v11 := hR 11 (by omega)
            have v12 := hR 12 (by omega)
            have v13 := hR 13 (by omega)
            have v14 := hR 14 (by omega)
            have v15 := hR 15 (by omega)
            have v16 := hR 16 (by omega)
            have v17 := hR 17 (by omega)
            have v18 := hR 18 (by omega)
            have v19 := hR 19 (by omega)
            have v20 := hR 20 (by omega)
            have v21 := hR 21 (by omega)
            have v22 := hR 22 (by omega)
            simp only [leaveF11] at v0 v1 v2 v3 v4 v5 v6 v7 v8 v9 v10 v11 v12 v13 v14 v15 v16 v17 v18 v19 v20 v21 v22
            clear hR
            simp only [putAll, slotF11, Nat.reduceAdd, List.setIfInBounds_toArray, List.set_cons_zero, List.set_cons_succ, List.drop_succ_cons, List.drop_zero, v0, v1, v2, v3, v4, v5, v6, v7, v8, v9, v10, v11, v12, v13, v14, v15, v16, v17, v18, v19, v20, v21]
            clear v0 v1 v2 v3 v4 v5 v6 v7 v8 v9 v10 v11 v12 v13 v14 v15 v16 v17 v18 v19 v20 v21
            obtain ⟨gn, v22, hgn, hbk⟩ := v22
            rw [v22]
            have HRD : Hid (Rd w6 w6.heap.size (some ⟨gn, 0, none⟩) [.int .i64 (a0 : Int), .int .i64 (a1 : Int), .int .i64 (a2 : Int), .int .u32 (a3 : Int)]) := Rd.bk hbk
            have HBW := Lib.hid (HBW.out.trans (hb.mono HBW.out.size))
            have HK0 := Lib.hid (HK0.out.below hb HK0.out.lt)
            have HROW := Lib.hid (own_up HROW.out hb)
            have HKP6 := Lib.hid (HKP.out _ hb)
            have hz6 := HBW.out.size
            clear hb hbk hgn v22 HKP HKPr hs0 hs1 htt
            go_wp2_with (at_builtin; refine wpList_append_rd _ rfl _ _ 22 rfl w.heap.size 60 i0 (.agg #[.int .i64 0, .int .i64 0, .int .i64 0, .int .u32 0]) 4 32 Tryd.underlying22 HI.out HZ0.out HZ1.out HZ2.out rfl (by decide) _ _ _ rfl HROW.out w6.heap.size (some ⟨gn, 0, none⟩) 1 1 [.int .i64 (a0 : Int), .int .i64 (a1 : Int), .int .i64 (a2 : Int), .int .u32 (a3 : Int)] rfl rfl HRD.out ?c2 ?c3 ?c4 ?c5 ?_)
            · intro u hu; simp at hu; rcases hu with rfl | rfl | rfl | rfl <;> rfl
            · unfold maxLen; omega
            · omega
            · exact hz6
            · intro v' wq hown' hgrow
              obtain ⟨gq, cap', rfl⟩ := ownsRow_succ hown'
              obtain ⟨hq, hq', hown2, hbl, hfar⟩ := app_kept0 (o := 3) (u := .slice (some ⟨gq, 0, none⟩) (k + 1) cap') HKP6.out (by decide) HROW.out HBW.out.size hlep hown' hgrow
              have u3 := hq.cell 3
              have uf := hq.free 3
              have HQ : Hid (Bk (wq.setCell ⟨gp, 3, none⟩ (.slice (some ⟨gq, 0, none⟩) (k + 1) cap')) gp 24 #[.int .i64 (sq : Int), .int .i64 (nx : Int), .bool fn, .slice (some ⟨gq, 0, none⟩) (k + 1) cap']
                  ∧ (wq.setCell ⟨gp, 3, none⟩ (.slice (some ⟨gq, 0, none⟩) (k + 1) cap')).ownsRow w.heap.size 60 4 (.slice (some ⟨gq, 0, none⟩) (k + 1) cap') (k + 1) (ensV (L.take (k + 1)))
                  ∧ Bk (wq.setCell ⟨gp, 3, none⟩ (.slice (some ⟨gq, 0, none⟩) (k + 1) cap')) w.heap.size 24 #[.int .i64 0, .int .i64 0, .bool false, .slice none 0 0]
                  ∧ Below w.heap.size w (wq.setCell ⟨gp, 3, none⟩ (.slice (some ⟨gq, 0, none⟩) (k + 1) cap'))) :=
                ⟨hq', by rw [ensV_take_succ L k _ HLK.out]; exact hown2, hfar _ _ _ HK0.out (by decide) (by omega), HBW.out.trans hbl⟩
              clear hown' hgrow hown2 hbl hfar hq' hq
              go_wp2
              go_roundw
              case rel => exact ⟨k + 1, _, by omega, by go_num, HQ.out.1, HQ.out.2.1, HQ.out.2.2.1, HQ.out.2.2.2⟩
              case measure => simp [intOf]; omega
        · obtain rfl : k = cn := by omega
          have HTK : Hid (L.take k = L) := List.take_of_length_le (by have := HLe.out; omega)
          have hrow := HROW.out
          rw [HTK.out] at hrow
          have HROW := Lib.hid hrow
          obtain ⟨q, hq⟩ : ∃ q, ptOk ⟨sq, nx, fn, L⟩ = q := ⟨_, rfl⟩
          have HPQ := Lib.hid hq
          have HM := Lib.hid (refMay_any sq nx fn wr.heap.size Av k cv L q wr HLe.out (by omega) (Rd.own HROW.out) (Nat.le_refl _) hq)
          obtain ⟨d0, d1, d2, d3, -⟩ := ent_cells HKPr.out
          unfold ptV at HM
          clear hq hrow
          go_wp2_with fail
          refine HM.out.mono ?_
          rintro e w7 ⟨rfl, hb7⟩
          have HKPr := Lib.hid (HKPr.out.below hb7 HKPr.out.lt)
          have HROW := Lib.hid (own_up HROW.out hb7)
          have HK0 := Lib.hid (HK0.out.below hb7 HK0.out.lt)
          have HBW := Lib.hid (HBW.out.trans (hb7.mono HBW.out.size))
          clear hb7 HM d0 d1 d2 d3
          obtain ⟨d0, d1, d2, d3, -⟩ := ent_cells HKPr.out
          cases q
          · have HQR : Hid (decQ bs = 3 ∧ decR bs = noP) := by
              have h1 : decQ bs = 3 := by rw [decQ, HHB.out, if_pos rfl, HP.out, HPQ.out]; rfl
              exact ⟨h1, by rw [decR, h1]; rfl⟩
            clear d0 d1 d2 d3
            obtain ⟨e0, e1, e2, e3, f0, f1, f2, f3⟩ := ent_cells HK0.out
            obtain ⟨r0, r1, r2, r3, -⟩ := ent_puts HK0.out (.int .i64 0) (.int .i64 0) (.bool false) (.slice none 0 0)
            have HBE := Lib.hid ((((HBW.out.setCell (p := ⟨w.heap.size, 0, none⟩) (Nat.le_refl _) (.int .i64 0)).setCell (p := ⟨w.heap.size, 1, none⟩) (Nat.le_refl _) (.int .i64 0)).setCell (p := ⟨w.heap.size, 2, none⟩) (Nat.le_refl _) (.bool false)).setCell (p := ⟨w.heap.size, 3, none⟩) (Nat.le_refl _) (.slice none 0 0))
            go_wp2
            refine bodyPost_ret (v := .tuple #[.agg #[.int .i64 0, .int .i64 0, .bool false, .slice none 0 0], .int .i64 3]) (by simp [results, Tryd.results16, go_sem, r0, r1, r2, r3]) rfl ⟨_, by rw [HQR.out.1], by rw [HQR.out.2]; exact PtAt.none_ _, HBE.out⟩
          · have HENC := Lib.hid (refEncode_any sq nx fn w7.heap.size Av k cv L w7 HLe.out (Rd.own HROW.out) (Nat.le_refl _) HPQ.out HLs.out)
            unfold ptV at HENC
            go_wp2_with fail
            refine HENC.out.mono ?_
            rintro e w8 ⟨rfl, hb8⟩
            have HKPr := Lib.hid (HKPr.out.below hb8 HKPr.out.lt)
            have HROW := Lib.hid (own_up HROW.out hb8)
            have HK0 := Lib.hid (HK0.out.below hb8 HK0.out.lt)
            have HBW := Lib.hid (HBW.out.trans (hb8.mono HBW.out.size))
            clear hb8 HENC d0 d1 d2 d3
            obtain ⟨d0, d1, d2, d3, -⟩ := ent_cells HKPr.out
            obtain ⟨q2, hq2⟩ : ∃ q2, ((str (octB ⟨sq, nx, fn, L⟩)).toList == (str bs).toList) = q2 := ⟨_, rfl⟩
            have HQR : Hid (decQ bs = (if q2 then 0 else 3) ∧ decR bs = (if q2 then ⟨sq, nx, fn, L⟩ else noP)) := by
              have h2 := hq2
              rw [str_toList, str_toList] at h2
              have h1 : decQ bs = (if q2 then 0 else 3) := by rw [decQ, HHB.out, if_pos rfl, HP.out, HPQ.out, h2]; rfl
              refine ⟨h1, ?_⟩
              rw [decR, h1, HP.out]
              cases q2 <;> rfl
            cases q2
            · simp only [if_false, Bool.false_eq_true] at HQR
              clear d0 d1 d2 d3
              obtain ⟨e0, e1, e2, e3, f0, f1, f2, f3⟩ := ent_cells HK0.out
              obtain ⟨r0, r1, r2, r3, -⟩ := ent_puts HK0.out (.int .i64 0) (.int .i64 0) (.bool false) (.slice none 0 0)
              have HBE := Lib.hid ((((HBW.out.setCell (p := ⟨w.heap.size, 0, none⟩) (Nat.le_refl _) (.int .i64 0)).setCell (p := ⟨w.heap.size, 1, none⟩) (Nat.le_refl _) (.int .i64 0)).setCell (p := ⟨w.heap.size, 2, none⟩) (Nat.le_refl _) (.bool false)).setCell (p := ⟨w.heap.size, 3, none⟩) (Nat.le_refl _) (.slice none 0 0))
              go_wp2
              refine bodyPost_ret (v := .tuple #[.agg #[.int .i64 0, .int .i64 0, .bool false, .slice none 0 0], .int .i64 3]) (by simp [results, Tryd.results16, go_sem, r0, r1, r2, r3]) rfl ⟨_, by rw [HQR.out.1], by rw [HQR.out.2]; exact PtAt.none_ _, HBE.out⟩
            · simp only [if_true] at HQR
              obtain ⟨e0, e1, e2, e3, f0, f1, f2, f3⟩ := ent_cells HK0.out
              obtain ⟨r0, r1, r2, r3, -⟩ := ent_puts HK0.out (.int .i64 (sq : Int)) (.int .i64 (nx : Int)) (.bool fn) (.slice Av k cv)
              have HOW := Lib.hid (own_far (o := 3) (u := .slice Av k cv) (((HK0.out.set_ 0 (.int .i64 (sq : Int))).set_ 1 (.int .i64 (nx : Int))).set_ 2 (.bool fn)) (by decide) (own_far (o := 2) (u := .bool fn) ((HK0.out.set_ 0 (.int .i64 (sq : Int))).set_ 1 (.int .i64 (nx : Int))) (by decide) (own_far (o := 1) (u := .int .i64 (nx : Int)) (HK0.out.set_ 0 (.int .i64 (sq : Int))) (by decide) (own_far (o := 0) (u := .int .i64 (sq : Int)) HK0.out (by decide) HROW.out))))
              have HBE := Lib.hid ((((HBW.out.setCell (p := ⟨w.heap.size, 0, none⟩) (Nat.le_refl _) (.int .i64 (sq : Int))).setCell (p := ⟨w.heap.size, 1, none⟩) (Nat.le_refl _) (.int .i64 (nx : Int))).setCell (p := ⟨w.heap.size, 2, none⟩) (Nat.le_refl _) (.bool fn)).setCell (p := ⟨w.heap.size, 3, none⟩) (Nat.le_refl _) (.slice Av k cv))
              go_wp2
              refine bodyPost_ret (v := .tuple #[.agg #[.int .i64 (sq : Int), .int .i64 (nx : Int), .bool fn, .slice Av k cv], .int .i64 0]) (by simp [results, Tryd.results16, go_sem, r0, r1, r2, r3]) rfl ⟨_, by rw [HQR.out.1], by rw [HQR.out.2]; exact ⟨Av, cv, by show _ = ptV sq nx fn Av L.length cv; rw [HLe.out]; rfl, by show L.length ≤ cv; rw [HLe.out]; exact hcv, hcm, Rd.own HOW.out⟩, HBE.out⟩
    · have HQR : Hid (decQ bs = 3 ∧ decR bs = noP) := by
        have h1 : decQ bs = 3 := decQ_many HHB.out (by rw [show cntN bs = cn from HCN.out]; omega)
        exact ⟨h1, by rw [decR, h1]; rfl⟩
      obtain ⟨e0, e1, e2, e3, f0, f1, f2, f3⟩ := ent_cells HK0.out
      obtain ⟨r0, r1, r2, r3, -⟩ := ent_puts HK0.out (.int .i64 0) (.int .i64 0) (.bool false) (.slice none 0 0)
      have HBE := Lib.hid ((((HBW.out.setCell (p := ⟨w.heap.size, 0, none⟩) (Nat.le_refl _) (.int .i64 0)).setCell (p := ⟨w.heap.size, 1, none⟩) (Nat.le_refl _) (.int .i64 0)).setCell (p := ⟨w.heap.size, 2, none⟩) (Nat.le_refl _) (.bool false)).setCell (p := ⟨w.heap.size, 3, none⟩) (Nat.le_refl _) (.slice none 0 0))
      go_wp2
      refine bodyPost_ret (v := .tuple #[.agg #[.int .i64 0, .int .i64 0, .bool false, .slice none 0 0], .int .i64 3]) (by simp [results, Tryd.results16, go_sem, r0, r1, r2, r3]) rfl ⟨_, by rw [HQR.out.1], by rw [HQR.out.2]; exact PtAt.none_ _, HBE.out⟩
end Go.Proofs.YtjibjojnkieliaaDoor
