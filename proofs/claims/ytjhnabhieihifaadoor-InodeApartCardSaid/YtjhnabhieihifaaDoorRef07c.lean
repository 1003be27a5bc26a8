/-
  What the document's answer Decode of layer 7 is. (Printed by wip/tools/ref07b.py.)
-/
import Derived.Test.YtjhnabhieihifaaDoorRef07
import Derived.Test.YtjhnabhieihifaaDoorIno5
namespace Go.Proofs.YtjhnabhieihifaaDoor
open Go.RowKit
set_option maxRecDepth 100000
set_option linter.unusedVariables false

section
variable {o : Oper} {a : Act} {w : World} {K : Act → World → Prop} {Q : Exit → Act → World → Prop}
theorem built_ino5 (a b c d e : Int) : Tryd.prog.built 27 [(0, .int .i64 a), (1, .int .i64 b), (2, .int .i64 c), (3, .int .i64 d), (4, .int .i64 e)] = some (inoC ⟨a, b, c, d, e, List.replicate 9 ⟨0, 0⟩⟩) := by kernel_rfl
theorem wp_build_ino5 (parts : Array (Nat × Operand)) (ho : o.op = .build 27 parts) (n1 n2 n3 n4 n5 : Int) (hb : (parts.map fun (i, y) => (i, a.eval y)).toList = [(0, .int .i64 n1), (1, .int .i64 n2), (2, .int .i64 n3), (3, .int .i64 n4), (4, .int .i64 n5)]) (h : K (a.put o.dst (.agg (inoC ⟨n1, n2, n3, n4, n5, List.replicate 9 ⟨0, 0⟩⟩))) w) : o.wp Tryd.prog a w K Q := by
  have e := built_ino5 n1 n2 n3 n4 n5
  rw [← hb] at e
  refine wp_build 27 parts ho (by rw [e]; rfl) ?_
  rw [e]
  exact h
end
/-- a new block for an inode -/
def RefNew (base : Nat) (v : Value) (w : World) : Prop := ∃ g : Nat, v = .pointer (some ⟨g, 0, none⟩) ∧ base ≤ g ∧ Bk w g 27 (inoC noI)
theorem RefNew.up {base : Nat} {v : Value} {w w' : World} (h : RefNew base v w) (hb : Below w.heap.size w w') : RefNew base v w' := by
  obtain ⟨g, rfl, hg, hr⟩ := h
  exact ⟨g, rfl, hg, hr.below hb hr.lt⟩
theorem set_mid {α : Type} (l r : List α) (a b a' b' : α) : ((l ++ a :: b :: r).set l.length a').set (l.length + 1) b' = l ++ a' :: b' :: r := by
  induction l with
  | nil => rfl
  | cons x l ih => simp
/-- an inode, of whose pointers just the first ones stand -/
def partI (n1 n2 n3 n4 n5 : Int) (bs : List UInt8) (k : Nat) : Ino := ⟨n1, n2, n3, n4, n5, prsAt bs 21 k ++ List.replicate (9 - k) ⟨0, 0⟩⟩
theorem partI_p (n1 n2 n3 n4 n5 : Int) (bs : List UInt8) (k : Nat) (hk : k ≤ 9) : (partI n1 n2 n3 n4 n5 bs k).p.length = 9 := by
  simp only [partI, List.length_append, prsAt_length, List.length_replicate]; omega
theorem partI_zero (n1 n2 n3 n4 n5 : Int) (bs : List UInt8) : partI n1 n2 n3 n4 n5 bs 0 = ⟨n1, n2, n3, n4, n5, List.replicate 9 ⟨0, 0⟩⟩ := rfl
theorem partI_all (n1 n2 n3 n4 n5 : Int) (bs : List UInt8) : partI n1 n2 n3 n4 n5 bs 9 = ⟨n1, n2, n3, n4, n5, prsAt bs 21 9⟩ := by simp [partI]
theorem partI_succ (n1 n2 n3 n4 n5 : Int) (bs : List UInt8) (k : Nat) (hk : k < 9) :
    ((inoC (partI n1 n2 n3 n4 n5 bs k)).setIfInBounds (5 + k * 2) (.int .i64 (prAt bs (21 + 8 * k)).at_)).setIfInBounds (5 + k * 2 + 1) (.int .u32 ((prAt bs (21 + 8 * k)).sum : Int)) = inoC (partI n1 n2 n3 n4 n5 bs (k + 1)) := by
  have h1 : inoV (partI n1 n2 n3 n4 n5 bs k) = ([.int .i64 n1, .int .i64 n2, .int .i64 n3, .int .i64 n4, .int .i64 n5] ++ prsV (prsAt bs 21 k)) ++ .int .i64 0 :: .int .u32 0 :: prsV (List.replicate (9 - (k + 1)) ⟨0, 0⟩) := by
    simp only [inoV, partI, prsV_append, show 9 - k = 9 - (k + 1) + 1 from by omega, List.replicate_succ, prsV_cons, List.append_assoc]
    rfl
  have hl : ([.int .i64 n1, .int .i64 n2, .int .i64 n3, .int .i64 n4, .int .i64 n5] ++ prsV (prsAt bs 21 k) : List Value).length = 5 + k * 2 := by simp [prsV_length, prsAt_length]; omega
  have e := set_mid ([.int .i64 n1, .int .i64 n2, .int .i64 n3, .int .i64 n4, .int .i64 n5] ++ prsV (prsAt bs 21 k)) (prsV (List.replicate (9 - (k + 1)) ⟨0, 0⟩)) (.int .i64 0) (.int .u32 0) (.int .i64 (prAt bs (21 + 8 * k)).at_) (.int .u32 ((prAt bs (21 + 8 * k)).sum : Int))
  rw [hl, ← h1] at e
  rw [inoC, List.setIfInBounds_toArray, List.setIfInBounds_toArray, e, inoC]
  congr 1
  simp only [inoV, partI, prsAt_succ, prsV_append, List.append_assoc]
  rfl
theorem byteN (bs : List UInt8) (j : Nat) (h : j < bs.length) : valB ((bs.drop j).take 1) = (bs[j]).toNat := by
  rw [List.drop_eq_getElem_cons h, List.take_succ_cons, List.take_zero]
  simp [valB]
def slotE5 (i : Nat) : Nat := if i = 16 then 6 else 19 + i
def waitE5 : Nat → List Nat
  | 1 => [0]
  | 2 => [1]
  | 4 => [3]
  | 5 => [4]
  | 7 => [6]
  | 8 => [7]
  | 10 => [9]
  | 11 => [10]
  | 13 => [12]
  | 14 => [13]
  | 15 => [2, 5, 8, 11, 14]
  | 17 => [15, 16]
  | _ => []
def leaveE5 (B0 n1 n2 n3 n4 n5 : Nat) (bs : List UInt8) : Nat → Value → World → Prop
  | 0, v, _ => v = .string (str bs)
  | 1, v, _ => v = .int .u8 (n1 : Int)
  | 2, v, _ => v = .int .i64 (n1 : Int)
  | 3, v, _ => v = .string (str bs)
  | 4, v, _ => v = .int .u8 (n2 : Int)
  | 5, v, _ => v = .int .i64 (n2 : Int)
  | 6, v, _ => v = .string (str bs)
  | 7, v, _ => v = .int .u64 (n3 : Int)
  | 8, v, _ => v = .int .i64 (n3 : Int)
  | 9, v, _ => v = .string (str bs)
  | 10, v, _ => v = .int .u64 (n4 : Int)
  | 11, v, _ => v = .int .i64 (n4 : Int)
  | 12, v, _ => v = .string (str bs)
  | 13, v, _ => v = .int .u64 (n5 : Int)
  | 14, v, _ => v = .int .i64 (n5 : Int)
  | 15, v, _ => v = .agg (inoC ⟨n1, n2, n3, n4, n5, List.replicate 9 ⟨0, 0⟩⟩)
  | 16, v, w => RefNew B0 v w
  | _, _, _ => True

theorem refDecodeI_out (m : Int) (bs : List UInt8) (w : World) (hm : ¬ (1 ≤ m ∧ m ≤ 39)) :
    Calls Tryd.prog 15 #[.int .i64 m, .string (str bs)] w fun e w' => e = .returned (.tuple #[.agg (inoC noI), .int .i64 1]) ∧ Below w.heap.size w w' := by
  have hK0 := Bk.new w 27 (inoC noI)
  have HB0 := (Below.refl w.heap.size w).alloc (Nat.le_refl _) (.cells (inoC noI) 27)
  have K1 := Lib.hid (hK0.setRow (inoC noI))
  have HB1 := Lib.hid (HB0.setRow' (Nat.le_refl _) (inoC noI))
  rw [noI_cells] at hK0 K1 HB1
  have K0 := Lib.hid hK0
  clear hK0 HB0
  rcases (show m < 1 ∨ (1 ≤ m ∧ 39 < m) by omega) with h1 | ⟨h1, h2⟩
  all_goals
    clear hm
    go_enter Tryd.func15, Tryd.ntmps15
    go_wp2_with (refine wpList_store_ino rfl _ _ rfl w.heap.size _ _ noI rfl rfl rfl rfl K0.out ?_)
    refine bodyPost_ret (results_ino rfl _ _ w.heap.size _ noI _ rfl rfl rfl K1.out) rfl ?_
    exact ⟨rfl, HB1.out⟩

theorem refDecodeI_short (m : Int) (bs : List UInt8) (w : World) (hm : 1 ≤ m ∧ m ≤ 39) (hl : bs.length ≤ 9223372036854775807) (hh : heldB bs = false) :
    Calls Tryd.prog 15 #[.int .i64 m, .string (str bs)] w fun e w' => e = .returned (.tuple #[.agg (inoC noI), .int .i64 5]) ∧ Below w.heap.size w w' := by
  have K0 := Lib.hid (Bk.new w 27 (inoC noI))
  have HB0 := Lib.hid ((Below.refl w.heap.size w).alloc (Nat.le_refl _) (.cells (inoC noI) 27))
  obtain ⟨w0, hw0⟩ : ∃ w0, w.alloc (.cells (inoC noI) 27) = w0 := ⟨_, rfl⟩
  rw [hw0] at K0 HB0
  rw [noI_cells] at hw0
  have HW0 := Lib.hid hw0
  have HH := Lib.hid (refHeld_any bs false w0 hl hh)
  obtain ⟨h1, h2⟩ := hm
  clear hw0 hl hh
  go_enter Tryd.func15, Tryd.ntmps15
  go_wp2_with fail
  rw [HW0.out]
  refine HH.out.mono ?_
  rintro e w1 ⟨rfl, hb1⟩
  have K1 := Lib.hid (K0.out.below hb1 K0.out.lt)
  have HB1 := Lib.hid (HB0.out.trans (hb1.mono HB0.out.size))
  clear hb1
  go_wp2_with (refine wpList_store_ino rfl _ _ rfl w.heap.size _ (inoC noI) noI rfl rfl rfl rfl K1.out ?_)
  refine bodyPost_ret (results_ino rfl _ _ w.heap.size _ noI _ rfl rfl rfl (K1.out.setRow (inoC noI))) rfl ?_
  exact ⟨rfl, HB1.out.setRow' (Nat.le_refl _) (inoC noI)⟩

set_option maxHeartbeats 4000000 in
theorem refDecodeI_held (m : Int) (bs : List UInt8) (q : Int) (x : Ino) (w : World) (hm : 1 ≤ m ∧ m ≤ 39) (hl : bs.length = 128) (hh : heldB bs = true) (hq : decIQ m bs = q) (hx : decIR m bs = x) :
    Calls Tryd.prog 15 #[.int .i64 m, .string (str bs)] w fun e w' => e = .returned (.tuple #[.agg (inoC x), .int .i64 q]) ∧ Below w.heap.size w w' := by
  have K0 := Lib.hid (Bk.new w 27 (inoC noI))
  have HB0 := Lib.hid ((Below.refl w.heap.size w).alloc (Nat.le_refl _) (.cells (inoC noI) 27))
  obtain ⟨w0, hw0⟩ : ∃ w0, w.alloc (.cells (inoC noI) 27) = w0 := ⟨_, rfl⟩
  rw [hw0] at K0 HB0
  rw [noI_cells] at hw0
  have HW0 := Lib.hid hw0
  have HH := Lib.hid (refHeld_any bs true w0 (by omega) hh)
  have HHB := Lib.hid hh
  have HM := Lib.hid hm
  have HQ := Lib.hid hq
  have HX := Lib.hid hx
  have HL := Lib.hid hl
  have HSZ : Hid ((str bs).size = 128) := by show _ = _; rw [str_size, hl]
  obtain ⟨n1, hn1⟩ : ∃ n1, tyN bs = n1 := ⟨_, rfl⟩
  obtain ⟨n2, hn2⟩ : ∃ n2, lkN bs = n2 := ⟨_, rfl⟩
  obtain ⟨n3, hn3⟩ : ∃ n3, vrN bs = n3 := ⟨_, rfl⟩
  obtain ⟨n4, hn4⟩ : ∃ n4, szN bs = n4 := ⟨_, rfl⟩
  obtain ⟨n5, hn5⟩ : ∃ n5, tkN bs = n5 := ⟨_, rfl⟩
  have l1 := tyN_lt bs
  have l2 := lkN_lt bs
  have l3 := vrN_lt bs
  have l4 := szN_lt bs
  have l5 := tkN_lt bs
  have HI1 : Hid (∀ h : 5 < (str bs).size, Value.int .u8 (((str bs)[5]'h).toNat : Int) = .int .u8 (n1 : Int)) := fun h => by rw [← hn1, tyN, byteN bs 5 (by omega)]; rfl
  have HI2 : Hid (∀ h : 6 < (str bs).size, Value.int .u8 (((str bs)[6]'h).toNat : Int) = .int .u8 (n2 : Int)) := fun h => by rw [← hn2, lkN, byteN bs 6 (by omega)]; rfl
  have HG3 : Hid (∀ w', Calls Tryd.prog 39 #[.string (str bs), .int .i64 7, .int .i64 4] w' fun e w'' => e = .returned (.int .u64 (n3 : Int)) ∧ w' = w'') := fun w' => by rw [← hn3]; exact Get_any bs 7 4 w' (by omega) (by omega) (by omega)
  have HG4 : Hid (∀ w', Calls Tryd.prog 39 #[.string (str bs), .int .i64 11, .int .i64 6] w' fun e w'' => e = .returned (.int .u64 (n4 : Int)) ∧ w' = w'') := fun w' => by rw [← hn4]; exact Get_any bs 11 6 w' (by omega) (by omega) (by omega)
  have HG5 : Hid (∀ w', Calls Tryd.prog 39 #[.string (str bs), .int .i64 17, .int .i64 4] w' fun e w'' => e = .returned (.int .u64 (n5 : Int)) ∧ w' = w'') := fun w' => by rw [← hn5]; exact Get_any bs 17 4 w' (by omega) (by omega) (by omega)
  have HX6 : Hid (decI bs = partI n1 n2 n3 n4 n5 bs 9) := by show _ = _; rw [partI_all, decI, hn1, hn2, hn3, hn4, hn5]
  rw [hn1] at l1
  rw [hn2] at l2
  rw [hn3] at l3
  rw [hn4] at l4
  rw [hn5] at l5
  obtain ⟨h1, h2⟩ := hm
  clear hw0 hl hh hq hx hn1 hn2 hn3 hn4 hn5
  go_enter Tryd.func15, Tryd.ntmps15
  go_wp2_with fail
  rw [HW0.out]
  refine HH.out.mono ?_
  rintro e w1 ⟨rfl, hb1⟩
  have K1 := Lib.hid (K0.out.below hb1 K0.out.lt)
  have HB1 := Lib.hid (HB0.out.trans (hb1.mono HB0.out.size))
  have HZ := Lib.hid (Nat.le_refl w1.heap.size)
  clear hb1 HH K0 HB0 HW0
  go_wp2_with fail
  refine wp_region_tail (by kernel_rfl) 17 67 slotE5 waitE5 (leaveE5 w1.heap.size n1 n2 n3 n4 n5 bs) rfl
    (by kernel_rfl) (fun i v w w' _ hb h => by unfold leaveE5 at *; split at h <;> first | exact h | exact RefNew.up h hb) ?_ ?_
  · intro i hi
    match i, hi with
    | 0, _ =>
      intro o ho a wc hk hb hd K hK
      cases ho
      have e0 := hk.rest 1 (.string (str bs)) (by omega) (by kernel_rfl) rfl
      rw [Array.getD_eq_getD_getElem?] at e0
      go_simp
      exact hK _ _ (Below.refl _ _) rfl
    | 1, _ =>
      intro o ho a wc hk hb hd K hK
      cases ho
      have e0 := hd 0 (by simp [waitE5])
      simp only [leaveE5, slotE5, if_false, Nat.reduceEqDiff, Nat.reduceAdd, Array.getD_eq_getD_getElem?] at e0
      have hz : (str bs).size = 128 := HSZ.out
      have hx := HI1.out (by omega)
      go_simp
      exact hK _ _ (Below.refl _ _) rfl
    | 2, _ =>
      intro o ho a wc hk hb hd K hK
      cases ho
      have e0 := hd 1 (by simp [waitE5])
      simp only [leaveE5, slotE5, if_false, Nat.reduceEqDiff, Nat.reduceAdd, Array.getD_eq_getD_getElem?] at e0
      go_simp
      first | go_bits | skip
      exact hK _ _ (Below.refl _ _) rfl
    | 3, _ =>
      intro o ho a wc hk hb hd K hK
      cases ho
      have e0 := hk.rest 1 (.string (str bs)) (by omega) (by kernel_rfl) rfl
      rw [Array.getD_eq_getD_getElem?] at e0
      go_simp
      exact hK _ _ (Below.refl _ _) rfl
    | 4, _ =>
      intro o ho a wc hk hb hd K hK
      cases ho
      have e0 := hd 3 (by simp [waitE5])
      simp only [leaveE5, slotE5, if_false, Nat.reduceEqDiff, Nat.reduceAdd, Array.getD_eq_getD_getElem?] at e0
      have hz : (str bs).size = 128 := HSZ.out
      have hx := HI2.out (by omega)
      go_simp
      exact hK _ _ (Below.refl _ _) rfl
    | 5, _ =>
      intro o ho a wc hk hb hd K hK
      cases ho
      have e0 := hd 4 (by simp [waitE5])
      simp only [leaveE5, slotE5, if_false, Nat.reduceEqDiff, Nat.reduceAdd, Array.getD_eq_getD_getElem?] at e0
      go_simp
      first | go_bits | skip
      exact hK _ _ (Below.refl _ _) rfl
    | 6, _ =>
      intro o ho a wc hk hb hd K hK
      cases ho
      have e0 := hk.rest 1 (.string (str bs)) (by omega) (by kernel_rfl) rfl
      rw [Array.getD_eq_getD_getElem?] at e0
      go_simp
      exact hK _ _ (Below.refl _ _) rfl
    | 7, _ =>
      intro o ho a wc hk hb hd K hK
      cases ho
      have e0 := hd 6 (by simp [waitE5])
      simp only [leaveE5, slotE5, if_false, Nat.reduceEqDiff, Nat.reduceAdd, Array.getD_eq_getD_getElem?] at e0
      go_simp
      refine (HG3.out wc).mono ?_
      rintro e w3 ⟨rfl, rfl⟩
      exact hK _ _ (Below.refl _ _) rfl
    | 8, _ =>
      intro o ho a wc hk hb hd K hK
      cases ho
      have e0 := hd 7 (by simp [waitE5])
      simp only [leaveE5, slotE5, if_false, Nat.reduceEqDiff, Nat.reduceAdd, Array.getD_eq_getD_getElem?] at e0
      go_simp
      go_bits
      exact hK _ _ (Below.refl _ _) rfl
    | 9, _ =>
      intro o ho a wc hk hb hd K hK
      cases ho
      have e0 := hk.rest 1 (.string (str bs)) (by omega) (by kernel_rfl) rfl
      rw [Array.getD_eq_getD_getElem?] at e0
      go_simp
      exact hK _ _ (Below.refl _ _) rfl
    | 10, _ =>
      intro o ho a wc hk hb hd K hK
      cases ho
      have e0 := hd 9 (by simp [waitE5])
      simp only [leaveE5, slotE5, if_false, Nat.reduceEqDiff, Nat.reduceAdd, Array.getD_eq_getD_getElem?] at e0
      go_simp
      refine (HG4.out wc).mono ?_
      rintro e w3 ⟨rfl, rfl⟩
      exact hK _ _ (Below.refl _ _) rfl
    | 11, _ =>
      intro o ho a wc hk hb hd K hK
      cases ho
      have e0 := hd 10 (by simp [waitE5])
      simp only [leaveE5, slotE5, if_false, Nat.reduceEqDiff, Nat.reduceAdd, Array.getD_eq_getD_getElem?] at e0
      go_simp
      go_bits
      exact hK _ _ (Below.refl _ _) rfl
    | 12, _ =>
      intro o ho a wc hk hb hd K hK
      cases ho
      have e0 := hk.rest 1 (.string (str bs)) (by omega) (by kernel_rfl) rfl
      rw [Array.getD_eq_getD_getElem?] at e0
      go_simp
      exact hK _ _ (Below.refl _ _) rfl
    | 13, _ =>
      intro o ho a wc hk hb hd K hK
      cases ho
      have e0 := hd 12 (by simp [waitE5])
      simp only [leaveE5, slotE5, if_false, Nat.reduceEqDiff, Nat.reduceAdd, Array.getD_eq_getD_getElem?] at e0
      go_simp
      refine (HG5.out wc).mono ?_
      rintro e w3 ⟨rfl, rfl⟩
      exact hK _ _ (Below.refl _ _) rfl
    | 14, _ =>
      intro o ho a wc hk hb hd K hK
      cases ho
      have e0 := hd 13 (by simp [waitE5])
      simp only [leaveE5, slotE5, if_false, Nat.reduceEqDiff, Nat.reduceAdd, Array.getD_eq_getD_getElem?] at e0
      go_simp
      go_bits
      exact hK _ _ (Below.refl _ _) rfl
    | 15, _ =>
      intro o ho a wc hk hb hd K hK
      cases ho
      have e0 := hd 2 (by simp [waitE5])
      have e1 := hd 5 (by simp [waitE5])
      have e2 := hd 8 (by simp [waitE5])
      have e3 := hd 11 (by simp [waitE5])
      have e4 := hd 14 (by simp [waitE5])
      simp only [leaveE5, slotE5, if_false, Nat.reduceEqDiff, Nat.reduceAdd, Array.getD_eq_getD_getElem?] at e0 e1 e2 e3 e4
      refine (if_pos (show Region.wanted _ _ = true from rfl)).mpr ?_
      exact wp_build_ino5 _ rfl n1 n2 n3 n4 n5 (by simp [Act.eval, e0, e1, e2, e3, e4]) (hK _ _ (Below.refl _ _) rfl)
    | 16, _ =>
      intro o ho a wc hk hb hd K hK
      cases ho
      go_simp
      exact hK _ _ ((Below.refl _ _).alloc (Nat.le_refl _) _) ⟨_, rfl, Nat.le_trans HZ.out hb.size, Bk.new wc _ (inoC noI)⟩
    | _ + 17, h => exact absurd h (by omega)
  · intro vals w2 hb hR
    have v0 := hR 0 (by omega)
    have v1 := hR 1 (by omega)
    have v2 := hR 2 (by omega)
    have v3 := hR 3 (by omega)
    have v4 := hR 4 (by omega)
    have v5 := hR 5 (by omega)
    have v6 := hR 6 (by omega)
    have v7 := hR 7 (by omega)
    have v8 := hR 8 (by omega)
    have v9 := hR 9 (by omega)
    have v10 := hR 10 (by omega)
    have v11 := hR 11 (by omega)
    have v12 := hR 12 (by omega)
    have v13 := hR 13 (by omega)
    have v14 := hR 14 (by omega)
    have v15 := hR 15 (by omega)
    have v16 := hR 16 (by omega)
    simp only [leaveE5] at v0 v1 v2 v3 v4 v5 v6 v7 v8 v9 v10 v11 v12 v13 v14 v15 v16
    clear hR
    simp only [putAll, slotE5, if_true, if_false, Nat.reduceEqDiff, Nat.reduceAdd, List.setIfInBounds_toArray, List.set_cons_zero, List.set_cons_succ, List.drop_succ_cons, List.drop_zero, v0, v1, v2, v3, v4, v5, v6, v7, v8, v9, v10, v11, v12, v13, v14, v15]
    clear v0 v1 v2 v3 v4 v5 v6 v7 v8 v9 v10 v11 v12 v13 v14 v15
    obtain ⟨g2, v16, hg2, hbk2⟩ := v16
    rw [v16]
    have HG2 : Hid (w.heap.size < g2) := Nat.lt_of_lt_of_le K1.out.lt hg2
    have K2 := Lib.hid ((K1.out.below hb K1.out.lt).setRow_far (g' := g2) (by have := HG2.out; omega) (inoC (partI n1 n2 n3 n4 n5 bs 0)))
    have X2 := Lib.hid (hbk2.setRow (inoC (partI n1 n2 n3 n4 n5 bs 0)))
    have HB2 := Lib.hid ((HB1.out.trans (hb.mono HB1.out.size)).setRow' (g := g2) (Nat.le_of_lt HG2.out) (inoC (partI n1 n2 n3 n4 n5 bs 0)))
    have Y2 := Lib.hid hbk2
    clear hb hg2 hbk2 v16 K1 HB1 HZ HG3 HG4 HG5 HI1 HI2
    go_wp2_with (refine wpList_store_ino rfl _ _ rfl g2 _ _ (partI n1 n2 n3 n4 n5 bs 0) rfl rfl (partI_p _ _ _ _ _ _ _ (by omega)) rfl Y2.out ?_)
    obtain ⟨w3, hw3⟩ : ∃ w3, w2.setRow g2 (inoC (partI n1 n2 n3 n4 n5 bs 0)) = w3 := ⟨_, rfl⟩
    rw [hw3] at K2 X2 HB2 ⊢
    clear hw3 Y2
    go_loopw [7] (fun i wr => ∃ k : Nat, k ≤ 9 ∧ i = .int .i64 k ∧ Hid (Bk wr g2 27 (inoC (partI n1 n2 n3 n4 n5 bs k))) ∧ Hid (Bk wr w.heap.size 27 (inoC noI)) ∧ Hid (Below w.heap.size w wr)) (fun i _ => 9 - (intOf i).toNat)
    case atStart => exact ⟨0, Nat.zero_le _, rfl, X2.out, K2.out, HB2.out⟩
    case round =>
      obtain ⟨k, hk, rfl, HXR, HKR, HB⟩ := hrel
      clear K2 X2 HB2
      by_cases hlt : k < 9
      · obtain ⟨u, hu⟩ : ∃ u, valB ((bs.drop (21 + 8 * k)).take 4) = u := ⟨_, rfl⟩
        obtain ⟨s, hs⟩ : ∃ s, valB ((bs.drop (21 + 8 * k + 4)).take 4) = s := ⟨_, rfl⟩
        have hlu := (prAt_lt bs (21 + 8 * k)).1
        have hls := (prAt_lt bs (21 + 8 * k)).2
        rw [hu] at hlu
        rw [hs] at hls
        have HGA : Hid (∀ w', Calls Tryd.prog 39 #[.string (str bs), .int .i64 (21 + 8 * (k : Int)), .int .i64 4] w' fun e w'' => e = .returned (.int .u64 (u : Int)) ∧ w' = w'') := fun w' => by
          have h := Get_any bs (21 + 8 * k) 4 w' (by have := HL.out; omega) (by omega) (by have := HL.out; omega)
          rw [hu, show ((21 + 8 * k : Nat) : Int) = 21 + 8 * (k : Int) from by omega] at h
          exact h
        have HGB : Hid (∀ w', Calls Tryd.prog 39 #[.string (str bs), .int .i64 (25 + 8 * (k : Int)), .int .i64 4] w' fun e w'' => e = .returned (.int .u64 (s : Int)) ∧ w' = w'') := fun w' => by
          have h := Get_any bs (21 + 8 * k + 4) 4 w' (by have := HL.out; omega) (by omega) (by have := HL.out; omega)
          rw [hs, show ((21 + 8 * k + 4 : Nat) : Int) = 25 + 8 * (k : Int) from by omega] at h
          exact h
        have HNX : Hid (((inoC (partI n1 n2 n3 n4 n5 bs k)).setIfInBounds (5 + k * 2) (.int .i64 (u : Int))).setIfInBounds (5 + k * 2 + 1) (.int .u32 (s : Int)) = inoC (partI n1 n2 n3 n4 n5 bs (k + 1))) := by
          show _ = _
          rw [← partI_succ n1 n2 n3 n4 n5 bs k hlt, ← hu, ← hs]
          rfl
        have hs23 := inoC_size (partI n1 n2 n3 n4 n5 bs k) (partI_p _ _ _ _ _ _ _ hk)
        obtain ⟨z0, hz0⟩ : ∃ z, (inoC (partI n1 n2 n3 n4 n5 bs k))[5 + k * 2]? = some z := ⟨_, Array.getElem?_eq_getElem (by omega)⟩
        obtain ⟨z1, hz1⟩ : ∃ z, (inoC (partI n1 n2 n3 n4 n5 bs k))[5 + k * 2 + 1]? = some z := ⟨_, Array.getElem?_eq_getElem (by omega)⟩
        have hf0 := HXR.out.free (5 + k * 2)
        have k0 := (HXR.out.cell (5 + k * 2)).trans hz0
        have k1 := (HXR.out.cell (5 + k * 2 + 1)).trans hz1
        have hne1 : (⟨g2, 5 + k * 2, none⟩ : Addr) ≠ ⟨g2, 5 + k * 2 + 1, none⟩ := by simp
        have k1' : (wr.setCell ⟨g2, 5 + k * 2, none⟩ (.int .i64 (u : Int))).cell? ⟨g2, 5 + k * 2 + 1, none⟩ = some z1 := by rw [World.cell?_setCell_other _ _ _ _ hne1]; exact k1
        have hf1' : (wr.setCell ⟨g2, 5 + k * 2, none⟩ (.int .i64 (u : Int))).frozen? ⟨g2, 5 + k * 2 + 1, none⟩ = false := (HXR.out.set_ (5 + k * 2) (.int .i64 (u : Int))).free _
        have HX4 := Lib.hid ((HXR.out.set_ (5 + k * 2) (.int .i64 (u : Int))).set_ (5 + k * 2 + 1) (.int .u32 (s : Int)))
        rw [HNX.out] at HX4
        have HK4 := Lib.hid ((HKR.out.far (p := ⟨g2, 5 + k * 2, none⟩) (by have := HG2.out; show w.heap.size ≠ g2; omega) (.int .i64 (u : Int))).far (p := ⟨g2, 5 + k * 2 + 1, none⟩) (by have := HG2.out; show w.heap.size ≠ g2; omega) (.int .u32 (s : Int)))
        have HB4 := Lib.hid ((HB.out.setCell (p := ⟨g2, 5 + k * 2, none⟩) (Nat.le_of_lt HG2.out) (.int .i64 (u : Int))).setCell (p := ⟨g2, 5 + k * 2 + 1, none⟩) (Nat.le_of_lt HG2.out) (.int .u32 (s : Int)))
        clear hu hs hz0 hz1 hne1 hs23 k1 HNX
        go_wp2_with fail
        refine (HGA.out _).mono ?_
        rintro e w4 ⟨rfl, rfl⟩
        go_wp2_with fail
        refine (HGB.out _).mono ?_
        rintro e w4 ⟨rfl, rfl⟩
        go_wp2
        go_roundw
        case rel => exact ⟨k + 1, by omega, by go_num, HX4.out, HK4.out, HB4.out⟩
        case measure => simp [intOf]; omega
      · obtain rfl : k = 9 := by omega
        obtain ⟨X, hX⟩ : ∃ X, partI n1 n2 n3 n4 n5 bs 9 = X := ⟨_, rfl⟩
        have HX9 : Hid (X.p.length = 9) := by show _ = _; rw [← hX]; exact partI_p _ _ _ _ _ _ _ (by omega)
        rw [hX] at HXR HX6
        clear hX
        have HXS : Hid (prSums X.p) := by show prSums _; rw [← HX6.out]; exact decI_sums bs
        obtain ⟨t, ht⟩ : ∃ t, inoOk X = t := ⟨_, rfl⟩
        have HOK := Lib.hid ht
        have HQ2 : Hid (q = (if t && (inoB m X == bs) then 0 else 3)) := by
          show _ = _
          rw [← HQ.out, decIQ, if_pos (decide_eq_true HM.out), HHB.out, HX6.out, HOK.out]
          rfl
        clear ht
        go_wp2_with (refine wpList_load_ino rfl _ rfl g2 _ X rfl HX9.out HXR.out ?_)
        refine (refMayI_any X t wr HX9.out HOK.out).mono ?_
        rintro e w5 ⟨rfl, hb5⟩
        have K5 := Lib.hid (HKR.out.below hb5 HKR.out.lt)
        have X5 := Lib.hid (HXR.out.below hb5 HXR.out.lt)
        have HB5 := Lib.hid (HB.out.trans (hb5.mono HB.out.size))
        clear hb5 HKR HXR HB
        cases t
        · obtain rfl : q = 3 := HQ2.out
          obtain rfl : x = noI := by rw [← HX.out]; exact decIR_not (by rw [HQ.out]; decide)
          go_wp2_with (refine wpList_store_ino rfl _ _ rfl w.heap.size _ (inoC noI) noI rfl rfl rfl rfl K5.out ?_)
          refine bodyPost_ret (results_ino rfl _ _ w.heap.size _ noI _ rfl rfl rfl (K5.out.setRow (inoC noI))) rfl ?_
          exact ⟨rfl, HB5.out.setRow' (Nat.le_refl _) _⟩
        · obtain ⟨u, hu⟩ : ∃ u, (inoB m X == bs) = u := ⟨_, rfl⟩
          have HQ3 : Hid (q = (if u then 0 else 3)) := by show _ = _; rw [HQ2.out, hu]; rfl
          have hE : ((str (inoB m X)).toList == (str bs).toList) = u := by rw [str_toList, str_toList]; exact hu
          clear hu
          go_wp2_with (refine wpList_load_ino rfl _ rfl g2 _ X rfl HX9.out X5.out ?_)
          refine (refEncodeI_any m X w5 HX9.out HM.out HOK.out HXS.out).mono ?_
          rintro e w6 ⟨rfl, hb6⟩
          have K6 := Lib.hid (K5.out.below hb6 K5.out.lt)
          have X6 := Lib.hid (X5.out.below hb6 X5.out.lt)
          have HB6 := Lib.hid (HB5.out.trans (hb6.mono HB5.out.size))
          clear hb6 K5 X5 HB5
          cases u
          · obtain rfl : q = 3 := HQ3.out
            obtain rfl : x = noI := by rw [← HX.out]; exact decIR_not (by rw [HQ.out]; decide)
            go_wp2_with (refine wpList_store_ino rfl _ _ rfl w.heap.size _ (inoC noI) noI rfl rfl rfl rfl K6.out ?_)
            refine bodyPost_ret (results_ino rfl _ _ w.heap.size _ noI _ rfl rfl rfl (K6.out.setRow (inoC noI))) rfl ?_
            exact ⟨rfl, HB6.out.setRow' (Nat.le_refl _) _⟩
          · obtain rfl : q = 0 := HQ3.out
            obtain rfl : x = X := by rw [← HX.out, decIR, if_pos HQ.out, HX6.out]
            go_wp2_with (first | (refine wpList_load_ino rfl _ rfl g2 _ x rfl HX9.out X6.out ?_) | (refine wpList_store_ino rfl _ _ rfl w.heap.size _ (inoC noI) x rfl rfl HX9.out rfl K6.out ?_))
            refine bodyPost_ret (results_ino rfl _ _ w.heap.size _ x _ HX9.out rfl rfl (K6.out.setRow (inoC x))) rfl ?_
            exact ⟨rfl, HB6.out.setRow' (Nat.le_refl _) _⟩

theorem refDecodeI_any (m : Int) (bs : List UInt8) (q : Int) (x : Ino) (w : World) (hl : bs.length ≤ 9223372036854775807) (hq : decIQ m bs = q) (hx : decIR m bs = x) :
    Calls Tryd.prog 15 #[.int .i64 m, .string (str bs)] w fun e w' => e = .returned (.tuple #[.agg (inoC x), .int .i64 q]) ∧ Below w.heap.size w w' := by
  by_cases hm : 1 ≤ m ∧ m ≤ 39
  · cases hh : heldB bs with
    | true => exact refDecodeI_held m bs q x w hm (heldB_128 hh) hh hq hx
    | false =>
      obtain rfl : 5 = q := by rw [← hq, decIQ, if_pos (decide_eq_true hm), hh]; rfl
      obtain rfl : noI = x := by rw [← hx]; exact (decIR_not (by rw [hq]; decide)).symm
      exact refDecodeI_short m bs w hm hl hh
  · obtain rfl : 1 = q := by rw [← hq, decIQ, if_neg (by simpa using hm)]
    obtain rfl : noI = x := by rw [← hx]; exact (decIR_not (by rw [hq]; decide)).symm
    exact refDecodeI_out m bs w hm
end Go.Proofs.YtjhnabhieihifaaDoor
