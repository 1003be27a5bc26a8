/-
  What inode.Decode does. (Printed by wip/tools/ino5.py.)
-/
import Derived.Test.YtjhnabhieihifaaDoorIno4
namespace Go.Proofs.YtjhnabhieihifaaDoor
open Go.RowKit
set_option maxRecDepth 100000
set_option linter.unusedVariables false

section
variable {o : Oper} {a : Act} {w : World} {K : Act → World → Prop} {Q : Exit → Act → World → Prop}
theorem wp_load_pr9 (y : Operand) (ho : o.op = .load 25 y) (g : Nat) (t : TypeId) (L : List Pr) (hy : a.eval y = .pointer (some ⟨g, 0, none⟩)) (hp : L.length = 9) (hk : Bk w g t (prsC L)) (h : K (a.put o.dst (.agg (prsC L))) w) : o.wp Tryd.prog a w K Q := by
  obtain ⟨d, hu, hd⟩ := und_pr9
  exact wp_load_mid 25 y ho g 0 hy (prsV L) d (fun j v hv => by rw [Nat.zero_add, hk.cell]; simpa [prsC] using hv) hu hd (by rw [inf_pr9]; simp [prsV_length, hp]) h
theorem built_ino9 (a b c d e : Int) (q0 q1 q2 q3 q4 q5 q6 q7 q8 : Pr) : Tryd.prog.built 27 [(0, .int .i64 a), (1, .int .i64 b), (2, .int .i64 c), (3, .int .i64 d), (4, .int .i64 e), (5, .agg (prsC [q0, q1, q2, q3, q4, q5, q6, q7, q8]))] = some (inoC ⟨a, b, c, d, e, [q0, q1, q2, q3, q4, q5, q6, q7, q8]⟩) := by kernel_rfl
theorem built_ino (x : Ino) (hp : x.p.length = 9) : Tryd.prog.built 27 [(0, .int .i64 x.ty), (1, .int .i64 x.links), (2, .int .i64 x.ver), (3, .int .i64 x.size), (4, .int .i64 x.tick), (5, .agg (prsC x.p))] = some (inoC x) := by
  match x, hp with
  | ⟨a, b, c, d, e, [q0, q1, q2, q3, q4, q5, q6, q7, q8]⟩, _ => exact built_ino9 a b c d e q0 q1 q2 q3 q4 q5 q6 q7 q8
theorem wp_build_ino (parts : Array (Nat × Operand)) (ho : o.op = .build 27 parts) (x : Ino) (hp : x.p.length = 9) (hb : (parts.map fun (i, y) => (i, a.eval y)).toList = [(0, .int .i64 x.ty), (1, .int .i64 x.links), (2, .int .i64 x.ver), (3, .int .i64 x.size), (4, .int .i64 x.tick), (5, .agg (prsC x.p))]) (h : K (a.put o.dst (.agg (inoC x))) w) : o.wp Tryd.prog a w K Q := by
  have e := built_ino x hp
  rw [← hb] at e
  refine wp_build 27 parts ho (by rw [e]; rfl) ?_
  rw [e]
  exact h
end
theorem results_ino {fn : Func} {p q : Tmp} (h : fn.results = #[.cell p 27, .tmp q]) (tmps : Array Value) (w : World) (g : Nat) (t : TypeId) (x : Ino) (v : Value) (hx : x.p.length = 9) (hp : tmps.getD p undef = .pointer (some ⟨g, 0, none⟩)) (hq : tmps.getD q undef = v) (hk : Bk w g t (inoC x)) :
    (results fn tmps).run Tryd.prog w = .ok (.tuple #[.agg (inoC x), v]) w := by
  have hp' : tmps[p]?.getD undef = .pointer (some ⟨g, 0, none⟩) := by simpa using hp
  have hq' : tmps[q]?.getD undef = v := by simpa using hq
  simp [results, h, hp', hq', asAddr, loadVar_ino hk hx]
theorem zeros18 : #[.int .i64 0, .int .u32 0, .int .i64 0, .int .u32 0, .int .i64 0, .int .u32 0, .int .i64 0, .int .u32 0, .int .i64 0, .int .u32 0, .int .i64 0, .int .u32 0, .int .i64 0, .int .u32 0, .int .i64 0, .int .u32 0, .int .i64 0, .int .u32 0] = prsC (List.replicate 9 ⟨0, 0⟩) := rfl

/-- refused ahead of all -/
theorem inoDecode_out (m : Int) (A : Option Addr) (n c : Nat) (w : World) (hm : ¬ (1 ≤ m ∧ m ≤ 39)) :
    Calls Tryd.prog 12 #[.int .i64 m, .slice A n c] w fun e w' => e = .returned (.tuple #[.agg (inoC noI), .int .i64 1]) ∧ Below w.heap.size w w' := by
  have K0 := Lib.hid (Bk.new w 27 (inoC noI))
  have HB0 := Lib.hid ((Below.refl w.heap.size w).alloc (Nat.le_refl _) (.cells (inoC noI) 27))
  obtain ⟨w0, hw0⟩ : ∃ w0, w.alloc (.cells (inoC noI) 27) = w0 := ⟨_, rfl⟩
  rw [hw0] at K0 HB0
  rw [noI_cells] at hw0
  have HW := Lib.hid (decide_eq_false hm)
  have HW0 := Lib.hid hw0
  clear hm hw0
  go_enter Tryd.func12, Tryd.ntmps12
  go_wp2_with fail
  rw [HW0.out]
  refine (inoWithin_any _ _ _ false _ HW.out).mono ?_
  rintro e w1 ⟨rfl, rfl⟩
  go_wp2_with (refine wpList_store_ino rfl _ _ rfl w.heap.size 27 (inoC noI) noI rfl rfl rfl rfl K0.out ?_)
  have K1 := Lib.hid (K0.out.setRow (inoC noI))
  have HB1 := Lib.hid (HB0.out.setRow' (Nat.le_refl _) (inoC noI))
  refine bodyPost_ret (results_ino rfl _ _ w.heap.size _ noI _ rfl rfl rfl K1.out) rfl ?_
  exact ⟨rfl, HB1.out⟩

/-- not sealed -/
theorem inoDecode_short (m : Int) (A : Option Addr) (n c : Nat) (bs : List UInt8) (w : World) (hm : 1 ≤ m ∧ m ≤ 39) (hl : bs.length = n) (hr : Rd w w.heap.size A (bs.map bv)) (hc : n ≤ c) (hh : heldB bs = false) (hT : Tab w) :
    Calls Tryd.prog 12 #[.int .i64 m, .slice A n c] w fun e w' => e = .returned (.tuple #[.agg (inoC noI), .int .i64 5]) ∧ Below w.heap.size w w' := by
  have K0 := Lib.hid (Bk.new w 27 (inoC noI))
  have HB0 := Lib.hid ((Below.refl w.heap.size w).alloc (Nat.le_refl _) (.cells (inoC noI) 27))
  obtain ⟨w0, hw0⟩ : ∃ w0, w.alloc (.cells (inoC noI) 27) = w0 := ⟨_, rfl⟩
  rw [hw0] at K0 HB0
  rw [noI_cells] at hw0
  have HW := Lib.hid (decide_eq_true hm)
  have HW0 := Lib.hid hw0
  have HH := Lib.hid (Held_any w.heap.size A n c bs false w0 (hr.below HB0.out) HB0.out.size hl hc hh (hT.up HB0.out))
  clear hm hw0 hl hr hh hT
  go_enter Tryd.func12, Tryd.ntmps12
  go_wp2_with fail
  rw [HW0.out]
  refine (inoWithin_any _ _ _ true _ HW.out).mono ?_
  rintro e w1 ⟨rfl, rfl⟩
  go_wp2_with fail
  refine HH.out.mono ?_
  rintro e w1 ⟨rfl, hb1⟩
  have K1 := Lib.hid (K0.out.below hb1 K0.out.lt)
  have HB1 := Lib.hid (HB0.out.trans (hb1.mono HB0.out.size))
  clear hb1
  go_wp2_with (refine wpList_store_ino rfl _ _ rfl w.heap.size 27 (inoC noI) noI rfl rfl rfl rfl K1.out ?_)
  have K2 := Lib.hid (K1.out.setRow (inoC noI))
  have HB2 := Lib.hid (HB1.out.setRow' (Nat.le_refl _) (inoC noI))
  refine bodyPost_ret (results_ino rfl _ _ w.heap.size _ noI _ rfl rfl rfl K2.out) rfl ?_
  exact ⟨rfl, HB2.out⟩

/-- a new block for an inode -/
def InoNew (base : Nat) (v : Value) (w : World) : Prop := ∃ g : Nat, v = .pointer (some ⟨g, 0, none⟩) ∧ base ≤ g ∧ Bk w g 27 (inoC noI)
theorem InoNew.up {base : Nat} {v : Value} {w w' : World} (h : InoNew base v w) (hb : Below w.heap.size w w') : InoNew base v w' := by
  obtain ⟨g, rfl, hg, hr⟩ := h
  exact ⟨g, rfl, hg, hr.below hb hr.lt⟩
def slotD10 (i : Nat) : Nat := 31 + i
def waitD10 : Nat → List Nat
  | 3 => [2]
  | 4 => [1, 3]
  | 5 => [0, 4]
  | _ => []
def leaveD10 (g1 b o c : Nat) : Nat → Value → World → Prop
  | 0, v, _ => v = .slice (some ⟨g1, 0, none⟩) 9 9
  | 1, v, _ => v = .slice (some ⟨b, o, none⟩) 25 c
  | 2, v, _ => v = .slice (some ⟨g1 + 1, 0, none⟩) 7 7
  | 3, v, _ => v = .int .i64 7
  | 4, v, _ => v = .slice (some ⟨b, o + 7, none⟩) 18 (c - 7)
  | _, _, _ => True

def slotD11 (i : Nat) : Nat := if i = 22 then 10 else 37 + i
def waitD11 : Nat → List Nat
  | 1 => [0]
  | 2 => [1]
  | 3 => [2]
  | 5 => [4]
  | 6 => [5]
  | 7 => [6]
  | 9 => [8]
  | 10 => [9]
  | 11 => [10]
  | 13 => [12]
  | 14 => [13]
  | 15 => [14]
  | 17 => [16]
  | 18 => [17]
  | 19 => [18]
  | 21 => [3, 7, 11, 15, 19, 20]
  | 23 => [21, 22]
  | _ => []
def leaveD11 (B0 g1 b o c n1 n2 n3 n4 n5 : Nat) (L : List Pr) : Nat → Value → World → Prop
  | 0, v, _ => v = .slice (some ⟨b, o, none⟩) 25 c
  | 1, v, _ => v = .pointer (some ⟨b, o + 2, none⟩)
  | 2, v, _ => v = .int .u64 (n1 : Int)
  | 3, v, _ => v = .int .i64 (n1 : Int)
  | 4, v, _ => v = .slice (some ⟨b, o, none⟩) 25 c
  | 5, v, _ => v = .pointer (some ⟨b, o + 3, none⟩)
  | 6, v, _ => v = .int .u64 (n2 : Int)
  | 7, v, _ => v = .int .i64 (n2 : Int)
  | 8, v, _ => v = .slice (some ⟨b, o, none⟩) 25 c
  | 9, v, _ => v = .pointer (some ⟨b, o + 4, none⟩)
  | 10, v, _ => v = .int .u64 (n3 : Int)
  | 11, v, _ => v = .int .i64 (n3 : Int)
  | 12, v, _ => v = .slice (some ⟨b, o, none⟩) 25 c
  | 13, v, _ => v = .pointer (some ⟨b, o + 5, none⟩)
  | 14, v, _ => v = .int .u64 (n4 : Int)
  | 15, v, _ => v = .int .i64 (n4 : Int)
  | 16, v, _ => v = .slice (some ⟨b, o, none⟩) 25 c
  | 17, v, _ => v = .pointer (some ⟨b, o + 6, none⟩)
  | 18, v, _ => v = .int .u64 (n5 : Int)
  | 19, v, _ => v = .int .i64 (n5 : Int)
  | 20, v, _ => v = .agg (prsC L)
  | 21, v, _ => v = .agg (inoC ⟨n1, n2, n3, n4, n5, L⟩)
  | 22, v, w => InoNew B0 v w
  | _, _, _ => True

set_option maxHeartbeats 4000000 in
theorem inoDecode_held (m : Int) (A : Option Addr) (c : Nat) (bs : List UInt8) (q : Int) (x : Ino) (w : World) (hm : 1 ≤ m ∧ m ≤ 39) (hl : bs.length = 128) (hr : Rd w w.heap.size A (bs.map bv)) (hc : 128 ≤ c) (hcm : c ≤ maxLen) (hh : heldB bs = true) (hT : Tab w) (hq : decIQ m bs = q) (hx : decIR m bs = x) :
    Calls Tryd.prog 12 #[.int .i64 m, .slice A 128 c] w fun e w' => e = .returned (.tuple #[.agg (inoC x), .int .i64 q]) ∧ Below w.heap.size w w' := by
  have K0 := Lib.hid (Bk.new w 27 (inoC noI))
  have HB0 := Lib.hid ((Below.refl w.heap.size w).alloc (Nat.le_refl _) (.cells (inoC noI) 27))
  obtain ⟨w0, hw0⟩ : ∃ w0, w.alloc (.cells (inoC noI) 27) = w0 := ⟨_, rfl⟩
  rw [hw0] at K0 HB0
  have HS0 : Hid (w0.heap.size = w.heap.size + 1) := by show _ = _; rw [← hw0, World.alloc_size']
  rw [noI_cells] at hw0
  have HW := Lib.hid (decide_eq_true hm)
  have HW0 := Lib.hid hw0
  have HR := Lib.hid hr
  have HL := Lib.hid hl
  have HTW := Lib.hid hT
  have HH := Lib.hid (Held_any w.heap.size A 128 c bs true w0 (hr.below HB0.out) HB0.out.size hl hc hh (hT.up HB0.out))
  have HHB := Lib.hid hh
  have HM := Lib.hid hm
  have HQ := Lib.hid hq
  have HX := Lib.hid hx
  clear hw0 hl hr hh hT hm hq hx
  go_enter Tryd.func12, Tryd.ntmps12
  go_wp2_with fail
  rw [HW0.out]
  refine (inoWithin_any _ _ _ true _ HW.out).mono ?_
  rintro e w1 ⟨rfl, rfl⟩
  go_wp2_with fail
  refine HH.out.mono ?_
  rintro e w1 ⟨rfl, hb1⟩
  have K1 := Lib.hid (K0.out.below hb1 K0.out.lt)
  have HB1 := Lib.hid (HB0.out.trans (hb1.mono HB0.out.size))
  have HG1 : Hid (w.heap.size < w1.heap.size) := by have := hb1.size; have := HS0.out; show _ < _; omega
  clear hb1 HH HW0 K0 HB0 HS0
  -- the pointers' block, and the first widths
  have P2 := Lib.hid (Bk.new w1 25 (prsC (List.replicate 9 ⟨0, 0⟩)))
  have HB2 := Lib.hid (HB1.out.alloc HB1.out.size (.cells (prsC (List.replicate 9 ⟨0, 0⟩)) 25))
  have K2 := Lib.hid (K1.out.alloc (.cells (prsC (List.replicate 9 ⟨0, 0⟩)) 25))
  obtain ⟨w2, hw2⟩ : ∃ w2, w1.alloc (.cells (prsC (List.replicate 9 ⟨0, 0⟩)) 25) = w2 := ⟨_, rfl⟩
  rw [hw2] at P2 HB2 K2
  have HS2 : Hid (w2.heap.size = w1.heap.size + 1) := by show _ = _; rw [← hw2, World.alloc_size']
  rw [← zeros18] at hw2
  have HW2 := Lib.hid hw2
  have P3 := Lib.hid (P2.out.alloc (.cells ([4, 1, 1, 1, 4, 6, 4].map iv).toArray 3))
  have K3 := Lib.hid (K2.out.alloc (.cells ([4, 1, 1, 1, 4, 6, 4].map iv).toArray 3))
  have W3 := Lib.hid (Bk.new w2 3 ([4, 1, 1, 1, 4, 6, 4].map iv).toArray)
  have HB3 := Lib.hid (HB2.out.alloc HB2.out.size (.cells ([4, 1, 1, 1, 4, 6, 4].map iv).toArray 3))
  obtain ⟨w3, hw3⟩ : ∃ w3, w2.alloc (.cells ([4, 1, 1, 1, 4, 6, 4].map iv).toArray 3) = w3 := ⟨_, rfl⟩
  rw [hw3] at P3 K3 W3 HB3
  have HS3 : Hid (w3.heap.size = w2.heap.size + 1) := by show _ = _; rw [← hw3, World.alloc_size']
  have HW3 : Hid (w2.alloc (.cells #[.int .i64 4, .int .i64 1, .int .i64 1, .int .i64 1, .int .i64 4, .int .i64 6, .int .i64 4] 3) = w3) := hw3
  obtain ⟨g1, hg1⟩ : ∃ g1, w1.heap.size = g1 := ⟨_, rfl⟩
  rw [hg1] at P2 P3
  have HS2' : Hid (w2.heap.size = g1 + 1) := by show _ = _; rw [HS2.out, hg1]
  rw [HS2'.out] at W3
  clear hw2 hw3 K1 K2 P2
  go_wp2_with fail
  rw [HW2.out, HW3.out]
  refine (inoWidths_any 9 w3.heap.size _ 7 7 [4, 1, 1, 1, 4, 6, 4] w3 rfl (by omega) (by omega) (by simpa using Rd.bk W3.out) (Nat.le_refl _)).mono ?_
  rintro e w4 ⟨A4, c4, rfl, hr4, hb4⟩
  have K4 := Lib.hid (K3.out.below hb4 K3.out.lt)
  have P4 := Lib.hid (P3.out.below hb4 P3.out.lt)
  have HB4 := Lib.hid (HB3.out.trans (hb4.mono HB3.out.size))
  have HR4 := Lib.hid (show Rd w4 w4.heap.size A4 (inodeW.map iv) from hr4)
  have HRB4 := Lib.hid ((HR.out.below HB4.out).mono HB4.out.size)
  clear hb4 hr4 K3 P3 W3
  go_wp2_with fail
  refine (inoUnpack_new w4.heap.size A A4 128 c 25 c4 bs inodeW ([valB (bs.take 4), valB ((bs.drop 4).take 1), tyN bs, lkN bs, vrN bs, szN bs, tkN bs] ++ prsN (prsAt bs 21 9)) w4 HL.out rfl (by have := unp_inode HL.out; rwa [HL.out] at this) (nums_inode bs) HRB4.out HR4.out (Nat.le_refl _) hc hcm (by omega)).mono ?_
  rintro e w5 ⟨A5, c2, rfl, hc5, hcm5, hr5, hne5, hb5⟩
  have K5 := Lib.hid (K4.out.below hb5 K4.out.lt)
  have P5 := Lib.hid (P4.out.below hb5 P4.out.lt)
  have HB5 := Lib.hid (HB4.out.trans (hb5.mono HB4.out.size))
  obtain ⟨b, o, rfl, hbB, hcell⟩ := hr5.plain (by simp)
  have HNE : Hid (g1 < b ∧ w.heap.size < g1) := by
    have := P4.out.lt
    have := hne5 _ rfl
    simp only at this
    have := HG1.out
    exact ⟨by omega, by omega⟩
  have HC5 : Hid (∀ w', Oth g1 w5 w' → w'.cell? ⟨b, o + 2, none⟩ = some (.int .u64 (tyN bs : Int)) ∧ w'.cell? ⟨b, o + 3, none⟩ = some (.int .u64 (lkN bs : Int)) ∧ w'.cell? ⟨b, o + 4, none⟩ = some (.int .u64 (vrN bs : Int)) ∧ w'.cell? ⟨b, o + 5, none⟩ = some (.int .u64 (szN bs : Int)) ∧ w'.cell? ⟨b, o + 6, none⟩ = some (.int .u64 (tkN bs : Int)) ∧ b < w'.heap.size) := fun w' ho => by
    have hb : b ≠ g1 := by have := HNE.out; omega
    exact ⟨(ho.cell hb).trans (hcell 2 _ rfl), (ho.cell hb).trans (hcell 3 _ rfl), (ho.cell hb).trans (hcell 4 _ rfl), (ho.cell hb).trans (hcell 5 _ rfl), (ho.cell hb).trans (hcell 6 _ rfl), by rw [ho.2.2]; exact hbB⟩
  have HRP : Hid (Rd w5 w5.heap.size (some ⟨b, o + 7, none⟩) ((prsN (prsAt bs 21 9)).map uv)) := by
    have := hr5.drop 7
    rwa [add_plain] at this
  clear hb5 hr5 hne5 hcell K4 P4 HB4 HR4 HRB4
  go_wp2_with fail
  refine wp_region_tail (by kernel_rfl) 5 75 slotD10 waitD10 (leaveD10 g1 b o c2) rfl
    (by kernel_rfl) (fun i v w w' _ _ h => by unfold leaveD10 at *; split at h <;> exact h) ?_ ?_
  · intro i hi
    match i, hi with
    | 0, _ =>
      intro o ho a wc hk hb hd K hK
      cases ho
      have e0 := hk.rest 6 (.pointer (some ⟨g1, 0, none⟩)) (by omega) (by kernel_rfl) rfl
      rw [Array.getD_eq_getD_getElem?] at e0
      go_simp
      exact hK _ _ (Below.refl _ _) rfl
    | 1, _ =>
      intro o ho a wc hk hb hd K hK
      cases ho
      have e0 := hk.rest 8 (.slice (some ⟨b, o, none⟩) 25 c2) (by omega) (by kernel_rfl) rfl
      rw [Array.getD_eq_getD_getElem?] at e0
      go_simp
      exact hK _ _ (Below.refl _ _) rfl
    | 2, _ =>
      intro o ho a wc hk hb hd K hK
      cases ho
      have e0 := hk.rest 7 (.slice (some ⟨g1 + 1, 0, none⟩) 7 7) (by omega) (by kernel_rfl) rfl
      rw [Array.getD_eq_getD_getElem?] at e0
      go_simp
      exact hK _ _ (Below.refl _ _) rfl
    | 3, _ =>
      intro o ho a wc hk hb hd K hK
      cases ho
      have e0 := hd 2 (by simp [waitD10])
      simp only [leaveD10, slotD10, Nat.reduceAdd, Array.getD_eq_getD_getElem?] at e0
      go_simp
      exact hK _ _ (Below.refl _ _) rfl
    | 4, _ =>
      intro o ho a wc hk hb hd K hK
      cases ho
      have e0 := hd 1 (by simp [waitD10])
      have e1 := hd 3 (by simp [waitD10])
      simp only [leaveD10, slotD10, Nat.reduceAdd, Array.getD_eq_getD_getElem?] at e0 e1
      have hc7 : ¬ c2 = 7 := by omega
      go_simp
      exact hK _ _ (Below.refl _ _) rfl
    | _ + 5, h => exact absurd h (by omega)
  · intro vals w55 hb hR
    have v0 := hR 0 (by omega)
    have v1 := hR 1 (by omega)
    have v2 := hR 2 (by omega)
    have v3 := hR 3 (by omega)
    have v4 := hR 4 (by omega)
    simp only [leaveD10] at v0 v1 v2 v3 v4
    clear hR
    simp only [putAll, slotD10, Nat.reduceAdd, List.setIfInBounds_toArray, List.set_cons_zero, List.set_cons_succ, List.drop_succ_cons, List.drop_zero, v0, v1, v2, v3, v4]
    clear v0 v1 v2 v3 v4
    go_wp2_with fail
    refine (inoSet_any g1 25 _ 9 w5.heap.size (some ⟨b, o + 7, none⟩) (c2 - 7) (prsAt bs 21 9) _ (prsAt_length _ _ _) (by omega) (P5.out.below hb P5.out.lt) (prsC_size _) (HRP.out.below hb) (fun ad e => by cases e; show b ≠ g1; have := HNE.out; omega) (prsAt_words _ _ _)).mono ?_
    rintro e w6 ⟨rfl, hp6, ho6⟩
    have HB6 := Lib.hid ((HB5.out.trans (hb.mono HB5.out.size)).trans (ho6.1.mono (Nat.le_of_lt HNE.out.2)))
    have K6 := Lib.hid (ho6.bk (K5.out.below hb K5.out.lt) (by have := HNE.out.2; omega))
    obtain ⟨L, hL⟩ : ∃ L, prsAt bs 21 9 = L := ⟨_, rfl⟩
    have hL9 : L.length = 9 := by rw [← hL]; exact prsAt_length _ _ _
    rw [hL] at hp6
    obtain ⟨n1, hn1⟩ : ∃ n1, tyN bs = n1 := ⟨_, rfl⟩
    obtain ⟨n2, hn2⟩ : ∃ n2, lkN bs = n2 := ⟨_, rfl⟩
    obtain ⟨n3, hn3⟩ : ∃ n3, vrN bs = n3 := ⟨_, rfl⟩
    obtain ⟨n4, hn4⟩ : ∃ n4, szN bs = n4 := ⟨_, rfl⟩
    obtain ⟨n5, hn5⟩ : ∃ n5, tkN bs = n5 := ⟨_, rfl⟩
    have l1 := tyN_lt bs
    have l2 := lkN_lt bs
    have l3 := vrN_lt bs
    have l4 := szN_lt bs
    have l5 := tkN_lt bs
    have hx6 : decI bs = ⟨n1, n2, n3, n4, n5, L⟩ := by rw [decI, hn1, hn2, hn3, hn4, hn5, hL]
    have HC : Hid (∀ w', Below w6.heap.size w6 w' → w'.cell? ⟨b, o + 2, none⟩ = some (.int .u64 (n1 : Int)) ∧ w'.cell? ⟨b, o + 3, none⟩ = some (.int .u64 (n2 : Int)) ∧ w'.cell? ⟨b, o + 4, none⟩ = some (.int .u64 (n3 : Int)) ∧ w'.cell? ⟨b, o + 5, none⟩ = some (.int .u64 (n4 : Int)) ∧ w'.cell? ⟨b, o + 6, none⟩ = some (.int .u64 (n5 : Int)) ∧ Bk w' g1 25 (prsC L)) := fun w' hbw => by
      obtain ⟨f1, f2, f3, f4, f5, f6⟩ := HC5.out w5 (Oth.refl _ _)
      have hbb : b ≠ g1 := by have := HNE.out; omega
      have hlt : b < w6.heap.size := by rw [ho6.2.2]; have := hb.size; omega
      have go : ∀ (i : Nat) (v : Value), w5.cell? ⟨b, i, none⟩ = some v → w'.cell? ⟨b, i, none⟩ = some v := fun i v hv => (hbw.cell (p := ⟨b, i, none⟩) hlt).trans ((ho6.cell (p := ⟨b, i, none⟩) hbb).trans ((hb.cell (p := ⟨b, i, none⟩) hbB).trans hv))
      exact ⟨by rw [← hn1]; exact go _ _ f1, by rw [← hn2]; exact go _ _ f2, by rw [← hn3]; exact go _ _ f3, by rw [← hn4]; exact go _ _ f4, by rw [← hn5]; exact go _ _ f5, hp6.below hbw hp6.lt⟩
    rw [hn1] at l1
    rw [hn2] at l2
    rw [hn3] at l3
    rw [hn4] at l4
    rw [hn5] at l5
    have HX6 := Lib.hid hx6
    have HRB6 := Lib.hid ((HR.out.below HB6.out).mono HB6.out.size)
    have HZ := Lib.hid (Nat.le_refl w6.heap.size)
    clear hb hp6 ho6 hL hn1 hn2 hn3 hn4 hn5 hx6 P5 K5 HB5 HC5 HRP
    go_wp2_with fail
    refine wp_region_tail (by kernel_rfl) 23 75 slotD11 waitD11 (leaveD11 w6.heap.size g1 b o c2 n1 n2 n3 n4 n5 L) rfl
      (by kernel_rfl) (fun i v w w' _ hb h => by unfold leaveD11 at *; split at h <;> first | exact h | exact InoNew.up h hb) ?_ ?_
    · intro i hi
      match i, hi with
      | 0, _ =>
        intro o ho a wc hk hb hd K hK
        cases ho
        have e0 := hk.rest 8 (.slice (some ⟨b, o, none⟩) 25 c2) (by omega) (by kernel_rfl) rfl
        rw [Array.getD_eq_getD_getElem?] at e0
        go_simp
        exact hK _ _ (Below.refl _ _) rfl
      | 1, _ =>
        intro o ho a wc hk hb hd K hK
        cases ho
        have e0 := hd 0 (by simp [waitD11])
        simp only [leaveD11, slotD11, if_false, Nat.reduceEqDiff, Nat.reduceAdd, Array.getD_eq_getD_getElem?] at e0
        go_simp
        exact hK _ _ (Below.refl _ _) rfl
      | 2, _ =>
        intro o ho a wc hk hb hd K hK
        cases ho
        have e0 := hd 1 (by simp [waitD11])
        simp only [leaveD11, slotD11, if_false, Nat.reduceEqDiff, Nat.reduceAdd, Array.getD_eq_getD_getElem?] at e0
        obtain ⟨c1, c2, c3, c4, c5, -⟩ := HC.out _ hb
        go_simp
        exact hK _ _ (Below.refl _ _) rfl
      | 3, _ =>
        intro o ho a wc hk hb hd K hK
        cases ho
        have e0 := hd 2 (by simp [waitD11])
        simp only [leaveD11, slotD11, if_false, Nat.reduceEqDiff, Nat.reduceAdd, Array.getD_eq_getD_getElem?] at e0
        go_simp
        go_bits
        exact hK _ _ (Below.refl _ _) rfl
      | 4, _ =>
        intro o ho a wc hk hb hd K hK
        cases ho
        have e0 := hk.rest 8 (.slice (some ⟨b, o, none⟩) 25 c2) (by omega) (by kernel_rfl) rfl
        rw [Array.getD_eq_getD_getElem?] at e0
        go_simp
        exact hK _ _ (Below.refl _ _) rfl
      | 5, _ =>
        intro o ho a wc hk hb hd K hK
        cases ho
        have e0 := hd 4 (by simp [waitD11])
        simp only [leaveD11, slotD11, if_false, Nat.reduceEqDiff, Nat.reduceAdd, Array.getD_eq_getD_getElem?] at e0
        go_simp
        exact hK _ _ (Below.refl _ _) rfl
      | 6, _ =>
        intro o ho a wc hk hb hd K hK
        cases ho
        have e0 := hd 5 (by simp [waitD11])
        simp only [leaveD11, slotD11, if_false, Nat.reduceEqDiff, Nat.reduceAdd, Array.getD_eq_getD_getElem?] at e0
        obtain ⟨c1, c2, c3, c4, c5, -⟩ := HC.out _ hb
        go_simp
        exact hK _ _ (Below.refl _ _) rfl
      | 7, _ =>
        intro o ho a wc hk hb hd K hK
        cases ho
        have e0 := hd 6 (by simp [waitD11])
        simp only [leaveD11, slotD11, if_false, Nat.reduceEqDiff, Nat.reduceAdd, Array.getD_eq_getD_getElem?] at e0
        go_simp
        go_bits
        exact hK _ _ (Below.refl _ _) rfl
      | 8, _ =>
        intro o ho a wc hk hb hd K hK
        cases ho
        have e0 := hk.rest 8 (.slice (some ⟨b, o, none⟩) 25 c2) (by omega) (by kernel_rfl) rfl
        rw [Array.getD_eq_getD_getElem?] at e0
        go_simp
        exact hK _ _ (Below.refl _ _) rfl
      | 9, _ =>
        intro o ho a wc hk hb hd K hK
        cases ho
        have e0 := hd 8 (by simp [waitD11])
        simp only [leaveD11, slotD11, if_false, Nat.reduceEqDiff, Nat.reduceAdd, Array.getD_eq_getD_getElem?] at e0
        go_simp
        exact hK _ _ (Below.refl _ _) rfl
      | 10, _ =>
        intro o ho a wc hk hb hd K hK
        cases ho
        have e0 := hd 9 (by simp [waitD11])
        simp only [leaveD11, slotD11, if_false, Nat.reduceEqDiff, Nat.reduceAdd, Array.getD_eq_getD_getElem?] at e0
        obtain ⟨c1, c2, c3, c4, c5, -⟩ := HC.out _ hb
        go_simp
        exact hK _ _ (Below.refl _ _) rfl
      | 11, _ =>
        intro o ho a wc hk hb hd K hK
        cases ho
        have e0 := hd 10 (by simp [waitD11])
        simp only [leaveD11, slotD11, if_false, Nat.reduceEqDiff, Nat.reduceAdd, Array.getD_eq_getD_getElem?] at e0
        go_simp
        go_bits
        exact hK _ _ (Below.refl _ _) rfl
      | 12, _ =>
        intro o ho a wc hk hb hd K hK
        cases ho
        have e0 := hk.rest 8 (.slice (some ⟨b, o, none⟩) 25 c2) (by omega) (by kernel_rfl) rfl
        rw [Array.getD_eq_getD_getElem?] at e0
        go_simp
        exact hK _ _ (Below.refl _ _) rfl
      | 13, _ =>
        intro o ho a wc hk hb hd K hK
        cases ho
        have e0 := hd 12 (by simp [waitD11])
        simp only [leaveD11, slotD11, if_false, Nat.reduceEqDiff, Nat.reduceAdd, Array.getD_eq_getD_getElem?] at e0
        go_simp
        exact hK _ _ (Below.refl _ _) rfl
      | 14, _ =>
        intro o ho a wc hk hb hd K hK
        cases ho
        have e0 := hd 13 (by simp [waitD11])
        simp only [leaveD11, slotD11, if_false, Nat.reduceEqDiff, Nat.reduceAdd, Array.getD_eq_getD_getElem?] at e0
        obtain ⟨c1, c2, c3, c4, c5, -⟩ := HC.out _ hb
        go_simp
        exact hK _ _ (Below.refl _ _) rfl
      | 15, _ =>
        intro o ho a wc hk hb hd K hK
        cases ho
        have e0 := hd 14 (by simp [waitD11])
        simp only [leaveD11, slotD11, if_false, Nat.reduceEqDiff, Nat.reduceAdd, Array.getD_eq_getD_getElem?] at e0
        go_simp
        go_bits
        exact hK _ _ (Below.refl _ _) rfl
      | 16, _ =>
        intro o ho a wc hk hb hd K hK
        cases ho
        have e0 := hk.rest 8 (.slice (some ⟨b, o, none⟩) 25 c2) (by omega) (by kernel_rfl) rfl
        rw [Array.getD_eq_getD_getElem?] at e0
        go_simp
        exact hK _ _ (Below.refl _ _) rfl
      | 17, _ =>
        intro o ho a wc hk hb hd K hK
        cases ho
        have e0 := hd 16 (by simp [waitD11])
        simp only [leaveD11, slotD11, if_false, Nat.reduceEqDiff, Nat.reduceAdd, Array.getD_eq_getD_getElem?] at e0
        go_simp
        exact hK _ _ (Below.refl _ _) rfl
      | 18, _ =>
        intro o ho a wc hk hb hd K hK
        cases ho
        have e0 := hd 17 (by simp [waitD11])
        simp only [leaveD11, slotD11, if_false, Nat.reduceEqDiff, Nat.reduceAdd, Array.getD_eq_getD_getElem?] at e0
        obtain ⟨c1, c2, c3, c4, c5, -⟩ := HC.out _ hb
        go_simp
        exact hK _ _ (Below.refl _ _) rfl
      | 19, _ =>
        intro o ho a wc hk hb hd K hK
        cases ho
        have e0 := hd 18 (by simp [waitD11])
        simp only [leaveD11, slotD11, if_false, Nat.reduceEqDiff, Nat.reduceAdd, Array.getD_eq_getD_getElem?] at e0
        go_simp
        go_bits
        exact hK _ _ (Below.refl _ _) rfl
      | 20, _ =>
        intro o ho a wc hk hb hd K hK
        cases ho
        have e0 := hk.rest 6 (.pointer (some ⟨g1, 0, none⟩)) (by omega) (by kernel_rfl) rfl
        rw [Array.getD_eq_getD_getElem?] at e0
        refine (if_pos (show Region.wanted _ _ = true from rfl)).mpr ?_
        rw [← Array.getD_eq_getD_getElem?] at e0
        exact wp_load_pr9 _ rfl g1 _ L e0 hL9 (HC.out _ hb).2.2.2.2.2 (hK _ _ (Below.refl _ _) rfl)
      | 21, _ =>
        intro o ho a wc hk hb hd K hK
        cases ho
        have e0 := hd 3 (by simp [waitD11])
        have e1 := hd 7 (by simp [waitD11])
        have e2 := hd 11 (by simp [waitD11])
        have e3 := hd 15 (by simp [waitD11])
        have e4 := hd 19 (by simp [waitD11])
        have e5 := hd 20 (by simp [waitD11])
        simp only [leaveD11, slotD11, if_false, Nat.reduceEqDiff, Nat.reduceAdd, Array.getD_eq_getD_getElem?] at e0 e1 e2 e3 e4 e5
        refine (if_pos (show Region.wanted _ _ = true from rfl)).mpr ?_
        exact wp_build_ino _ rfl ⟨n1, n2, n3, n4, n5, L⟩ hL9 (by simp [Act.eval, e0, e1, e2, e3, e4, e5]) (hK _ _ (Below.refl _ _) rfl)
      | 22, _ =>
        intro o ho a wc hk hb hd K hK
        cases ho
        go_simp
        exact hK _ _ ((Below.refl _ _).alloc (Nat.le_refl _) _) ⟨_, rfl, Nat.le_trans HZ.out hb.size, Bk.new wc _ (inoC noI)⟩
      | _ + 23, h => exact absurd h (by omega)
    · intro vals w7 hb hR
      have v0 := hR 0 (by omega)
      have v1 := hR 1 (by omega)
      have v2 := hR 2 (by omega)
      have v3 := hR 3 (by omega)
      have v4 := hR 4 (by omega)
      have v5 := hR 5 (by omega)
      have v6 := hR 6 (by omega)
      have v7 := hR 7 (by omega)
      have v8 := hR 8 (by omega)
      have v9 := hR 9 (by omega)
      have v10 := hR 10 (by omega)
      have v11 := hR 11 (by omega)
      have v12 := hR 12 (by omega)
      have v13 := hR 13 (by omega)
      have v14 := hR 14 (by omega)
      have v15 := hR 15 (by omega)
      have v16 := hR 16 (by omega)
      have v17 := hR 17 (by omega)
      have v18 := hR 18 (by omega)
      have v19 := hR 19 (by omega)
      have v20 := hR 20 (by omega)
      have v21 := hR 21 (by omega)
      have v22 := hR 22 (by omega)
      simp only [leaveD11] at v0 v1 v2 v3 v4 v5 v6 v7 v8 v9 v10 v11 v12 v13 v14 v15 v16 v17 v18 v19 v20 v21 v22
      clear hR
      simp only [putAll, slotD11, if_true, if_false, Nat.reduceEqDiff, Nat.reduceAdd, List.setIfInBounds_toArray, List.set_cons_zero, List.set_cons_succ, List.drop_succ_cons, List.drop_zero, v0, v1, v2, v3, v4, v5, v6, v7, v8, v9, v10, v11, v12, v13, v14, v15, v16, v17, v18, v19, v20, v21]
      clear v0 v1 v2 v3 v4 v5 v6 v7 v8 v9 v10 v11 v12 v13 v14 v15 v16 v17 v18 v19 v20 v21
      obtain ⟨X, hX⟩ : ∃ X : Ino, X = ⟨n1, n2, n3, n4, n5, L⟩ := ⟨_, rfl⟩
      rw [← hX] at HX6 ⊢
      have hX9 : X.p.length = 9 := by rw [hX]; exact hL9
      have HX9 := Lib.hid hX9
      have HXS : Hid (prSums X.p) := by show prSums _; rw [← HX6.out]; exact decI_sums bs
      have K7 := Lib.hid (K6.out.below hb K6.out.lt)
      have HB7 := Lib.hid (HB6.out.trans (hb.mono HB6.out.size))
      obtain ⟨g2, v22, hg2, hbk2⟩ := v22
      rw [v22]
      have HGW : Hid (w.heap.size < g2) := Nat.lt_of_lt_of_le K6.out.lt hg2
      have K8 := Lib.hid (K7.out.setRow_far (g' := g2) (by have := HGW.out; omega) (inoC X))
      have HB8 := Lib.hid (HB7.out.setRow' (g := g2) (Nat.le_of_lt HGW.out) (inoC X))
      have X8 := Lib.hid (hbk2.setRow (inoC X))
      have X7 := Lib.hid hbk2
      clear hb hX hX9 hbk2 hg2 v22 hL9 l1 l2 l3 l4 l5 HC K6 K7 HB6 HB7 HRB6 HZ
      go_wp2_with (first | (refine wpList_store_ino rfl _ _ rfl g2 _ _ X rfl rfl HX9.out rfl X7.out ?_) | (refine wpList_load_ino rfl _ rfl g2 _ X rfl HX9.out X8.out ?_))
      obtain ⟨w8, hw8⟩ : ∃ w8, w7.setRow g2 (inoC X) = w8 := ⟨_, rfl⟩
      rw [hw8] at K8 HB8 X8 ⊢
      have HRB8 := Lib.hid ((HR.out.below HB8.out).mono HB8.out.size)
      clear hw8 X7
      obtain ⟨t, ht⟩ : ∃ t, inoOk X = t := ⟨_, rfl⟩
      have HOK := Lib.hid ht
      clear ht
      have HQ2 : Hid (q = (if t && (inoB m X == bs) then 0 else 3)) := by
        show _ = _
        rw [← HQ.out, decIQ, if_pos (decide_eq_true HM.out), HHB.out, HX6.out, HOK.out]
        rfl
      cases t
      · obtain rfl : q = 3 := HQ2.out
        obtain rfl : x = noI := by rw [← HX.out]; exact decIR_not (by rw [HQ.out]; decide)
        refine (inoEncode_no m X w8 HX9.out (.inr HOK.out)).mono ?_
        rintro e w9 ⟨rfl, hb9⟩
        have K9 := Lib.hid (K8.out.below hb9 K8.out.lt)
        have HB9 := Lib.hid (HB8.out.trans (hb9.mono HB8.out.size))
        clear hb9 K8 HB8 X8
        go_wp2_with (refine wpList_store_ino rfl _ _ rfl w.heap.size _ (inoC noI) noI rfl rfl rfl rfl K9.out ?_)
        refine bodyPost_ret (results_ino rfl _ _ w.heap.size _ noI _ rfl rfl rfl (K9.out.setRow (inoC noI))) rfl ?_
        exact ⟨rfl, HB9.out.setRow' (Nat.le_refl _) _⟩
      · obtain ⟨u, hu⟩ : ∃ u, (inoB m X == bs) = u := ⟨_, rfl⟩
        have HU := Lib.hid hu
        have HQ3 : Hid (q = (if u then 0 else 3)) := by show _ = _; rw [HQ2.out, hu]; rfl
        clear hu
        refine (inoEncode_yes m X w8 HX9.out HM.out HOK.out HXS.out (HTW.out.up HB8.out)).mono ?_
        rintro e w9 ⟨g9, rfl, hg9, hbk9, hb9⟩
        have K9 := Lib.hid (K8.out.below hb9 K8.out.lt)
        have X9 := Lib.hid (X8.out.below hb9 X8.out.lt)
        have HB9 := Lib.hid (HB8.out.trans (hb9.mono HB8.out.size))
        have HRB9 := Lib.hid ((HRB8.out.below hb9).mono hb9.size)
        have HBK9 := Lib.hid hbk9
        clear hb9 hbk9 hg9 K8 HB8 X8 HRB8
        go_wp2_with fail
        refine (inoEqual_any w9.heap.size w9.heap.size (some ⟨g9, 0, none⟩) A 128 128 128 c (inoB m X) bs u w9 (inoB_len m X HX9.out) HL.out (by simpa using Rd.bk HBK9.out) HRB9.out HU.out).mono ?_
        rintro e w10 ⟨rfl, rfl⟩
        cases u
        · obtain rfl : q = 3 := HQ3.out
          obtain rfl : x = noI := by rw [← HX.out]; exact decIR_not (by rw [HQ.out]; decide)
          go_wp2_with (refine wpList_store_ino rfl _ _ rfl w.heap.size _ (inoC noI) noI rfl rfl rfl rfl K9.out ?_)
          refine bodyPost_ret (results_ino rfl _ _ w.heap.size _ noI _ rfl rfl rfl (K9.out.setRow (inoC noI))) rfl ?_
          exact ⟨rfl, HB9.out.setRow' (Nat.le_refl _) _⟩
        · obtain rfl : q = 0 := HQ3.out
          obtain rfl : x = X := by rw [← HX.out, decIR, if_pos HQ.out, HX6.out]
          go_wp2_with (first | (refine wpList_load_ino rfl _ rfl g2 _ x rfl HX9.out X9.out ?_) | (refine wpList_store_ino rfl _ _ rfl w.heap.size _ (inoC noI) x rfl rfl HX9.out rfl K9.out ?_))
          refine bodyPost_ret (results_ino rfl _ _ w.heap.size _ x _ HX9.out rfl rfl (K9.out.setRow (inoC x))) rfl ?_
          exact ⟨rfl, HB9.out.setRow' (Nat.le_refl _) _⟩

theorem inoDecode_any (m : Int) (A : Option Addr) (n c : Nat) (bs : List UInt8) (q : Int) (x : Ino) (w : World) (hl : bs.length = n) (hr : Rd w w.heap.size A (bs.map bv)) (hc : n ≤ c) (hcm : c ≤ maxLen) (hT : Tab w) (hq : decIQ m bs = q) (hx : decIR m bs = x) :
    Calls Tryd.prog 12 #[.int .i64 m, .slice A n c] w fun e w' => e = .returned (.tuple #[.agg (inoC x), .int .i64 q]) ∧ Below w.heap.size w w' := by
  by_cases hm : 1 ≤ m ∧ m ≤ 39
  · cases hh : heldB bs with
    | true =>
      obtain rfl : n = 128 := hl.symm.trans (heldB_128 hh)
      exact inoDecode_held m A c bs q x w hm hl hr hc hcm hh hT hq hx
    | false =>
      obtain rfl : 5 = q := by rw [← hq, decIQ, if_pos (decide_eq_true hm), hh]; rfl
      obtain rfl : noI = x := by rw [← hx]; exact (decIR_not (by rw [hq]; decide)).symm
      exact inoDecode_short m A n c bs w hm hl hr hc hh hT
  · obtain rfl : 1 = q := by rw [← hq, decIQ, if_neg (by simpa using hm)]
    obtain rfl : noI = x := by rw [← hx]; exact (decIR_not (by rw [hq]; decide)).symm
    exact inoDecode_out m A n c w hm
end Go.Proofs.YtjhnabhieihifaaDoor
