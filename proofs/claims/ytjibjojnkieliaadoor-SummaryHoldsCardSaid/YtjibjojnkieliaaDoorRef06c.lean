/-
  What the document's summary of layer 6 is. (Printed by wip/tools/ref06c.py.)
-/
import Derived.Test.YtjibjojnkieliaaDoorRef06b
import Derived.Test.YtjibjojnkieliaaDoorRef01
import Derived.Test.YtjibjojnkieliaaDoorCrcLaw
namespace Go.Proofs.YtjibjojnkieliaaDoor
open Go.RowKit
set_option linter.unusedVariables false

def bM : List UInt8 := [104, 115, 117, 109]
theorem bM_eq : be 4 1752397165 = bM := by decide
theorem ret_str {a b : List UInt8} (h : a = b) : Ending.returned (.string (str a)) = .returned (.string (str b)) := by rw [h]
/-- the octets of a part as far as its first entries -/
def preB (s x n : Nat) (f : Bool) (l : List En) : List UInt8 := (((bM ++ be 6 s) ++ be 4 x) ++ be 1 n) ++ (be 1 (finN f) ++ recs (ensR l))
theorem preB_all (s x : Nat) (f : Bool) (l : List En) : sealB (preB s x l.length f l) = octB ⟨s, x, f, l⟩ := by
  have h : preB s x l.length f l = recs (ptR ⟨s, x, f, l⟩) := by
    rw [ptR, recs_append]
    simp [preB, recs, headR, ← bM_eq]
  rw [h]
  rfl
theorem preB_len (s x n : Nat) (f : Bool) (l : List En) : (preB s x n f l).length = 16 + 8 * l.length := by simp [preB, recs_ensR, be_length, bM]; omega
theorem preB_snoc (s x n : Nat) (f : Bool) (l : List En) (k : Nat) (y1 y2 y3 y4 : Nat) (hk : l[k]? = some ⟨y1, y2, y3, y4⟩) : preB s x n f (l.take (k + 1)) = preB s x n f (l.take k) ++ (((be 1 y1 ++ be 1 y2) ++ be 2 y3) ++ be 4 y4) := by
  rw [preB, ensR_take_succ l k _ hk, recs_append, preB]
  simp [recs, enR]
def slotH1 (i : Nat) : Nat := 6 + i
def waitH1 : Nat → List Nat
  | 1 => [0]
  | 2 => [1]
  | 3 => [2]
  | 4 => [3]
  | 6 => [5]
  | 7 => [6]
  | 8 => [7]
  | 9 => [4, 8]
  | 11 => [10]
  | 12 => [11]
  | 13 => [12]
  | 14 => [13]
  | 15 => [9, 14]
  | 16 => [15]
  | _ => []
def leaveH1 (g s x n : Nat) (A : Option Addr) (c : Nat) (P1 P2 P3 : List UInt8) : Nat → Value → World → Prop
  | 0, v, _ => v = .pointer (some ⟨g, 0, none⟩)
  | 1, v, _ => v = .int .i64 (s : Int)
  | 2, v, _ => v = .int .u64 (s : Int)
  | 3, v, _ => v = .string (str (be 6 s))
  | 4, v, _ => v = .string (str P1)
  | 5, v, _ => v = .pointer (some ⟨g, 1, none⟩)
  | 6, v, _ => v = .int .i64 (x : Int)
  | 7, v, _ => v = .int .u64 (x : Int)
  | 8, v, _ => v = .string (str (be 4 x))
  | 9, v, _ => v = .string (str P2)
  | 10, v, _ => v = .pointer (some ⟨g, 3, none⟩)
  | 11, v, _ => v = .slice A n c
  | 12, v, _ => v = .int .i64 (n : Int)
  | 13, v, _ => v = .int .u64 (n : Int)
  | 14, v, _ => v = .string (str (be 1 n))
  | 15, v, _ => v = .string (str P3)
  | _, _, _ => True
def slotH9 (i : Nat) : Nat := 40 + i
def waitH9 : Nat → List Nat
  | 2 => [1]
  | 3 => [2]
  | 4 => [3]
  | 6 => [5]
  | 7 => [6]
  | 8 => [7]
  | 9 => [4, 8]
  | 11 => [10]
  | 12 => [11]
  | 13 => [12]
  | 14 => [9, 13]
  | 16 => [15]
  | 17 => [16]
  | 18 => [17]
  | 19 => [14, 18]
  | 20 => [0, 19]
  | 21 => [20]
  | _ => []
def leaveH9 (gy : Nat) (S Q1 Q2 Q3 Q4 : List UInt8) (y1 y2 y3 y4 : Nat) : Nat → Value → World → Prop
  | 0, v, _ => v = .string (str S)
  | 1, v, _ => v = .pointer (some ⟨gy, 0, none⟩)
  | 2, v, _ => v = .int .i64 (y1 : Int)
  | 3, v, _ => v = .int .u64 (y1 : Int)
  | 4, v, _ => v = .string (str (be 1 y1))
  | 5, v, _ => v = .pointer (some ⟨gy, 1, none⟩)
  | 6, v, _ => v = .int .i64 (y2 : Int)
  | 7, v, _ => v = .int .u64 (y2 : Int)
  | 8, v, _ => v = .string (str (be 1 y2))
  | 9, v, _ => v = .string (str Q1)
  | 10, v, _ => v = .pointer (some ⟨gy, 2, none⟩)
  | 11, v, _ => v = .int .i64 (y3 : Int)
  | 12, v, _ => v = .int .u64 (y3 : Int)
  | 13, v, _ => v = .string (str (be 2 y3))
  | 14, v, _ => v = .string (str Q2)
  | 15, v, _ => v = .pointer (some ⟨gy, 3, none⟩)
  | 16, v, _ => v = .int .u32 (y4 : Int)
  | 17, v, _ => v = .int .u64 (y4 : Int)
  | 18, v, _ => v = .string (str (be 4 y4))
  | 19, v, _ => v = .string (str Q3)
  | 20, v, _ => v = .string (str Q4)
  | _, _, _ => True
theorem leaveH1_mono (g s x n : Nat) (A : Option Addr) (c : Nat) (P1 P2 P3 : List UInt8) (w0 : World) (i : Nat) (v' : Value) (w w' : World) (_ : Below w0.heap.size w0 w) (hb : Below w.heap.size w w') (h : leaveH1 g s x n A c P1 P2 P3 i v' w) : leaveH1 g s x n A c P1 P2 P3 i v' w' := by
  unfold leaveH1 at *
  split at h <;> exact h

set_option maxRecDepth 100000 in
set_option maxHeartbeats 4000000 in
theorem refEncode_nat (s x : Nat) (f : Bool) (B : Nat) (A : Option Addr) (n c : Nat) (l : List En) (w : World) (hl : l.length = n) (hr : Rd w B A (ensV l)) (hB : B ≤ w.heap.size) (hs : s < 281474976710656) (hx : x < 4294967296) (hn : n ≤ 13) (hok : ∀ y ∈ l, enOk y = true) (hsum : sumsOk l) :
    Calls Tryd.prog 14 #[ptV s x f A n c] w fun e w' => e = .returned (.string (str (octB ⟨s, x, f, l⟩))) ∧ Below w.heap.size w w' := by
  have K0 := Bk.new w 24 #[.int .i64 (s : Int), .int .i64 (x : Int), .bool f, .slice A n c]
  have HB0 := Lib.hid ((Below.refl w.heap.size w).alloc (Nat.le_refl _) (.cells #[.int .i64 (s : Int), .int .i64 (x : Int), .bool f, .slice A n c] 24))
  obtain ⟨w0, hw0⟩ : ∃ w0, w.alloc (.cells #[.int .i64 (s : Int), .int .i64 (x : Int), .bool f, .slice A n c] 24) = w0 := ⟨_, rfl⟩
  obtain ⟨P1, hP1⟩ : ∃ P, bM ++ be 6 s = P := ⟨_, rfl⟩
  obtain ⟨P2, hP2⟩ : ∃ P, P1 ++ be 4 x = P := ⟨_, rfl⟩
  obtain ⟨P3, hP3⟩ : ∃ P, P2 ++ be 1 n = P := ⟨_, rfl⟩
  have HP1 := Lib.hid hP1
  have HP2 := Lib.hid hP2
  have HP3 := Lib.hid hP3
  have HPRE : Hid (∀ m, preB s x n f m = P3 ++ (be 1 (finN f) ++ recs (ensR m))) := fun m => by rw [preB, hP1, hP2, hP3]
  have HL1 : Hid ((str P1).size = 10 ∧ (str P2).size = 14 ∧ (str P3).size = 15) := by
    rw [str_size, str_size, str_size, ← hP3, ← hP2, ← hP1]
    simp [be_length, bM, Hid]
  have HR := Lib.hid hr
  have HL := Lib.hid hl
  have HOK := Lib.hid hok
  have HS := Lib.hid hsum
  rw [hw0] at K0 HB0
  have K0 := Lib.hid K0
  have HW0 := Lib.hid hw0
  clear hP1 hP2 hP3 hr hl hok hsum hw0
  have HK : Hid (∀ w', Below w0.heap.size w0 w' → Bk w' w.heap.size 24 #[.int .i64 (s : Int), .int .i64 (x : Int), .bool f, .slice A n c]) := fun w' hb => K0.out.below hb K0.out.lt
  unfold ptV
  go_enter Tryd.func14, Tryd.ntmps14
  go_wp2_with fail
  rw [HW0.out]
  refine wp_region_tail (by kernel_rfl) 16 63 slotH1 waitH1 (leaveH1 w.heap.size s x n A c P1 P2 P3) rfl
    (by kernel_rfl) (leaveH1_mono _ _ _ _ _ _ _ _ _ _) ?_ ?_
  · intro i hi
    match i, hi with
    | 0, _ =>
      intro o ho a wc hk hb hd K hK
      cases ho
      have e0 := hk.rest 1 (.pointer (some ⟨w.heap.size, 0, none⟩)) (by omega) (by kernel_rfl) rfl
      rw [Array.getD_eq_getD_getElem?] at e0
      go_simp
      exact hK _ _ (Below.refl _ _) rfl
    | 1, _ =>
      intro o ho a wc hk hb hd K hK
      cases ho
      have e0 := hd 0 (by simp [waitH1])
      simp only [leaveH1, slotH1, Nat.reduceAdd, Array.getD_eq_getD_getElem?] at e0
      obtain ⟨c0, c1, c2, c3, -⟩ := ent_cells (HK.out _ hb)
      go_simp
      exact hK _ _ (Below.refl _ _) rfl
    | 2, _ =>
      intro o ho a wc hk hb hd K hK
      cases ho
      have e0 := hd 1 (by simp [waitH1])
      simp only [leaveH1, slotH1, Nat.reduceAdd, Array.getD_eq_getD_getElem?] at e0
      have q : IntKind.u64.wrap (s : Int) = (s : Int) := IntWalk.u64_in _ (by omega)
      go_simp
      exact hK _ _ (Below.refl _ _) rfl
    | 3, _ =>
      intro o ho a wc hk hb hd K hK
      cases ho
      have e0 := hd 2 (by simp [waitH1])
      simp only [leaveH1, slotH1, Nat.reduceAdd, Array.getD_eq_getD_getElem?] at e0
      go_simp
      refine (Of_any s 6 wc (by omega) (by omega)).mono ?_
      rintro e w3 ⟨rfl, hw3⟩
      exact hK _ _ hw3 rfl
    | 4, _ =>
      intro o ho a wc hk hb hd K hK
      cases ho
      have e0 := hd 3 (by simp [waitH1])
      simp only [leaveH1, slotH1, Nat.reduceAdd, Array.getD_eq_getD_getElem?] at e0
      have z1 : (str bM).size ≤ 12 := by rw [str_size]; simp [bM]
      have z2 : (str (be 6 s)).size ≤ 12 := by rw [str_size, be_length]; omega
      go_simp
      exact hK _ _ (Below.refl _ _) (by show Value.string _ = Value.string _; rw [← HP1.out, ← str_append]; first | done | rfl)
    | 5, _ =>
      intro o ho a wc hk hb hd K hK
      cases ho
      have e0 := hk.rest 1 (.pointer (some ⟨w.heap.size, 0, none⟩)) (by omega) (by kernel_rfl) rfl
      rw [Array.getD_eq_getD_getElem?] at e0
      go_simp
      exact hK _ _ (Below.refl _ _) rfl
    | 6, _ =>
      intro o ho a wc hk hb hd K hK
      cases ho
      have e0 := hd 5 (by simp [waitH1])
      simp only [leaveH1, slotH1, Nat.reduceAdd, Array.getD_eq_getD_getElem?] at e0
      obtain ⟨c0, c1, c2, c3, -⟩ := ent_cells (HK.out _ hb)
      go_simp
      exact hK _ _ (Below.refl _ _) rfl
    | 7, _ =>
      intro o ho a wc hk hb hd K hK
      cases ho
      have e0 := hd 6 (by simp [waitH1])
      simp only [leaveH1, slotH1, Nat.reduceAdd, Array.getD_eq_getD_getElem?] at e0
      have q : IntKind.u64.wrap (x : Int) = (x : Int) := IntWalk.u64_in _ (by omega)
      go_simp
      exact hK _ _ (Below.refl _ _) rfl
    | 8, _ =>
      intro o ho a wc hk hb hd K hK
      cases ho
      have e0 := hd 7 (by simp [waitH1])
      simp only [leaveH1, slotH1, Nat.reduceAdd, Array.getD_eq_getD_getElem?] at e0
      go_simp
      refine (Of_any x 4 wc (by omega) (by omega)).mono ?_
      rintro e w3 ⟨rfl, hw3⟩
      exact hK _ _ hw3 rfl
    | 9, _ =>
      intro o ho a wc hk hb hd K hK
      cases ho
      have e0 := hd 4 (by simp [waitH1])
      have e1 := hd 8 (by simp [waitH1])
      simp only [leaveH1, slotH1, Nat.reduceAdd, Array.getD_eq_getD_getElem?] at e0 e1
      have z1 : (str P1).size ≤ 12 := by rw [HL1.out.1]; omega
      have z2 : (str (be 4 x)).size ≤ 12 := by rw [str_size, be_length]; omega
      have zz : ¬ (9223372036854775807 < (str P1).size + (str (be 4 x)).size) := by omega
      go_simp
      first | (rw [if_neg zz, str_append P1 (be 4 x), HP2.out]; go_simp) | rw [str_append P1 (be 4 x), HP2.out]
      exact hK _ _ (Below.refl _ _) rfl
    | 10, _ =>
      intro o ho a wc hk hb hd K hK
      cases ho
      have e0 := hk.rest 1 (.pointer (some ⟨w.heap.size, 0, none⟩)) (by omega) (by kernel_rfl) rfl
      rw [Array.getD_eq_getD_getElem?] at e0
      go_simp
      exact hK _ _ (Below.refl _ _) rfl
    | 11, _ =>
      intro o ho a wc hk hb hd K hK
      cases ho
      have e0 := hd 10 (by simp [waitH1])
      simp only [leaveH1, slotH1, Nat.reduceAdd, Array.getD_eq_getD_getElem?] at e0
      obtain ⟨c0, c1, c2, c3, -⟩ := ent_cells (HK.out _ hb)
      go_simp
      exact hK _ _ (Below.refl _ _) rfl
    | 12, _ =>
      intro o ho a wc hk hb hd K hK
      cases ho
      have e0 := hd 11 (by simp [waitH1])
      simp only [leaveH1, slotH1, Nat.reduceAdd, Array.getD_eq_getD_getElem?] at e0
      go_simp
      exact hK _ _ (Below.refl _ _) rfl
    | 13, _ =>
      intro o ho a wc hk hb hd K hK
      cases ho
      have e0 := hd 12 (by simp [waitH1])
      simp only [leaveH1, slotH1, Nat.reduceAdd, Array.getD_eq_getD_getElem?] at e0
      have q : IntKind.u64.wrap (n : Int) = (n : Int) := IntWalk.u64_in _ (by omega)
      go_simp
      exact hK _ _ (Below.refl _ _) rfl
    | 14, _ =>
      intro o ho a wc hk hb hd K hK
      cases ho
      have e0 := hd 13 (by simp [waitH1])
      simp only [leaveH1, slotH1, Nat.reduceAdd, Array.getD_eq_getD_getElem?] at e0
      go_simp
      refine (Of_any n 1 wc (by omega) (by omega)).mono ?_
      rintro e w3 ⟨rfl, hw3⟩
      exact hK _ _ hw3 rfl
    | 15, _ =>
      intro o ho a wc hk hb hd K hK
      cases ho
      have e0 := hd 9 (by simp [waitH1])
      have e1 := hd 14 (by simp [waitH1])
      simp only [leaveH1, slotH1, Nat.reduceAdd, Array.getD_eq_getD_getElem?] at e0 e1
      have z1 : (str P2).size ≤ 15 := by rw [HL1.out.2.1]; omega
      have z2 : (str (be 1 n)).size ≤ 12 := by rw [str_size, be_length]; omega
      have zz : ¬ (9223372036854775807 < (str P2).size + (str (be 1 n)).size) := by omega
      go_simp
      first | (rw [if_neg zz, str_append P2 (be 1 n), HP3.out]; go_simp) | rw [str_append P2 (be 1 n), HP3.out]
      exact hK _ _ (Below.refl _ _) rfl
    | _ + 16, h => exact absurd h (by omega)
  · intro vals w1 hb hR
    have v0 := hR 0 (by omega)
    have v1 := hR 1 (by omega)
    have v2 := hR 2 (by omega)
    have v3 := hR 3 (by omega)
    have v4 := hR 4 (by omega)
    have v5 := hR 5 (by omega)
    have v6 := hR 6 (by omega)
    have v7 := hR 7 (by omega)
    have v8 := hR 8 (by omega)
    have v9 := hR 9 (by omega)
    have v10 := hR 10 (by omega)
    have v11 := hR 11 (by omega)
    have v12 := hR 12 (by omega)
    have v13 := hR 13 (by omega)
    have v14 := hR 14 (by omega)
    have v15 := hR 15 (by omega)
    simp only [leaveH1] at v0 v1 v2 v3 v4 v5 v6 v7 v8 v9 v10 v11 v12 v13 v14 v15
    clear hR
    simp only [putAll, slotH1, Nat.reduceAdd, List.setIfInBounds_toArray, List.set_cons_zero, List.set_cons_succ, List.drop_succ_cons, List.drop_zero, v0, v1, v2, v3, v4, v5, v6, v7, v8, v9, v10, v11, v12, v13, v14, v15]
    clear v0 v1 v2 v3 v4 v5 v6 v7 v8 v9 v10 v11 v12 v13 v14 v15
    have HB1 := Lib.hid (HB0.out.trans (hb.mono HB0.out.size))
    have KW := Lib.hid (HK.out _ hb)
    obtain ⟨k0, k1, k2, k3, -⟩ := ent_cells KW.out
    have z3 : (str P3).size ≤ 15 := by rw [HL1.out.2.2]; exact Nat.le_refl _
    have HST : Hid (str P3 ++ (⟨#[1]⟩ : ByteArray) = str (P3 ++ be 1 1) ∧ str P3 ++ (⟨#[0]⟩ : ByteArray) = str (P3 ++ be 1 0)) := ⟨str_append P3 (be 1 1), str_append P3 (be 1 0)⟩
    clear hb HK K0 HB0
    have HS0 : Hid (preB s x n true [] = P3 ++ be 1 1 ∧ preB s x n false [] = P3 ++ be 1 0) := ⟨by rw [preB, HP1.out, HP2.out, HP3.out]; simp [ensR, recs, finN], by rw [preB, HP1.out, HP2.out, HP3.out]; simp [ensR, recs, finN]⟩
    cases f
    all_goals
      go_wp2
      go_loopw [3, 4] (fun r i wr => ∃ (k : Nat) (S : List UInt8), k ≤ n ∧ i = .int .i64 k ∧ r = .string (str S) ∧ Hid (S = preB s x n _ (l.take k)) ∧ Hid (Bk wr w.heap.size 24 #[.int .i64 (s : Int), .int .i64 (x : Int), .bool _, .slice A n c]) ∧ Hid (Below w.heap.size w wr)) (fun _ i _ => n - (intOf i).toNat)
      case atStart => exact ⟨0, _, Nat.zero_le _, rfl, by first | rw [HST.out.1] | rw [HST.out.2], by first | exact HS0.out.1.symm | exact HS0.out.2.symm, KW.out, HB1.out⟩
      case round =>
        obtain ⟨k, S, hk, rfl, rfl, HSS, HKR, HB⟩ := hrel
        clear k0 k1 k2 k3 KW HB1
        obtain ⟨k0, k1, k2, k3, -⟩ := ent_cells HKR.out
        have HLS : Hid ((str S).size ≤ 124) := by
          show _ ≤ _
          rw [str_size, HSS.out, preB_len, List.length_take]
          omega
        by_cases hlt : k < n
        · obtain ⟨y, hy⟩ : ∃ y, l[k]? = some y := ⟨_, List.getElem?_eq_getElem (by have := HL.out; omega)⟩
          obtain ⟨b, o, rfl, hbB, hc⟩ := (HR.out.below (HB.out.mono hB)).plain (by rw [ensV_length]; have := HL.out; omega)
          obtain ⟨n0, n1, n2, n3⟩ := ensV_get l k y hy
          have c0 := hc _ _ n0
          have c1 := hc _ _ n1
          have c2 := hc _ _ n2
          have c3 := hc _ _ n3
          rw [← Nat.add_assoc] at c1 c2 c3
          obtain ⟨q1, q2, q3, q4, q5, q6⟩ := enOk_yes (HOK.out y (List.mem_of_getElem? hy))
          have q7 := HS.out y (List.mem_of_getElem? hy)
          obtain ⟨y1, y2, y3, y4⟩ := y
          simp only at c0 c1 c2 c3 q1 q2 q3 q4 q5 q6 q7
          obtain ⟨y1, rfl⟩ := Int.eq_ofNat_of_zero_le (show 0 ≤ y1 by omega)
          obtain ⟨y2, rfl⟩ := Int.eq_ofNat_of_zero_le (show 0 ≤ y2 by omega)
          obtain ⟨y3, rfl⟩ := Int.eq_ofNat_of_zero_le (show 0 ≤ y3 by omega)
          have HY := Lib.hid hy
          have KY := Lib.hid (Bk.new wr 60 #[.int .i64 (y1 : Int), .int .i64 (y2 : Int), .int .i64 (y3 : Int), .int .u32 (y4 : Int)])
          have HB3 := Lib.hid (HB.out.alloc HB.out.size (.cells #[.int .i64 (y1 : Int), .int .i64 (y2 : Int), .int .i64 (y3 : Int), .int .u32 (y4 : Int)] 60))
          have HKR := Lib.hid (HKR.out.alloc (.cells #[.int .i64 (y1 : Int), .int .i64 (y2 : Int), .int .i64 (y3 : Int), .int .u32 (y4 : Int)] 60))
          clear hc n0 n1 n2 n3 hy
          go_wp2_with fail
          obtain ⟨w5, hw5⟩ : ∃ w5, wr.alloc (.cells #[.int .i64 (y1 : Int), .int .i64 (y2 : Int), .int .i64 (y3 : Int), .int .u32 (y4 : Int)] 60) = w5 := ⟨_, rfl⟩
          rw [hw5] at KY HB3 HKR ⊢
          have HKY : Hid (∀ w', Below w5.heap.size w5 w' → Bk w' wr.heap.size 60 #[.int .i64 (y1 : Int), .int .i64 (y2 : Int), .int .i64 (y3 : Int), .int .u32 (y4 : Int)]) := fun w' hb => KY.out.below hb KY.out.lt
          obtain ⟨Q1, hQ1⟩ : ∃ Q, be 1 y1 ++ be 1 y2 = Q := ⟨_, rfl⟩
          obtain ⟨Q2, hQ2⟩ : ∃ Q, Q1 ++ be 2 y3 = Q := ⟨_, rfl⟩
          obtain ⟨Q3, hQ3⟩ : ∃ Q, Q2 ++ be 4 y4 = Q := ⟨_, rfl⟩
          obtain ⟨Q4, hQ4⟩ : ∃ Q, S ++ Q3 = Q := ⟨_, rfl⟩
          have HQ1 := Lib.hid hQ1
          have HQ2 := Lib.hid hQ2
          have HQ3 := Lib.hid hQ3
          have HQ4 := Lib.hid hQ4
          have HLQ : Hid ((str Q1).size = 2 ∧ (str Q2).size = 4 ∧ (str Q3).size = 8) := by
            rw [str_size, str_size, str_size, ← hQ3, ← hQ2, ← hQ1]
            simp [be_length, Hid]
          clear hw5 c0 c1 c2 c3 HB KY hQ1 hQ2 hQ3 hQ4
          refine wp_region_tail (by kernel_rfl) 21 63 slotH9 waitH9 (leaveH9 wr.heap.size S Q1 Q2 Q3 Q4 y1 y2 y3 y4) rfl
            (by kernel_rfl) (fun i v w w' _ _ h => by unfold leaveH9 at *; split at h <;> exact h) ?_ ?_
          · intro i hi
            match i, hi with
            | 0, _ =>
              intro o ho a wc hk hb hd K hK
              cases ho
              have e0 := hk.rest 3 (.string (str S)) (by omega) (by kernel_rfl) rfl
              rw [Array.getD_eq_getD_getElem?] at e0
              go_simp
              exact hK _ _ (Below.refl _ _) rfl
            | 1, _ =>
              intro o ho a wc hk hb hd K hK
              cases ho
              have e0 := hk.rest 5 (.pointer (some ⟨wr.heap.size, 0, none⟩)) (by omega) (by kernel_rfl) rfl
              rw [Array.getD_eq_getD_getElem?] at e0
              go_simp
              exact hK _ _ (Below.refl _ _) rfl
            | 2, _ =>
              intro o ho a wc hk hb hd K hK
              cases ho
              have e0 := hd 1 (by simp [waitH9])
              simp only [leaveH9, slotH9, Nat.reduceAdd, Array.getD_eq_getD_getElem?] at e0
              obtain ⟨c0, c1, c2, c3, -⟩ := ent_cells (HKY.out _ hb)
              go_simp
              exact hK _ _ (Below.refl _ _) rfl
            | 3, _ =>
              intro o ho a wc hk hb hd K hK
              cases ho
              have e0 := hd 2 (by simp [waitH9])
              simp only [leaveH9, slotH9, Nat.reduceAdd, Array.getD_eq_getD_getElem?] at e0
              have q : IntKind.u64.wrap (y1 : Int) = (y1 : Int) := IntWalk.u64_in _ (by omega)
              go_simp
              exact hK _ _ (Below.refl _ _) rfl
            | 4, _ =>
              intro o ho a wc hk hb hd K hK
              cases ho
              have e0 := hd 3 (by simp [waitH9])
              simp only [leaveH9, slotH9, Nat.reduceAdd, Array.getD_eq_getD_getElem?] at e0
              go_simp
              refine (Of_any y1 1 wc (by omega) (by omega)).mono ?_
              rintro e w3 ⟨rfl, hw3⟩
              exact hK _ _ hw3 rfl
            | 5, _ =>
              intro o ho a wc hk hb hd K hK
              cases ho
              have e0 := hk.rest 5 (.pointer (some ⟨wr.heap.size, 0, none⟩)) (by omega) (by kernel_rfl) rfl
              rw [Array.getD_eq_getD_getElem?] at e0
              go_simp
              exact hK _ _ (Below.refl _ _) rfl
            | 6, _ =>
              intro o ho a wc hk hb hd K hK
              cases ho
              have e0 := hd 5 (by simp [waitH9])
              simp only [leaveH9, slotH9, Nat.reduceAdd, Array.getD_eq_getD_getElem?] at e0
              obtain ⟨c0, c1, c2, c3, -⟩ := ent_cells (HKY.out _ hb)
              go_simp
              exact hK _ _ (Below.refl _ _) rfl
            | 7, _ =>
              intro o ho a wc hk hb hd K hK
              cases ho
              have e0 := hd 6 (by simp [waitH9])
              simp only [leaveH9, slotH9, Nat.reduceAdd, Array.getD_eq_getD_getElem?] at e0
              have q : IntKind.u64.wrap (y2 : Int) = (y2 : Int) := IntWalk.u64_in _ (by omega)
              go_simp
              exact hK _ _ (Below.refl _ _) rfl
            | 8, _ =>
              intro o ho a wc hk hb hd K hK
              cases ho
              have e0 := hd 7 (by simp [waitH9])
              simp only [leaveH9, slotH9, Nat.reduceAdd, Array.getD_eq_getD_getElem?] at e0
              go_simp
              refine (Of_any y2 1 wc (by omega) (by omega)).mono ?_
              rintro e w3 ⟨rfl, hw3⟩
              exact hK _ _ hw3 rfl
            | 9, _ =>
              intro o ho a wc hk hb hd K hK
              cases ho
              have e0 := hd 4 (by simp [waitH9])
              have e1 := hd 8 (by simp [waitH9])
              simp only [leaveH9, slotH9, Nat.reduceAdd, Array.getD_eq_getD_getElem?] at e0 e1
              have z1 : (str (be 1 y1)).size ≤ 12 := by rw [str_size, be_length]; omega
              have z2 : (str (be 1 y2)).size ≤ 12 := by rw [str_size, be_length]; omega
              have zz : ¬ (9223372036854775807 < (str (be 1 y1)).size + (str (be 1 y2)).size) := by omega
              go_simp
              first | (rw [if_neg zz, str_append (be 1 y1) (be 1 y2), HQ1.out]; go_simp) | rw [str_append (be 1 y1) (be 1 y2), HQ1.out]
              exact hK _ _ (Below.refl _ _) rfl
            | 10, _ =>
              intro o ho a wc hk hb hd K hK
              cases ho
              have e0 := hk.rest 5 (.pointer (some ⟨wr.heap.size, 0, none⟩)) (by omega) (by kernel_rfl) rfl
              rw [Array.getD_eq_getD_getElem?] at e0
              go_simp
              exact hK _ _ (Below.refl _ _) rfl
            | 11, _ =>
              intro o ho a wc hk hb hd K hK
              cases ho
              have e0 := hd 10 (by simp [waitH9])
              simp only [leaveH9, slotH9, Nat.reduceAdd, Array.getD_eq_getD_getElem?] at e0
              obtain ⟨c0, c1, c2, c3, -⟩ := ent_cells (HKY.out _ hb)
              go_simp
              exact hK _ _ (Below.refl _ _) rfl
            | 12, _ =>
              intro o ho a wc hk hb hd K hK
              cases ho
              have e0 := hd 11 (by simp [waitH9])
              simp only [leaveH9, slotH9, Nat.reduceAdd, Array.getD_eq_getD_getElem?] at e0
              have q : IntKind.u64.wrap (y3 : Int) = (y3 : Int) := IntWalk.u64_in _ (by omega)
              go_simp
              exact hK _ _ (Below.refl _ _) rfl
            | 13, _ =>
              intro o ho a wc hk hb hd K hK
              cases ho
              have e0 := hd 12 (by simp [waitH9])
              simp only [leaveH9, slotH9, Nat.reduceAdd, Array.getD_eq_getD_getElem?] at e0
              go_simp
              refine (Of_any y3 2 wc (by omega) (by omega)).mono ?_
              rintro e w3 ⟨rfl, hw3⟩
              exact hK _ _ hw3 rfl
            | 14, _ =>
              intro o ho a wc hk hb hd K hK
              cases ho
              have e0 := hd 9 (by simp [waitH9])
              have e1 := hd 13 (by simp [waitH9])
              simp only [leaveH9, slotH9, Nat.reduceAdd, Array.getD_eq_getD_getElem?] at e0 e1
              have z1 : (str Q1).size ≤ 12 := by rw [HLQ.out.1]; omega
              have z2 : (str (be 2 y3)).size ≤ 12 := by rw [str_size, be_length]; omega
              have zz : ¬ (9223372036854775807 < (str Q1).size + (str (be 2 y3)).size) := by omega
              go_simp
              first | (rw [if_neg zz, str_append Q1 (be 2 y3), HQ2.out]; go_simp) | rw [str_append Q1 (be 2 y3), HQ2.out]
              exact hK _ _ (Below.refl _ _) rfl
            | 15, _ =>
              intro o ho a wc hk hb hd K hK
              cases ho
              have e0 := hk.rest 5 (.pointer (some ⟨wr.heap.size, 0, none⟩)) (by omega) (by kernel_rfl) rfl
              rw [Array.getD_eq_getD_getElem?] at e0
              go_simp
              exact hK _ _ (Below.refl _ _) rfl
            | 16, _ =>
              intro o ho a wc hk hb hd K hK
              cases ho
              have e0 := hd 15 (by simp [waitH9])
              simp only [leaveH9, slotH9, Nat.reduceAdd, Array.getD_eq_getD_getElem?] at e0
              obtain ⟨c0, c1, c2, c3, -⟩ := ent_cells (HKY.out _ hb)
              go_simp
              exact hK _ _ (Below.refl _ _) rfl
            | 17, _ =>
              intro o ho a wc hk hb hd K hK
              cases ho
              have e0 := hd 16 (by simp [waitH9])
              simp only [leaveH9, slotH9, Nat.reduceAdd, Array.getD_eq_getD_getElem?] at e0
              have q : IntKind.u64.wrap (y4 : Int) = (y4 : Int) := IntWalk.u64_in _ (by omega)
              go_simp
              exact hK _ _ (Below.refl _ _) rfl
            | 18, _ =>
              intro o ho a wc hk hb hd K hK
              cases ho
              have e0 := hd 17 (by simp [waitH9])
              simp only [leaveH9, slotH9, Nat.reduceAdd, Array.getD_eq_getD_getElem?] at e0
              go_simp
              refine (Of_any y4 4 wc (by omega) (by omega)).mono ?_
              rintro e w3 ⟨rfl, hw3⟩
              exact hK _ _ hw3 rfl
            | 19, _ =>
              intro o ho a wc hk hb hd K hK
              cases ho
              have e0 := hd 14 (by simp [waitH9])
              have e1 := hd 18 (by simp [waitH9])
              simp only [leaveH9, slotH9, Nat.reduceAdd, Array.getD_eq_getD_getElem?] at e0 e1
              have z1 : (str Q2).size ≤ 12 := by rw [HLQ.out.2.1]; omega
              have z2 : (str (be 4 y4)).size ≤ 12 := by rw [str_size, be_length]; omega
              have zz : ¬ (9223372036854775807 < (str Q2).size + (str (be 4 y4)).size) := by omega
              go_simp
              first | (rw [if_neg zz, str_append Q2 (be 4 y4), HQ3.out]; go_simp) | rw [str_append Q2 (be 4 y4), HQ3.out]
              exact hK _ _ (Below.refl _ _) rfl
            | 20, _ =>
              intro o ho a wc hk hb hd K hK
              cases ho
              have e0 := hd 0 (by simp [waitH9])
              have e1 := hd 19 (by simp [waitH9])
              simp only [leaveH9, slotH9, Nat.reduceAdd, Array.getD_eq_getD_getElem?] at e0 e1
              have z1 : (str S).size ≤ 124 := HLS.out
              have z2 : (str Q3).size ≤ 12 := by rw [HLQ.out.2.2]; omega
              have zz : ¬ (9223372036854775807 < (str S).size + (str Q3).size) := by omega
              go_simp
              first | (rw [if_neg zz, str_append S Q3, HQ4.out]; go_simp) | rw [str_append S Q3, HQ4.out]
              exact hK _ _ (Below.refl _ _) rfl
            | _ + 21, h => exact absurd h (by omega)
          · intro vals w6 hb hR
            have v0 := hR 0 (by omega)
            have v1 := hR 1 (by omega)
            have v2 := hR 2 (by omega)
            have v3 := hR 3 (by omega)
            have v4 := hR 4 (by omega)
            have v5 := hR 5 (by omega)
            have v6 := hR 6 (by omega)
            have v7 := hR 7 (by omega)
            have v8 := hR 8 (by omega)
            have v9 := hR 9 (by omega)
            have v10 := hR 10 (by omega)
            have v11 := hR 11 (by omega)
            have v12 := hR 12 (by omega)
            have v13 := hR 13 (by omega)
            have v14 := hR 14 (by omega)
            have v15 := hR 15 (by omega)
            have v16 := hR 16 (by omega)
            have v17 := hR 17 (by omega)
            have v18 := hR 18 (by omega)
            have v19 := hR 19 (by omega)
            have v20 := hR 20 (by omega)
            simp only [leaveH9] at v0 v1 v2 v3 v4 v5 v6 v7 v8 v9 v10 v11 v12 v13 v14 v15 v16 v17 v18 v19 v20
            clear hR
            simp only [putAll, slotH9, Nat.reduceAdd, List.setIfInBounds_toArray, List.set_cons_zero, List.set_cons_succ, List.drop_succ_cons, List.drop_zero, v0, v1, v2, v3, v4, v5, v6, v7, v8, v9, v10, v11, v12, v13, v14, v15, v16, v17, v18, v19, v20]
            clear v0 v1 v2 v3 v4 v5 v6 v7 v8 v9 v10 v11 v12 v13 v14 v15 v16 v17 v18 v19 v20
            have HB6 := Lib.hid (HB3.out.trans (hb.mono HB3.out.size))
            have HKR6 := Lib.hid (HKR.out.below hb HKR.out.lt)
            clear hb HKY
            go_wp2
            go_roundw
            case rel => exact ⟨k + 1, Q4, by omega, by go_num, rfl, by show _ = _; rw [preB_snoc s x n _ l k y1 y2 y3 y4 HY.out, ← HSS.out, HQ1.out, HQ2.out, HQ3.out, HQ4.out], HKR6.out, HB6.out⟩
            case measure => simp [intOf]; omega
        · obtain rfl : k = n := by omega
          have HTK : Hid (l.take k = l) := List.take_of_length_le (by have := HL.out; omega)
          have HSL : Hid (S.length ≤ 124) := by show _ ≤ _; have h := HLS.out; rw [str_size] at h; exact h
          go_wp2_with fail
          refine (refSeal_any S wr HSL.out).mono ?_
          rintro e w7 ⟨rfl, hb7⟩
          have HB7 := Lib.hid (HB.out.trans (hb7.mono HB.out.size))
          clear hb7
          go_wp2
          go_ret
          exact ⟨ret_str (by rw [HSS.out, HTK.out, ← preB_all, HL.out]), HB7.out⟩
end Go.Proofs.YtjibjojnkieliaaDoor
