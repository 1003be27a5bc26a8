/-
  What the document's answers Pointer, May, pointer, Encode, Node of layer 7 are. (Printed by wip/tools/ref07.py.)
-/
import Derived.Test.YtjhnabhieihifaaDoorIno1
import Derived.Test.YtjhnabhieihifaaDoorRef01
import Derived.Test.YtjhnabhieihifaaDoorCrcLaw
import Derived.Test.YtjhnabhieihifaaDoorRegTail
import Derived.BigQuiet
import Derived.BigRegion
namespace Go.Proofs.YtjhnabhieihifaaDoor
open Go.RowKit
set_option maxRecDepth 100000
set_option linter.unusedVariables false

theorem ret_strI {a b : List UInt8} (h : a = b) : Ending.returned (.string (str a)) = .returned (.string (str b)) := by rw [h]

set_option maxHeartbeats 1000000 in
theorem refPointer_any (q : Pr) (t : Bool) (w : World) (ht : prOk q = t) :
    Calls Tryd.prog 20 #[.agg #[.int .i64 q.at_, .int .u32 (q.sum : Int)]] w fun e w' => e = .returned (.bool t) ∧ Below w.heap.size w w' := by
  have K0 := Bk.new w 24 #[.int .i64 q.at_, .int .u32 (q.sum : Int)]
  obtain ⟨k0, k1, -⟩ := ino_cells2 K0
  have HB0 := Lib.hid ((Below.refl w.heap.size w).alloc (Nat.le_refl _) (.cells #[.int .i64 q.at_, .int .u32 (q.sum : Int)] 24))
  obtain ⟨x, s⟩ := q
  simp only at k0 k1 HB0 ⊢
  clear K0
  cases h : prOk ⟨x, s⟩ with
  | true =>
    obtain rfl : true = t := h.symm.trans ht
    obtain ⟨q1, q2, q3⟩ := prOk_yes h
    simp only at q1 q2 q3
    by_cases hz : x = 0
    · obtain rfl := q3 hz
      subst hz
      clear h ht q3
      go_enter Tryd.func20, Tryd.ntmps20
      go_wp2
      go_ret
      exact ⟨rfl, HB0.out⟩
    · have hp : 0 < x := by omega
      clear h ht q3 hz q1
      go_enter Tryd.func20, Tryd.ntmps20
      have q1 : 0 ≤ x := by omega
      go_wp2
      go_ret
      exact ⟨rfl, HB0.out⟩
  | false =>
    obtain rfl : false = t := h.symm.trans ht
    have hbad := prOk_no h
    simp only at hbad
    clear h ht
    rcases hbad with q1 | ⟨q1, q2⟩ | ⟨rfl, q2⟩
    · go_enter Tryd.func20, Tryd.ntmps20
      go_wp2
      go_ret
      exact ⟨rfl, HB0.out⟩
    · go_enter Tryd.func20, Tryd.ntmps20
      go_wp2
      go_ret
      exact ⟨rfl, HB0.out⟩
    · have hz' : ((s : Int) == 0) = false := by simp [q2]
      clear q2
      go_enter Tryd.func20, Tryd.ntmps20
      go_wp2
      go_ret
      exact ⟨rfl, HB0.out⟩

theorem headI_bad {a b c d e : Int} {p : List Pr} (h : headIOk ⟨a, b, c, d, e, p⟩ = false) : ((a == 1) = false ∧ (a == 2) = false) ∨ ((a = 1 ∨ a = 2) ∧ ((b < 0) ∨ (0 ≤ b ∧ 200 < b) ∨ (0 ≤ b ∧ b ≤ 200 ∧ c < 0) ∨ (0 ≤ b ∧ b ≤ 200 ∧ 0 ≤ c ∧ 2147483647 < c)
    ∨ (0 ≤ b ∧ b ≤ 200 ∧ 0 ≤ c ∧ c ≤ 2147483647 ∧ d < 0) ∨ (0 ≤ b ∧ b ≤ 200 ∧ 0 ≤ c ∧ c ≤ 2147483647 ∧ 0 ≤ d ∧ 1099511627776 < d) ∨ (0 ≤ b ∧ b ≤ 200 ∧ 0 ≤ c ∧ c ≤ 2147483647 ∧ 0 ≤ d ∧ d ≤ 1099511627776 ∧ e < 0) ∨ (0 ≤ b ∧ b ≤ 200 ∧ 0 ≤ c ∧ c ≤ 2147483647 ∧ 0 ≤ d ∧ d ≤ 1099511627776 ∧ 0 ≤ e ∧ 2147483647 < e))) := by
  have h' : ¬ (1 ≤ a ∧ a ≤ 2 ∧ 0 ≤ b ∧ b ≤ 200 ∧ 0 ≤ c ∧ c ≤ 2147483647 ∧ 0 ≤ d ∧ d ≤ 1099511627776 ∧ 0 ≤ e ∧ e ≤ 2147483647) := by simpa only [headIOk, decide_eq_false_iff_not] using h
  simp only [beq_eq_false_iff_ne, ne_eq]
  omega

set_option maxHeartbeats 4000000 in
theorem refMayI_any (x : Ino) (t : Bool) (w : World) (hp : x.p.length = 9) (ht : inoOk x = t) :
    Calls Tryd.prog 10 #[.agg (inoC x)] w fun e w' => e = .returned (.bool t) ∧ Below w.heap.size w w' := by
  have K0 := Lib.hid (Bk.new w 27 (inoC x))
  have HB0 := Lib.hid ((Below.refl w.heap.size w).alloc (Nat.le_refl _) (.cells (inoC x) 27))
  have HP := Lib.hid hp
  have HT := Lib.hid ht
  clear hp ht
  go_enter Tryd.func10, Tryd.ntmps10
  go_wp2
  go_loopw [3] (fun i wr => ∃ k : Nat, k ≤ 9 ∧ i = .int .i64 k ∧ Hid (∀ j y, j < k → x.p[j]? = some y → prOk y = true) ∧ Hid (Bk wr w.heap.size 27 (inoC x)) ∧ Hid (Below w.heap.size w wr)) (fun i _ => 9 - (intOf i).toNat)
  case atStart => exact ⟨0, Nat.zero_le _, rfl, fun j p h => absurd h (by omega), K0.out, HB0.out⟩
  case round =>
    obtain ⟨k, hk, rfl, HALL, HK, HB⟩ := hrel
    clear K0 HB0
    by_cases hlt : k < 9
    · obtain ⟨y, hy⟩ : ∃ y, x.p[k]? = some y := ⟨_, List.getElem?_eq_getElem (by have := HP.out; omega)⟩
      obtain ⟨n0, n1⟩ := prsV_get x.p k y hy
      have hc := ino_prs HK.out
      have c0 : wr.cell? ⟨w.heap.size, 5 + k * 2, none⟩ = some (.int .i64 y.at_) := by obtain ⟨ad, e, _, hc⟩ := hc _ _ n0; cases e; rwa [add_plain] at hc
      have c1 : wr.cell? ⟨w.heap.size, 5 + k * 2 + 1, none⟩ = some (.int .u32 (y.sum : Int)) := by obtain ⟨ad, e, _, hc⟩ := hc _ _ n1; cases e; rwa [add_plain, ← Nat.add_assoc] at hc
      have HY := Lib.hid hy
      clear hc n0 n1 hy
      go_wp2_with fail
      cases hok : prOk y with
      | true =>
        have HOK := Lib.hid hok
        refine (refPointer_any y true _ hok).mono ?_
        rintro e w1 ⟨rfl, hb1⟩
        have HK1 := Lib.hid (HK.out.below hb1 HK.out.lt)
        have HB1 := Lib.hid (HB.out.trans (hb1.mono HB.out.size))
        clear hok hb1 c0 c1 HK HB
        go_wp2
        go_roundw
        case rel =>
          refine ⟨k + 1, by omega, by go_num, fun j z hj hz => ?_, HK1.out, HB1.out⟩
          by_cases e : j = k
          · subst e; rw [HY.out] at hz; cases hz; exact HOK.out
          · exact HALL.out j z (by omega) hz
        case measure => simp [intOf]; omega
      | false =>
        have HF : Hid (t = false) := by
          show _ = _
          rw [← HT.out, inoOk, all_at HY.out hok, Bool.and_false]
        refine (refPointer_any y false _ hok).mono ?_
        rintro e w1 ⟨rfl, hb1⟩
        have HB1 := Lib.hid (HB.out.trans (hb1.mono HB.out.size))
        clear hok hb1 c0 c1 HK HB
        go_wp2
        go_ret
        exact ⟨ret_bool HF.out.symm, HB1.out⟩
    · have hall : x.p.all prOk = true := all_of fun j z hz => HALL.out j z (by have := (List.getElem?_eq_some_iff.1 hz).1; have := HP.out; omega) hz
      have HF : Hid (headIOk x = t) := by
        show _ = _
        rw [← HT.out, inoOk, hall, Bool.and_true]
      obtain ⟨c0, c1, c2, c3, c4⟩ := ino_cells HK.out
      obtain ⟨a1, a2, a3, a4, a5, p⟩ := x
      simp only at c0 c1 c2 c3 c4
      clear HALL hall HT
      cases hh : headIOk ⟨a1, a2, a3, a4, a5, p⟩ with
      | true =>
        have HE : Hid (t = true) := HF.out.symm.trans hh
        obtain ⟨q1, q2, q3, q4, q5, q6, q7, q8, q9, q10⟩ := headIOk_yes hh
        simp only at q1 q2 q3 q4 q5 q6 q7 q8 q9 q10
        clear hh HF
        rcases (show a1 = 1 ∨ a1 = 2 by omega) with rfl | rfl
        all_goals
          clear q1 q2
          go_wp2
          go_ret
          first | exact ⟨ret_bool HE.out.symm, HB.out⟩ | exact ⟨ret_bool ((decide_eq_true (by omega)).trans HE.out.symm), HB.out⟩
      | false =>
        have HE : Hid (t = false) := HF.out.symm.trans hh
        have hb := headI_bad hh
        clear hh HF
        rcases hb with ⟨q1, q2⟩ | ⟨rfl | rfl, hb⟩
        · go_wp2
          go_ret
          exact ⟨ret_bool HE.out.symm, HB.out⟩
        all_goals
          rcases hb with r1 | ⟨r1, r2⟩ | ⟨r1, r2, r3⟩ | ⟨r1, r2, r3, r4⟩ | ⟨r1, r2, r3, r4, r5⟩ | ⟨r1, r2, r3, r4, r5, r6⟩ | ⟨r1, r2, r3, r4, r5, r6, r7⟩ | ⟨r1, r2, r3, r4, r5, r6, r7, r8⟩
          all_goals
            go_wp2
            go_ret
            first | exact ⟨ret_bool HE.out.symm, HB.out⟩ | exact ⟨ret_bool ((decide_eq_false (by omega)).trans HE.out.symm), HB.out⟩

def slotJ1 (i : Nat) : Nat := 3 + i
def waitJ1 : Nat → List Nat
  | 1 => [0]
  | 2 => [1]
  | 3 => [2]
  | 5 => [4]
  | 6 => [5]
  | 7 => [6]
  | 8 => [3, 7]
  | 9 => [8]
  | _ => []
def leaveJ1 (g d s : Nat) (Q : List UInt8) : Nat → Value → World → Prop
  | 0, v, _ => v = .pointer (some ⟨g, 0, none⟩)
  | 1, v, _ => v = .int .i64 (d : Int)
  | 2, v, _ => v = .int .u64 (d : Int)
  | 3, v, _ => v = .string (str (be 4 d))
  | 4, v, _ => v = .pointer (some ⟨g, 1, none⟩)
  | 5, v, _ => v = .int .u32 (s : Int)
  | 6, v, _ => v = .int .u64 (s : Int)
  | 7, v, _ => v = .string (str (be 4 s))
  | 8, v, _ => v = .string (str Q)
  | _, _, _ => True

set_option maxHeartbeats 2000000 in
theorem refOct_any (q : Pr) (w : World) (h0 : 0 ≤ q.at_) (h1 : q.at_ ≤ 4294967295) (h2 : q.sum < 4294967296) :
    Calls Tryd.prog 36 #[.agg #[.int .i64 q.at_, .int .u32 (q.sum : Int)]] w fun e w' => e = .returned (.string (str (recs (prR q)))) ∧ Below w.heap.size w w' := by
  obtain ⟨d, s⟩ := q
  simp only at h0 h1 h2 ⊢
  obtain ⟨d, rfl⟩ := Int.eq_ofNat_of_zero_le h0
  have K0 := Bk.new w 24 #[.int .i64 (d : Int), .int .u32 (s : Int)]
  have HB0 := Lib.hid ((Below.refl w.heap.size w).alloc (Nat.le_refl _) (.cells #[.int .i64 (d : Int), .int .u32 (s : Int)] 24))
  obtain ⟨w0, hw0⟩ : ∃ w0, w.alloc (.cells #[.int .i64 (d : Int), .int .u32 (s : Int)] 24) = w0 := ⟨_, rfl⟩
  obtain ⟨Q, hQ⟩ : ∃ P, be 4 d ++ be 4 s = P := ⟨_, rfl⟩
  have HQ1 := Lib.hid hQ
  rw [hw0] at K0 HB0
  have HW0 := Lib.hid hw0
  have HK : Hid (∀ w', Below w0.heap.size w0 w' → Bk w' w.heap.size 24 #[.int .i64 (d : Int), .int .u32 (s : Int)]) := fun w' hb => K0.below hb K0.lt
  have HE : Hid (recs (prR ⟨(d : Int), s⟩) = Q) := by show _ = _; rw [← hQ]; simp [recs, prR]
  clear hQ hw0 h0 K0
  go_enter Tryd.func36, Tryd.ntmps36
  go_wp2_with fail
  rw [HW0.out]
  refine wp_region_tail (by kernel_rfl) 9 12 slotJ1 waitJ1 (leaveJ1 w.heap.size d s Q) rfl
    (by kernel_rfl) (fun i v w w' _ _ h => by unfold leaveJ1 at *; split at h <;> exact h) ?_ ?_
  · intro i hi
    match i, hi with
    | 0, _ =>
      intro o ho a wc hk hb hd K hK
      cases ho
      have e0 := hk.rest 1 (.pointer (some ⟨w.heap.size, 0, none⟩)) (by omega) (by kernel_rfl) rfl
      rw [Array.getD_eq_getD_getElem?] at e0
      go_simp
      exact hK _ _ (Below.refl _ _) rfl
    | 1, _ =>
      intro o ho a wc hk hb hd K hK
      cases ho
      have e0 := hd 0 (by simp [waitJ1])
      simp only [leaveJ1, slotJ1, Nat.reduceAdd, Array.getD_eq_getD_getElem?] at e0
      obtain ⟨c0, c1, -⟩ := ino_cells2 (HK.out _ hb)
      go_simp
      exact hK _ _ (Below.refl _ _) rfl
    | 2, _ =>
      intro o ho a wc hk hb hd K hK
      cases ho
      have e0 := hd 1 (by simp [waitJ1])
      simp only [leaveJ1, slotJ1, Nat.reduceAdd, Array.getD_eq_getD_getElem?] at e0
      have q : IntKind.u64.wrap (d : Int) = (d : Int) := IntWalk.u64_in _ (by omega)
      go_simp
      exact hK _ _ (Below.refl _ _) rfl
    | 3, _ =>
      intro o ho a wc hk hb hd K hK
      cases ho
      have e0 := hd 2 (by simp [waitJ1])
      simp only [leaveJ1, slotJ1, Nat.reduceAdd, Array.getD_eq_getD_getElem?] at e0
      go_simp
      refine (Of_any d 4 wc (by omega) (by omega)).mono ?_
      rintro e w3 ⟨rfl, hw3⟩
      exact hK _ _ hw3 rfl
    | 4, _ =>
      intro o ho a wc hk hb hd K hK
      cases ho
      have e0 := hk.rest 1 (.pointer (some ⟨w.heap.size, 0, none⟩)) (by omega) (by kernel_rfl) rfl
      rw [Array.getD_eq_getD_getElem?] at e0
      go_simp
      exact hK _ _ (Below.refl _ _) rfl
    | 5, _ =>
      intro o ho a wc hk hb hd K hK
      cases ho
      have e0 := hd 4 (by simp [waitJ1])
      simp only [leaveJ1, slotJ1, Nat.reduceAdd, Array.getD_eq_getD_getElem?] at e0
      obtain ⟨c0, c1, -⟩ := ino_cells2 (HK.out _ hb)
      go_simp
      exact hK _ _ (Below.refl _ _) rfl
    | 6, _ =>
      intro o ho a wc hk hb hd K hK
      cases ho
      have e0 := hd 5 (by simp [waitJ1])
      simp only [leaveJ1, slotJ1, Nat.reduceAdd, Array.getD_eq_getD_getElem?] at e0
      go_simp
      go_bits
      exact hK _ _ (Below.refl _ _) rfl
    | 7, _ =>
      intro o ho a wc hk hb hd K hK
      cases ho
      have e0 := hd 6 (by simp [waitJ1])
      simp only [leaveJ1, slotJ1, Nat.reduceAdd, Array.getD_eq_getD_getElem?] at e0
      go_simp
      refine (Of_any s 4 wc (by omega) (by omega)).mono ?_
      rintro e w3 ⟨rfl, hw3⟩
      exact hK _ _ hw3 rfl
    | 8, _ =>
      intro o ho a wc hk hb hd K hK
      cases ho
      have e0 := hd 3 (by simp [waitJ1])
      have e1 := hd 7 (by simp [waitJ1])
      simp only [leaveJ1, slotJ1, Nat.reduceAdd, Array.getD_eq_getD_getElem?] at e0 e1
      have z1 : (str (be 4 d)).size ≤ 12 := by rw [str_size, be_length]; omega
      have z2 : (str (be 4 s)).size ≤ 12 := by rw [str_size, be_length]; omega
      have zz : ¬ (9223372036854775807 < (str (be 4 d)).size + (str (be 4 s)).size) := by omega
      go_simp
      first | (rw [if_neg zz, str_append (be 4 d) (be 4 s), HQ1.out]; go_simp) | rw [str_append (be 4 d) (be 4 s), HQ1.out]
      exact hK _ _ (Below.refl _ _) rfl
    | _ + 9, h => exact absurd h (by omega)
  · intro vals w2 hb hR
    have v0 := hR 0 (by omega)
    have v1 := hR 1 (by omega)
    have v2 := hR 2 (by omega)
    have v3 := hR 3 (by omega)
    have v4 := hR 4 (by omega)
    have v5 := hR 5 (by omega)
    have v6 := hR 6 (by omega)
    have v7 := hR 7 (by omega)
    have v8 := hR 8 (by omega)
    simp only [leaveJ1] at v0 v1 v2 v3 v4 v5 v6 v7 v8
    clear hR
    simp only [putAll, slotJ1, Nat.reduceAdd, List.setIfInBounds_toArray, List.set_cons_zero, List.set_cons_succ, List.drop_succ_cons, List.drop_zero, v0, v1, v2, v3, v4, v5, v6, v7, v8]
    clear v0 v1 v2 v3 v4 v5 v6 v7 v8
    go_wp2
    go_ret
    exact ⟨by rw [HE.out]; rfl, HB0.out.trans (hb.mono HB0.out.size)⟩

def bI : List UInt8 := [105, 110, 111, 100]
theorem bI_eq : be 4 1768845156 = bI := by decide
def slotJ2 (i : Nat) : Nat := 7 + i
def waitJ2 : Nat → List Nat
  | 1 => [0]
  | 2 => [1]
  | 3 => [2]
  | 5 => [4]
  | 6 => [5]
  | 7 => [6]
  | 8 => [3, 7]
  | 10 => [9]
  | 11 => [10]
  | 12 => [11]
  | 13 => [8, 12]
  | 15 => [14]
  | 16 => [15]
  | 17 => [16]
  | 18 => [13, 17]
  | 20 => [19]
  | 21 => [20]
  | 22 => [21]
  | 23 => [18, 22]
  | 25 => [24]
  | 26 => [25]
  | 27 => [26]
  | 28 => [23, 27]
  | 29 => [28]
  | _ => []
def leaveJ2 (g m a1 a2 a3 a4 a5 : Nat) (Q0 Q1 Q2 Q3 Q4 Q5 : List UInt8) : Nat → Value → World → Prop
  | 0, v, _ => v = .int .i64 (m : Int)
  | 1, v, _ => v = .int .u64 (m : Int)
  | 2, v, _ => v = .string (str (be 1 m))
  | 3, v, _ => v = .string (str Q0)
  | 4, v, _ => v = .pointer (some ⟨g, 0, none⟩)
  | 5, v, _ => v = .int .i64 (a1 : Int)
  | 6, v, _ => v = .int .u64 (a1 : Int)
  | 7, v, _ => v = .string (str (be 1 a1))
  | 8, v, _ => v = .string (str Q1)
  | 9, v, _ => v = .pointer (some ⟨g, 1, none⟩)
  | 10, v, _ => v = .int .i64 (a2 : Int)
  | 11, v, _ => v = .int .u64 (a2 : Int)
  | 12, v, _ => v = .string (str (be 1 a2))
  | 13, v, _ => v = .string (str Q2)
  | 14, v, _ => v = .pointer (some ⟨g, 2, none⟩)
  | 15, v, _ => v = .int .i64 (a3 : Int)
  | 16, v, _ => v = .int .u64 (a3 : Int)
  | 17, v, _ => v = .string (str (be 4 a3))
  | 18, v, _ => v = .string (str Q3)
  | 19, v, _ => v = .pointer (some ⟨g, 3, none⟩)
  | 20, v, _ => v = .int .i64 (a4 : Int)
  | 21, v, _ => v = .int .u64 (a4 : Int)
  | 22, v, _ => v = .string (str (be 6 a4))
  | 23, v, _ => v = .string (str Q4)
  | 24, v, _ => v = .pointer (some ⟨g, 4, none⟩)
  | 25, v, _ => v = .int .i64 (a5 : Int)
  | 26, v, _ => v = .int .u64 (a5 : Int)
  | 27, v, _ => v = .string (str (be 4 a5))
  | 28, v, _ => v = .string (str Q5)
  | _, _, _ => True

set_option maxHeartbeats 4000000 in
theorem refEncodeI_nat (m a1 a2 a3 a4 a5 : Nat) (p : List Pr) (w : World) (hp : p.length = 9) (h0 : m < 256) (h1 : a1 < 256) (h2 : a2 < 256) (h3 : a3 < 4294967296) (h4 : a4 < 281474976710656) (h5 : a5 < 4294967296) (hok : ∀ q ∈ p, prOk q = true) (hs : prSums p) :
    Calls Tryd.prog 13 #[.int .i64 (m : Int), .agg (inoC ⟨(a1 : Int), (a2 : Int), (a3 : Int), (a4 : Int), (a5 : Int), p⟩)] w fun e w' => e = .returned (.string (str (inoB m ⟨(a1 : Int), (a2 : Int), (a3 : Int), (a4 : Int), (a5 : Int), p⟩))) ∧ Below w.heap.size w w' := by
  have K0 := Bk.new w 27 (inoC ⟨(a1 : Int), (a2 : Int), (a3 : Int), (a4 : Int), (a5 : Int), p⟩)
  have HB0 := Lib.hid ((Below.refl w.heap.size w).alloc (Nat.le_refl _) (.cells (inoC ⟨(a1 : Int), (a2 : Int), (a3 : Int), (a4 : Int), (a5 : Int), p⟩) 27))
  obtain ⟨w0, hw0⟩ : ∃ w0, w.alloc (.cells (inoC ⟨(a1 : Int), (a2 : Int), (a3 : Int), (a4 : Int), (a5 : Int), p⟩) 27) = w0 := ⟨_, rfl⟩
  obtain ⟨Q0, hQ0⟩ : ∃ P, bI ++ be 1 m = P := ⟨_, rfl⟩
  obtain ⟨Q1, hQ1⟩ : ∃ P, Q0 ++ be 1 a1 = P := ⟨_, rfl⟩
  obtain ⟨Q2, hQ2⟩ : ∃ P, Q1 ++ be 1 a2 = P := ⟨_, rfl⟩
  obtain ⟨Q3, hQ3⟩ : ∃ P, Q2 ++ be 4 a3 = P := ⟨_, rfl⟩
  obtain ⟨Q4, hQ4⟩ : ∃ P, Q3 ++ be 6 a4 = P := ⟨_, rfl⟩
  obtain ⟨Q5, hQ5⟩ : ∃ P, Q4 ++ be 4 a5 = P := ⟨_, rfl⟩
  have HQ0 := Lib.hid hQ0
  have HQ1 := Lib.hid hQ1
  have HQ2 := Lib.hid hQ2
  have HQ3 := Lib.hid hQ3
  have HQ4 := Lib.hid hQ4
  have HQ5 := Lib.hid hQ5
  have HLQ : Hid ((str Q0).size = 5 ∧ (str Q1).size = 6 ∧ (str Q2).size = 7 ∧ (str Q3).size = 11 ∧ (str Q4).size = 17 ∧ (str Q5).size = 21) := by
    simp only [str_size, ← hQ5, ← hQ4, ← hQ3, ← hQ2, ← hQ1, ← hQ0]
    simp [be_length, bI, Hid]
  have HPRE : Hid (sealB (Q5 ++ recs (prsR p)) = inoB m ⟨(a1 : Int), (a2 : Int), (a3 : Int), (a4 : Int), (a5 : Int), p⟩) := by
    show _ = _
    rw [inoB, inoR, recs_append, ← hQ5, ← hQ4, ← hQ3, ← hQ2, ← hQ1, ← hQ0]
    simp [recs, headIR, ← bI_eq]
  have HP := Lib.hid hp
  have HOK := Lib.hid hok
  have HS := Lib.hid hs
  rw [hw0] at K0 HB0
  have HW0 := Lib.hid hw0
  have HK : Hid (∀ w', Below w0.heap.size w0 w' → Bk w' w.heap.size 27 (inoC ⟨(a1 : Int), (a2 : Int), (a3 : Int), (a4 : Int), (a5 : Int), p⟩)) := fun w' hb => K0.below hb K0.lt
  clear hQ0 hQ1 hQ2 hQ3 hQ4 hQ5 hp hok hs hw0 K0
  go_enter Tryd.func13, Tryd.ntmps13
  go_wp2_with fail
  rw [HW0.out]
  refine wp_region_tail (by kernel_rfl) 29 49 slotJ2 waitJ2 (leaveJ2 w.heap.size m a1 a2 a3 a4 a5 Q0 Q1 Q2 Q3 Q4 Q5) rfl
    (by kernel_rfl) (fun i v w w' _ _ h => by unfold leaveJ2 at *; split at h <;> exact h) ?_ ?_
  · intro i hi
    match i, hi with
    | 0, _ =>
      intro o ho a wc hk hb hd K hK
      cases ho
      have e0 := hk.rest 0 (.int .i64 (m : Int)) (by omega) (by kernel_rfl) rfl
      rw [Array.getD_eq_getD_getElem?] at e0
      go_simp
      exact hK _ _ (Below.refl _ _) rfl
    | 1, _ =>
      intro o ho a wc hk hb hd K hK
      cases ho
      have e0 := hd 0 (by simp [waitJ2])
      simp only [leaveJ2, slotJ2, Nat.reduceAdd, Array.getD_eq_getD_getElem?] at e0
      have q : IntKind.u64.wrap (m : Int) = (m : Int) := IntWalk.u64_in _ (by omega)
      go_simp
      exact hK _ _ (Below.refl _ _) rfl
    | 2, _ =>
      intro o ho a wc hk hb hd K hK
      cases ho
      have e0 := hd 1 (by simp [waitJ2])
      simp only [leaveJ2, slotJ2, Nat.reduceAdd, Array.getD_eq_getD_getElem?] at e0
      go_simp
      refine (Of_any m 1 wc (by omega) (by omega)).mono ?_
      rintro e w3 ⟨rfl, hw3⟩
      exact hK _ _ hw3 rfl
    | 3, _ =>
      intro o ho a wc hk hb hd K hK
      cases ho
      have e0 := hd 2 (by simp [waitJ2])
      simp only [leaveJ2, slotJ2, Nat.reduceAdd, Array.getD_eq_getD_getElem?] at e0
      have z1 : (str bI).size ≤ 12 := by rw [str_size]; simp [bI]
      have z2 : (str (be 1 m)).size ≤ 12 := by rw [str_size, be_length]; omega
      go_simp
      exact hK _ _ (Below.refl _ _) (by show Value.string _ = Value.string _; rw [← HQ0.out, ← str_append]; first | done | rfl)
    | 4, _ =>
      intro o ho a wc hk hb hd K hK
      cases ho
      have e0 := hk.rest 3 (.pointer (some ⟨w.heap.size, 0, none⟩)) (by omega) (by kernel_rfl) rfl
      rw [Array.getD_eq_getD_getElem?] at e0
      go_simp
      exact hK _ _ (Below.refl _ _) rfl
    | 5, _ =>
      intro o ho a wc hk hb hd K hK
      cases ho
      have e0 := hd 4 (by simp [waitJ2])
      simp only [leaveJ2, slotJ2, Nat.reduceAdd, Array.getD_eq_getD_getElem?] at e0
      obtain ⟨c0, c1, c2, c3, c4⟩ := ino_cells (HK.out _ hb)
      go_simp
      exact hK _ _ (Below.refl _ _) rfl
    | 6, _ =>
      intro o ho a wc hk hb hd K hK
      cases ho
      have e0 := hd 5 (by simp [waitJ2])
      simp only [leaveJ2, slotJ2, Nat.reduceAdd, Array.getD_eq_getD_getElem?] at e0
      have q : IntKind.u64.wrap (a1 : Int) = (a1 : Int) := IntWalk.u64_in _ (by omega)
      go_simp
      exact hK _ _ (Below.refl _ _) rfl
    | 7, _ =>
      intro o ho a wc hk hb hd K hK
      cases ho
      have e0 := hd 6 (by simp [waitJ2])
      simp only [leaveJ2, slotJ2, Nat.reduceAdd, Array.getD_eq_getD_getElem?] at e0
      go_simp
      refine (Of_any a1 1 wc (by omega) (by omega)).mono ?_
      rintro e w3 ⟨rfl, hw3⟩
      exact hK _ _ hw3 rfl
    | 8, _ =>
      intro o ho a wc hk hb hd K hK
      cases ho
      have e0 := hd 3 (by simp [waitJ2])
      have e1 := hd 7 (by simp [waitJ2])
      simp only [leaveJ2, slotJ2, Nat.reduceAdd, Array.getD_eq_getD_getElem?] at e0 e1
      have z1 : (str Q0).size ≤ 30 := by have := HLQ.out; omega
      have z2 : (str (be 1 a1)).size ≤ 12 := by rw [str_size, be_length]; omega
      have zz : ¬ (9223372036854775807 < (str Q0).size + (str (be 1 a1)).size) := by omega
      go_simp
      first | (rw [if_neg zz, str_append Q0 (be 1 a1), HQ1.out]; go_simp) | rw [str_append Q0 (be 1 a1), HQ1.out]
      exact hK _ _ (Below.refl _ _) rfl
    | 9, _ =>
      intro o ho a wc hk hb hd K hK
      cases ho
      have e0 := hk.rest 3 (.pointer (some ⟨w.heap.size, 0, none⟩)) (by omega) (by kernel_rfl) rfl
      rw [Array.getD_eq_getD_getElem?] at e0
      go_simp
      exact hK _ _ (Below.refl _ _) rfl
    | 10, _ =>
      intro o ho a wc hk hb hd K hK
      cases ho
      have e0 := hd 9 (by simp [waitJ2])
      simp only [leaveJ2, slotJ2, Nat.reduceAdd, Array.getD_eq_getD_getElem?] at e0
      obtain ⟨c0, c1, c2, c3, c4⟩ := ino_cells (HK.out _ hb)
      go_simp
      exact hK _ _ (Below.refl _ _) rfl
    | 11, _ =>
      intro o ho a wc hk hb hd K hK
      cases ho
      have e0 := hd 10 (by simp [waitJ2])
      simp only [leaveJ2, slotJ2, Nat.reduceAdd, Array.getD_eq_getD_getElem?] at e0
      have q : IntKind.u64.wrap (a2 : Int) = (a2 : Int) := IntWalk.u64_in _ (by omega)
      go_simp
      exact hK _ _ (Below.refl _ _) rfl
    | 12, _ =>
      intro o ho a wc hk hb hd K hK
      cases ho
      have e0 := hd 11 (by simp [waitJ2])
      simp only [leaveJ2, slotJ2, Nat.reduceAdd, Array.getD_eq_getD_getElem?] at e0
      go_simp
      refine (Of_any a2 1 wc (by omega) (by omega)).mono ?_
      rintro e w3 ⟨rfl, hw3⟩
      exact hK _ _ hw3 rfl
    | 13, _ =>
      intro o ho a wc hk hb hd K hK
      cases ho
      have e0 := hd 8 (by simp [waitJ2])
      have e1 := hd 12 (by simp [waitJ2])
      simp only [leaveJ2, slotJ2, Nat.reduceAdd, Array.getD_eq_getD_getElem?] at e0 e1
      have z1 : (str Q1).size ≤ 30 := by have := HLQ.out; omega
      have z2 : (str (be 1 a2)).size ≤ 12 := by rw [str_size, be_length]; omega
      have zz : ¬ (9223372036854775807 < (str Q1).size + (str (be 1 a2)).size) := by omega
      go_simp
      first | (rw [if_neg zz, str_append Q1 (be 1 a2), HQ2.out]; go_simp) | rw [str_append Q1 (be 1 a2), HQ2.out]
      exact hK _ _ (Below.refl _ _) rfl
    | 14, _ =>
      intro o ho a wc hk hb hd K hK
      cases ho
      have e0 := hk.rest 3 (.pointer (some ⟨w.heap.size, 0, none⟩)) (by omega) (by kernel_rfl) rfl
      rw [Array.getD_eq_getD_getElem?] at e0
      go_simp
      exact hK _ _ (Below.refl _ _) rfl
    | 15, _ =>
      intro o ho a wc hk hb hd K hK
      cases ho
      have e0 := hd 14 (by simp [waitJ2])
      simp only [leaveJ2, slotJ2, Nat.reduceAdd, Array.getD_eq_getD_getElem?] at e0
      obtain ⟨c0, c1, c2, c3, c4⟩ := ino_cells (HK.out _ hb)
      go_simp
      exact hK _ _ (Below.refl _ _) rfl
    | 16, _ =>
      intro o ho a wc hk hb hd K hK
      cases ho
      have e0 := hd 15 (by simp [waitJ2])
      simp only [leaveJ2, slotJ2, Nat.reduceAdd, Array.getD_eq_getD_getElem?] at e0
      have q : IntKind.u64.wrap (a3 : Int) = (a3 : Int) := IntWalk.u64_in _ (by omega)
      go_simp
      exact hK _ _ (Below.refl _ _) rfl
    | 17, _ =>
      intro o ho a wc hk hb hd K hK
      cases ho
      have e0 := hd 16 (by simp [waitJ2])
      simp only [leaveJ2, slotJ2, Nat.reduceAdd, Array.getD_eq_getD_getElem?] at e0
      go_simp
      refine (Of_any a3 4 wc (by omega) (by omega)).mono ?_
      rintro e w3 ⟨rfl, hw3⟩
      exact hK _ _ hw3 rfl
    | 18, _ =>
      intro o ho a wc hk hb hd K hK
      cases ho
      have e0 := hd 13 (by simp [waitJ2])
      have e1 := hd 17 (by simp [waitJ2])
      simp only [leaveJ2, slotJ2, Nat.reduceAdd, Array.getD_eq_getD_getElem?] at e0 e1
      have z1 : (str Q2).size ≤ 30 := by have := HLQ.out; omega
      have z2 : (str (be 4 a3)).size ≤ 12 := by rw [str_size, be_length]; omega
      have zz : ¬ (9223372036854775807 < (str Q2).size + (str (be 4 a3)).size) := by omega
      go_simp
      first | (rw [if_neg zz, str_append Q2 (be 4 a3), HQ3.out]; go_simp) | rw [str_append Q2 (be 4 a3), HQ3.out]
      exact hK _ _ (Below.refl _ _) rfl
    | 19, _ =>
      intro o ho a wc hk hb hd K hK
      cases ho
      have e0 := hk.rest 3 (.pointer (some ⟨w.heap.size, 0, none⟩)) (by omega) (by kernel_rfl) rfl
      rw [Array.getD_eq_getD_getElem?] at e0
      go_simp
      exact hK _ _ (Below.refl _ _) rfl
    | 20, _ =>
      intro o ho a wc hk hb hd K hK
      cases ho
      have e0 := hd 19 (by simp [waitJ2])
      simp only [leaveJ2, slotJ2, Nat.reduceAdd, Array.getD_eq_getD_getElem?] at e0
      obtain ⟨c0, c1, c2, c3, c4⟩ := ino_cells (HK.out _ hb)
      go_simp
      exact hK _ _ (Below.refl _ _) rfl
    | 21, _ =>
      intro o ho a wc hk hb hd K hK
      cases ho
      have e0 := hd 20 (by simp [waitJ2])
      simp only [leaveJ2, slotJ2, Nat.reduceAdd, Array.getD_eq_getD_getElem?] at e0
      have q : IntKind.u64.wrap (a4 : Int) = (a4 : Int) := IntWalk.u64_in _ (by omega)
      go_simp
      exact hK _ _ (Below.refl _ _) rfl
    | 22, _ =>
      intro o ho a wc hk hb hd K hK
      cases ho
      have e0 := hd 21 (by simp [waitJ2])
      simp only [leaveJ2, slotJ2, Nat.reduceAdd, Array.getD_eq_getD_getElem?] at e0
      go_simp
      refine (Of_any a4 6 wc (by omega) (by omega)).mono ?_
      rintro e w3 ⟨rfl, hw3⟩
      exact hK _ _ hw3 rfl
    | 23, _ =>
      intro o ho a wc hk hb hd K hK
      cases ho
      have e0 := hd 18 (by simp [waitJ2])
      have e1 := hd 22 (by simp [waitJ2])
      simp only [leaveJ2, slotJ2, Nat.reduceAdd, Array.getD_eq_getD_getElem?] at e0 e1
      have z1 : (str Q3).size ≤ 30 := by have := HLQ.out; omega
      have z2 : (str (be 6 a4)).size ≤ 12 := by rw [str_size, be_length]; omega
      have zz : ¬ (9223372036854775807 < (str Q3).size + (str (be 6 a4)).size) := by omega
      go_simp
      first | (rw [if_neg zz, str_append Q3 (be 6 a4), HQ4.out]; go_simp) | rw [str_append Q3 (be 6 a4), HQ4.out]
      exact hK _ _ (Below.refl _ _) rfl
    | 24, _ =>
      intro o ho a wc hk hb hd K hK
      cases ho
      have e0 := hk.rest 3 (.pointer (some ⟨w.heap.size, 0, none⟩)) (by omega) (by kernel_rfl) rfl
      rw [Array.getD_eq_getD_getElem?] at e0
      go_simp
      exact hK _ _ (Below.refl _ _) rfl
    | 25, _ =>
      intro o ho a wc hk hb hd K hK
      cases ho
      have e0 := hd 24 (by simp [waitJ2])
      simp only [leaveJ2, slotJ2, Nat.reduceAdd, Array.getD_eq_getD_getElem?] at e0
      obtain ⟨c0, c1, c2, c3, c4⟩ := ino_cells (HK.out _ hb)
      go_simp
      exact hK _ _ (Below.refl _ _) rfl
    | 26, _ =>
      intro o ho a wc hk hb hd K hK
      cases ho
      have e0 := hd 25 (by simp [waitJ2])
      simp only [leaveJ2, slotJ2, Nat.reduceAdd, Array.getD_eq_getD_getElem?] at e0
      have q : IntKind.u64.wrap (a5 : Int) = (a5 : Int) := IntWalk.u64_in _ (by omega)
      go_simp
      exact hK _ _ (Below.refl _ _) rfl
    | 27, _ =>
      intro o ho a wc hk hb hd K hK
      cases ho
      have e0 := hd 26 (by simp [waitJ2])
      simp only [leaveJ2, slotJ2, Nat.reduceAdd, Array.getD_eq_getD_getElem?] at e0
      go_simp
      refine (Of_any a5 4 wc (by omega) (by omega)).mono ?_
      rintro e w3 ⟨rfl, hw3⟩
      exact hK _ _ hw3 rfl
    | 28, _ =>
      intro o ho a wc hk hb hd K hK
      cases ho
      have e0 := hd 23 (by simp [waitJ2])
      have e1 := hd 27 (by simp [waitJ2])
      simp only [leaveJ2, slotJ2, Nat.reduceAdd, Array.getD_eq_getD_getElem?] at e0 e1
      have z1 : (str Q4).size ≤ 30 := by have := HLQ.out; omega
      have z2 : (str (be 4 a5)).size ≤ 12 := by rw [str_size, be_length]; omega
      have zz : ¬ (9223372036854775807 < (str Q4).size + (str (be 4 a5)).size) := by omega
      go_simp
      first | (rw [if_neg zz, str_append Q4 (be 4 a5), HQ5.out]; go_simp) | rw [str_append Q4 (be 4 a5), HQ5.out]
      exact hK _ _ (Below.refl _ _) rfl
    | _ + 29, h => exact absurd h (by omega)
  · intro vals w1 hb hR
    have v0 := hR 0 (by omega)
    have v1 := hR 1 (by omega)
    have v2 := hR 2 (by omega)
    have v3 := hR 3 (by omega)
    have v4 := hR 4 (by omega)
    have v5 := hR 5 (by omega)
    have v6 := hR 6 (by omega)
    have v7 := hR 7 (by omega)
    have v8 := hR 8 (by omega)
    have v9 := hR 9 (by omega)
    have v10 := hR 10 (by omega)
    have v11 := hR 11 (by omega)
    have v12 := hR 12 (by omega)
    have v13 := hR 13 (by omega)
    have v14 := hR 14 (by omega)
    have v15 := hR 15 (by omega)
    have v16 := hR 16 (by omega)
    have v17 := hR 17 (by omega)
    have v18 := hR 18 (by omega)
    have v19 := hR 19 (by omega)
    have v20 := hR 20 (by omega)
    have v21 := hR 21 (by omega)
    have v22 := hR 22 (by omega)
    have v23 := hR 23 (by omega)
    have v24 := hR 24 (by omega)
    have v25 := hR 25 (by omega)
    have v26 := hR 26 (by omega)
    have v27 := hR 27 (by omega)
    have v28 := hR 28 (by omega)
    simp only [leaveJ2] at v0 v1 v2 v3 v4 v5 v6 v7 v8 v9 v10 v11 v12 v13 v14 v15 v16 v17 v18 v19 v20 v21 v22 v23 v24 v25 v26 v27 v28
    clear hR
    simp only [putAll, slotJ2, Nat.reduceAdd, List.setIfInBounds_toArray, List.set_cons_zero, List.set_cons_succ, List.drop_succ_cons, List.drop_zero, v0, v1, v2, v3, v4, v5, v6, v7, v8, v9, v10, v11, v12, v13, v14, v15, v16, v17, v18, v19, v20, v21, v22, v23, v24, v25, v26, v27, v28]
    clear v0 v1 v2 v3 v4 v5 v6 v7 v8 v9 v10 v11 v12 v13 v14 v15 v16 v17 v18 v19 v20 v21 v22 v23 v24 v25 v26 v27 v28
    have HB1 := Lib.hid (HB0.out.trans (hb.mono HB0.out.size))
    have KW := Lib.hid (HK.out _ hb)
    clear hb HK HB0 HQ0 HQ1 HQ2 HQ3 HQ4 HQ5
    go_wp2
    go_loopw [5, 6] (fun r i wr => ∃ (k : Nat) (S : List UInt8), k ≤ 9 ∧ i = .int .i64 k ∧ r = .string (str S) ∧ Hid (S = Q5 ++ recs (prsR (p.take k))) ∧ Hid (Bk wr w.heap.size 27 (inoC ⟨(a1 : Int), (a2 : Int), (a3 : Int), (a4 : Int), (a5 : Int), p⟩)) ∧ Hid (Below w.heap.size w wr)) (fun _ i _ => 9 - (intOf i).toNat)
    case atStart => exact ⟨0, Q5, Nat.zero_le _, rfl, rfl, by simp [prsR, recs, Hid], KW.out, HB1.out⟩
    case round =>
      obtain ⟨k, S, hk, rfl, rfl, HSS, HKR, HB⟩ := hrel
      clear KW HB1
      have HLS : Hid ((str S).size ≤ 124) := by
        show _ ≤ _
        have := HLQ.out.2.2.2.2.2
        rw [str_size] at this
        rw [str_size, HSS.out, List.length_append, recs_prsR, List.length_take, this]
        omega
      by_cases hlt : k < 9
      · obtain ⟨y, hy⟩ : ∃ y, p[k]? = some y := ⟨_, List.getElem?_eq_getElem (by have := HP.out; omega)⟩
        obtain ⟨n0, n1⟩ := prsV_get p k y hy
        have hc := ino_prs HKR.out
        have c0 : wr.cell? ⟨w.heap.size, 5 + k * 2, none⟩ = some (.int .i64 y.at_) := by obtain ⟨ad, e, _, hc⟩ := hc _ _ n0; cases e; rwa [add_plain] at hc
        have c1 : wr.cell? ⟨w.heap.size, 5 + k * 2 + 1, none⟩ = some (.int .u32 (y.sum : Int)) := by obtain ⟨ad, e, _, hc⟩ := hc _ _ n1; cases e; rwa [add_plain, ← Nat.add_assoc] at hc
        obtain ⟨q1, q2, q3⟩ := prOk_yes (HOK.out y (List.mem_of_getElem? hy))
        have q4 := HS.out y (List.mem_of_getElem? hy)
        have HY := Lib.hid hy
        have HO := Lib.hid (refOct_any y wr q1 (by omega) q4)
        clear hc n0 n1 hy q1 q2 q3 q4
        go_wp2_with fail
        refine HO.out.mono ?_
        rintro e w1 ⟨rfl, hb1⟩
        have HK1 := Lib.hid (HKR.out.below hb1 HKR.out.lt)
        have HB2 := Lib.hid (HB.out.trans (hb1.mono HB.out.size))
        have z1 : (str S).size ≤ 124 := HLS.out
        have z2 : (str (recs (prR y))).size ≤ 8 := by rw [str_size, recs_prR]; exact Nat.le_refl _
        have HST : Hid (str S ++ str (recs (prR y)) = str (Q5 ++ recs (prsR (p.take (k + 1))))) := by
          show _ = _
          rw [str_append, prsR_take_succ p k y HY.out, recs_append, HSS.out, List.append_assoc]
        clear hb1 c0 c1 HKR HB
        go_wp2
        go_roundw
        case rel => exact ⟨k + 1, _, by omega, by go_num, by rw [HST.out], rfl, HK1.out, HB2.out⟩
        case measure => simp [intOf]; omega
      · obtain rfl : k = 9 := by omega
        have HTK : Hid (p.take 9 = p) := List.take_of_length_le (by have := HP.out; omega)
        have HSL : Hid (S.length ≤ 124) := by show _ ≤ _; have h := HLS.out; rw [str_size] at h; exact h
        go_wp2_with fail
        refine (refSeal_any S wr HSL.out).mono ?_
        rintro e w7 ⟨rfl, hb7⟩
        have HB7 := Lib.hid (HB.out.trans (hb7.mono HB.out.size))
        clear hb7
        go_wp2
        go_ret
        exact ⟨ret_strI (by rw [HSS.out, HTK.out, HPRE.out]), HB7.out⟩

theorem refEncodeI_any (m : Int) (x : Ino) (w : World) (hp : x.p.length = 9) (hm : 1 ≤ m ∧ m ≤ 39) (h : inoOk x = true) (hs : prSums x.p) :
    Calls Tryd.prog 13 #[.int .i64 m, .agg (inoC x)] w fun e w' => e = .returned (.string (str (inoB m x))) ∧ Below w.heap.size w w' := by
  obtain ⟨hh, hq⟩ := inoOk_yes h
  obtain ⟨r1, r2, r3, r4, r5, r6, r7, r8, r9, r10⟩ := headIOk_yes hh
  obtain ⟨a1, a2, a3, a4, a5, p⟩ := x
  simp only at *
  obtain ⟨m, rfl⟩ := Int.eq_ofNat_of_zero_le (show 0 ≤ m by omega)
  obtain ⟨a1, rfl⟩ := Int.eq_ofNat_of_zero_le (show 0 ≤ a1 by omega)
  obtain ⟨a2, rfl⟩ := Int.eq_ofNat_of_zero_le r3
  obtain ⟨a3, rfl⟩ := Int.eq_ofNat_of_zero_le r5
  obtain ⟨a4, rfl⟩ := Int.eq_ofNat_of_zero_le r7
  obtain ⟨a5, rfl⟩ := Int.eq_ofNat_of_zero_le r9
  exact refEncodeI_nat m a1 a2 a3 a4 a5 p w hp (by omega) (by omega) (by omega) (by omega) (by omega) (by omega) hq hs

set_option maxHeartbeats 2000000 in
theorem refNodeI_any (B : Nat) (A : Option Addr) (c : Nat) (p : List Pr) (w : World) (hp : p.length = 15) (hr : Rd w B A (prsV p)) (hB : B ≤ w.heap.size) (hok : ∀ q ∈ p, prOk q = true) (hs : prSums p) :
    Calls Tryd.prog 21 #[.slice A 15 c] w fun e w' => e = .returned (.string (str (nodB p))) ∧ Below w.heap.size w w' := by
  have HP := Lib.hid hp
  have HR := Lib.hid hr
  have HOK := Lib.hid hok
  have HS := Lib.hid hs
  have HE : Hid (Value.string (⟨#[]⟩ : ByteArray) = .string (str [])) := rfl
  clear hp hr hok hs
  go_enter Tryd.func21, Tryd.ntmps21
  go_wp2
  go_loopw [3, 4] (fun r i wr => ∃ (k : Nat) (S : List UInt8), k ≤ 15 ∧ i = .int .i64 k ∧ r = .string (str S) ∧ Hid (S = recs (prsR (p.take k))) ∧ Hid (Below w.heap.size w wr)) (fun _ i _ => 15 - (intOf i).toNat)
  case atStart => exact ⟨0, [], Nat.zero_le _, rfl, rfl, by simp [prsR, recs, Hid], Below.refl _ _⟩
  case round =>
    obtain ⟨k, S, hk, rfl, rfl, HSS, HB⟩ := hrel
    have HLS : Hid ((str S).size ≤ 124) := by
      show _ ≤ _
      rw [str_size, HSS.out, recs_prsR, List.length_take]
      omega
    by_cases hlt : k < 15
    · obtain ⟨y, hy⟩ : ∃ y, p[k]? = some y := ⟨_, List.getElem?_eq_getElem (by have := HP.out; omega)⟩
      obtain ⟨b, o, rfl, hbB, hc⟩ := (HR.out.below (HB.out.mono hB)).plain (by rw [prsV_length]; have := HP.out; omega)
      obtain ⟨n0, n1⟩ := prsV_get p k y hy
      have c0 := hc _ _ n0
      have c1 := hc _ _ n1
      rw [← Nat.add_assoc] at c1
      obtain ⟨q1, q2, q3⟩ := prOk_yes (HOK.out y (List.mem_of_getElem? hy))
      have q4 := HS.out y (List.mem_of_getElem? hy)
      have HY := Lib.hid hy
      have HO := Lib.hid (refOct_any y wr q1 (by omega) q4)
      clear hc n0 n1 hy q1 q2 q3 q4
      go_wp2_with fail
      refine HO.out.mono ?_
      rintro e w1 ⟨rfl, hb1⟩
      have HB2 := Lib.hid (HB.out.trans (hb1.mono HB.out.size))
      have z1 : (str S).size ≤ 124 := HLS.out
      have z2 : (str (recs (prR y))).size ≤ 8 := by rw [str_size, recs_prR]; exact Nat.le_refl _
      have HST : Hid (str S ++ str (recs (prR y)) = str (recs (prsR (p.take (k + 1))))) := by
        show _ = _
        rw [str_append, prsR_take_succ p k y HY.out, recs_append, HSS.out]
      clear hb1 c0 c1 HB
      go_wp2
      go_roundw
      case rel => exact ⟨k + 1, _, by omega, by go_num, by rw [HST.out], rfl, HB2.out⟩
      case measure => simp [intOf]; omega
    · obtain rfl : k = 15 := by omega
      have HTK : Hid (p.take 15 = p) := List.take_of_length_le (by have := HP.out; omega)
      have HSL : Hid (S.length ≤ 124) := by show _ ≤ _; have h := HLS.out; rw [str_size] at h; exact h
      go_wp2_with fail
      refine (refSeal_any S wr HSL.out).mono ?_
      rintro e w7 ⟨rfl, hb7⟩
      have HB7 := Lib.hid (HB.out.trans (hb7.mono HB.out.size))
      clear hb7
      go_wp2
      go_ret
      exact ⟨ret_strI (by rw [HSS.out, HTK.out]; rfl), HB7.out⟩
end Go.Proofs.YtjhnabhieihifaaDoor
