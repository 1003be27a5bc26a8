/-
  The pointer to any block is the document's, or refused; and whether any pointer points to any block is as it says. Conditions: crc.halves holds what its text lays, tied to the program.
-/
import Derived.Test.YtjhnabhieihifaaDoorInoEq
import Derived.Test.YtjhnabhieihifaaDoorRef07b
import Derived.Test.YtjhnabhieihifaaDoorRef07c
import Derived.Test.YtjhnabhieihifaaDoorRef07d
import Derived.Test.YtjhnabhieihifaaDoorCrcTab
import Derived.Test.YtjhnabhieihifaaDoorOpenIno
import Derived.Test.YtjhnabhieihifaaDoorCards
import Derived.Test.YtjhnabhieihifaaDoorTie
import Derived.SevenTiedAt
import Derived.Deep.RegionHeld3
import Derived.BigQuiet
namespace Go.Proofs.YtjhnabhieihifaaDoor.inodePoints
open Go.ChangeShapes Go.WideShapes Go.ChangeAt Go.RowKit
set_option maxRecDepth 100000
set_option linter.unusedVariables false

/-- what To answers -/
def toOk (x : Int) (bs : List UInt8) : Bool := decide (1 ≤ x ∧ x ≤ 2147483647) && decide (bs.length = 128)
def toP (x : Int) (bs : List UInt8) : Pr := if toOk x bs then ⟨x, sumN bs⟩ else ⟨0, 0⟩
def toQ (x : Int) (bs : List UInt8) : Int := if toOk x bs then 0 else 1
theorem toOk_low {x : Int} {bs : List UInt8} (h : ¬ (1 ≤ x ∧ x ≤ 2147483647)) : toOk x bs = false := by rw [toOk, decide_eq_false h]; rfl
theorem toOk_len {x : Int} {bs : List UInt8} (h : bs.length ≠ 128) : toOk x bs = false := by rw [toOk, decide_eq_false h, Bool.and_false]
theorem toOk_yes {x : Int} {bs : List UInt8} (h : 1 ≤ x ∧ x ≤ 2147483647) (h' : bs.length = 128) : toOk x bs = true := by rw [toOk, decide_eq_true h, decide_eq_true h']; rfl
theorem to_any (x : Int) (A : Option Addr) (n c : Nat) (bs : List UInt8) (X : Pr) (E : Int) (w : World) (hl : bs.length = n) (hn : n ≤ 9223372036854775807) (hr : Rd w w.heap.size A (bs.map bv)) (hT : Tab w) (hX : toP x bs = X) (hE : toQ x bs = E) :
    Calls Tryd.prog 22 #[.int .i64 x, .slice A n c] w fun e w' => e = .returned (.tuple #[.agg #[.int .i64 X.at_, .int .u32 (X.sum : Int)], .int .i64 E]) ∧ Below w.heap.size w w' := by
  cases h : toOk x bs with
  | true =>
    have h' := h
    rw [toOk, Bool.and_eq_true, decide_eq_true_eq, decide_eq_true_eq] at h'
    obtain rfl : n = 128 := hl.symm.trans h'.2
    rw [toP, h] at hX
    rw [toQ, h] at hE
    subst hX hE
    exact inoTo_yes x A c _ bs w hl hr h'.1 rfl hT
  | false =>
    rw [toP, h] at hX
    rw [toQ, h] at hE
    subst hX hE
    refine inoTo_no x A n c w hn ?_
    by_cases hx : 1 ≤ x ∧ x ≤ 2147483647
    · right
      intro e
      rw [toOk_yes hx (hl.trans e)] at h
      cases h
    · exact .inl hx
def slotLA (i : Nat) : Nat := 21 + i
def waitLA : Nat → List Nat
  | 2 => [0, 1]
  | 4 => [3]
  | 5 => [4]
  | 6 => [5]
  | 7 => [6]
  | 8 => [6, 7]
  | 9 => [6, 8]
  | 10 => [6, 9]
  | 11 => [10]
  | 12 => [11]
  | 13 => [11, 12]
  | 14 => [11]
  | 15 => [11, 13, 14]
  | 16 => [11, 15]
  | 17 => [2, 16]
  | _ => []
def leaveLA (g : Nat) (pa : Int) (ps : Nat) (A : Option Addr) (k c s : Nat) (t : Bool) : Nat → Value → World → Prop
  | 0, v, _ => v = .agg #[.int .i64 pa, .int .u32 (ps : Int)]
  | 1, v, _ => v = .slice A k c
  | 2, v, _ => v = .bool t
  | 3, v, _ => v = .pointer (some ⟨g, 0, none⟩)
  | 4, v, _ => v = .int .i64 pa
  | 5, v, _ => v = .bool false
  | 6, v, _ => v = .bool false
  | 7, v, _ => v = undef
  | 8, v, _ => v = undef
  | 9, v, _ => v = undef
  | 10, v, _ => v = .bool false
  | 11, v, _ => v = .bool false
  | 12, v, _ => v = undef
  | 13, v, _ => v = undef
  | 14, v, _ => v = undef
  | 15, v, _ => v = undef
  | 16, v, _ => v = .bool false
  | _, _, _ => True
def slotLB (i : Nat) : Nat := 21 + i
def waitLB : Nat → List Nat
  | 2 => [0, 1]
  | 4 => [3]
  | 5 => [4]
  | 6 => [5]
  | 7 => [6]
  | 8 => [6, 7]
  | 9 => [6, 8]
  | 10 => [6, 9]
  | 11 => [10]
  | 12 => [11]
  | 13 => [11, 12]
  | 14 => [11]
  | 15 => [11, 13, 14]
  | 16 => [11, 15]
  | 17 => [2, 16]
  | _ => []
def leaveLB (g : Nat) (pa : Int) (ps : Nat) (A : Option Addr) (k c s : Nat) (t : Bool) : Nat → Value → World → Prop
  | 0, v, _ => v = .agg #[.int .i64 pa, .int .u32 (ps : Int)]
  | 1, v, _ => v = .slice A k c
  | 2, v, _ => v = .bool t
  | 3, v, _ => v = .pointer (some ⟨g, 0, none⟩)
  | 4, v, _ => v = .int .i64 pa
  | 5, v, _ => v = .bool true
  | 6, v, _ => v = .bool true
  | 7, v, _ => v = .slice A k c
  | 8, v, _ => v = .int .i64 (k : Int)
  | 9, v, _ => v = .bool false
  | 10, v, _ => v = .bool false
  | 11, v, _ => v = .bool false
  | 12, v, _ => v = undef
  | 13, v, _ => v = undef
  | 14, v, _ => v = undef
  | 15, v, _ => v = undef
  | 16, v, _ => v = .bool false
  | _, _, _ => True
def slotLC (i : Nat) : Nat := 21 + i
def waitLC : Nat → List Nat
  | 2 => [0, 1]
  | 4 => [3]
  | 5 => [4]
  | 6 => [5]
  | 7 => [6]
  | 8 => [6, 7]
  | 9 => [6, 8]
  | 10 => [6, 9]
  | 11 => [10]
  | 12 => [11]
  | 13 => [11, 12]
  | 14 => [11]
  | 15 => [11, 13, 14]
  | 16 => [11, 15]
  | 17 => [2, 16]
  | _ => []
def leaveLC (g : Nat) (pa : Int) (ps : Nat) (A : Option Addr) (k c s : Nat) (t : Bool) : Nat → Value → World → Prop
  | 0, v, _ => v = .agg #[.int .i64 pa, .int .u32 (ps : Int)]
  | 1, v, _ => v = .slice A k c
  | 2, v, _ => v = .bool t
  | 3, v, _ => v = .pointer (some ⟨g, 0, none⟩)
  | 4, v, _ => v = .int .i64 pa
  | 5, v, _ => v = .bool true
  | 6, v, _ => v = .bool true
  | 7, v, _ => v = .slice A k c
  | 8, v, _ => v = .int .i64 (k : Int)
  | 9, v, _ => v = .bool true
  | 10, v, _ => v = .bool true
  | 11, v, _ => v = .bool true
  | 12, v, _ => v = .pointer (some ⟨g, 1, none⟩)
  | 13, v, _ => v = .int .u32 (ps : Int)
  | 14, v, _ => v = .int .u32 (s : Int)
  | 15, v, _ => v = .bool t
  | 16, v, _ => v = .bool t
  | _, _, _ => True

set_option maxHeartbeats 4000000 in
theorem walk (x : Int) (A : Option Addr) (n c : Nat) (bs0 : List UInt8) (p : Pr) (w : World) (hn : bs0.length = n) (hc : n ≤ c) (hcm : c ≤ maxLen) (hr : Rd w w.heap.size A (bs0.map bv)) (hx1 : -9223372036854775808 ≤ x) (hx2 : x ≤ 9223372036854775807) (hp : prI p) (ht : Tab w) :
    Calls Tryd.prog 6 #[.int .i64 x, .slice A n c, .agg #[.int .i64 p.at_, .int .u32 (p.sum : Int)]] w fun e w' => e = .returned (.bool true) ∧ Below w.heap.size w w' := by
  obtain ⟨bs, hbs⟩ : ∃ bs, bs0.take 200 = bs := ⟨_, rfl⟩
  obtain ⟨k, hk⟩ : ∃ k, bs.length = k := ⟨_, rfl⟩
  obtain ⟨hkn, hk2⟩ := fit200 hn hbs hk
  have K0 := Lib.hid (Bk.new w 24 #[.int .i64 p.at_, .int .u32 (p.sum : Int)])
  have HB0 := Lib.hid ((Below.refl w.heap.size w).alloc (Nat.le_refl _) (.cells #[.int .i64 p.at_, .int .u32 (p.sum : Int)] 24))
  obtain ⟨w0, hw0⟩ : ∃ w0, w.alloc (.cells #[.int .i64 p.at_, .int .u32 (p.sum : Int)] 24) = w0 := ⟨_, rfl⟩
  rw [hw0] at K0 HB0
  have HW0 := Lib.hid hw0
  have HF := Lib.hid (fewI_any w.heap.size A n k c bs0 w0 hn (by rw [hbs, hk]) (hr.below HB0.out) hc hcm)
  have hR : Rd w w.heap.size A (bs.map bv) := by rw [← hbs, List.map_take]; exact hr.take 200
  have HR := Lib.hid hR
  have HKL := Lib.hid hk
  have HT := Lib.hid ht
  obtain ⟨s, hs⟩ : ∃ s, sumN bs = s := ⟨_, rfl⟩
  have HS := Lib.hid hs
  have HSL : Hid (s < 4294967296) := by show _ < _; rw [← hs]; exact sumN_lt bs
  obtain ⟨X, hX⟩ : ∃ X, toP x bs = X := ⟨_, rfl⟩
  obtain ⟨E, hE⟩ : ∃ E, toQ x bs = E := ⟨_, rfl⟩
  have HX := Lib.hid hX
  have HE := Lib.hid hE
  have HTO := Lib.hid (to_any x A k c bs X E w0 hk (by omega) ((hR.below HB0.out).mono HB0.out.size) (ht.up HB0.out) hX hE)
  have HC : Hid (∀ w', Below w.heap.size w w' → (convert 28 9 (.slice A k c)).run Tryd.prog w' = .ok (.string (str bs)) w') := fun w' hb =>
    run_conv 28 5 9 Tryd.underlying28 Tryd.underlying5 under_strI k c hk (hR.below hb)
  have HRS : Hid (∀ w', Calls Tryd.prog 23 #[.string (str bs)] w' fun e w'' => e = .returned (.int .u32 (s : Int)) ∧ w' = w'') := fun w' => refSum_any bs s w' (by omega) hs
  obtain ⟨t, ht'⟩ : ∃ t, ptsB p bs = t := ⟨_, rfl⟩
  have HPB := Lib.hid ht'
  have HPT : Hid (∀ w', Below w.heap.size w w' → Calls Tryd.prog 24 #[.agg #[.int .i64 p.at_, .int .u32 (p.sum : Int)], .slice A k c] w' fun e w'' => e = .returned (.bool t) ∧ Below w'.heap.size w' w'') := fun w' hb =>
    inoPoints_any p A k c bs t w' hk (by omega) ((hR.below hb).mono hb.size) (ht.up hb) hp.2 ht'
  clear hn hc hcm hr ht hbs hk hkn hR hs hX hE hp ht' hw0
  go_enter Tryd.func6, Tryd.ntmps6
  go_wp2_with fail
  rw [HW0.out]
  refine HF.out.mono ?_
  rintro e w1 ⟨rfl, rfl⟩
  go_wp2_with fail
  refine HTO.out.mono ?_
  rintro e w2 ⟨rfl, hb2⟩
  have HB2 := Lib.hid (HB0.out.trans (hb2.mono HB0.out.size))
  have K2 := Lib.hid (K0.out.below hb2 K0.out.lt)
  have KX := Lib.hid (Bk.new w2 24 #[.int .i64 X.at_, .int .u32 (X.sum : Int)])
  have K4 := Lib.hid (K2.out.alloc (.cells #[.int .i64 X.at_, .int .u32 (X.sum : Int)] 24))
  have HB4 := Lib.hid (HB2.out.alloc HB2.out.size (.cells #[.int .i64 X.at_, .int .u32 (X.sum : Int)] 24))
  have hcv := HC.out _ HB4.out
  clear hb2 HF HTO K0 HB0 HW0 HB2 K2
  go_wp2_with fail
  refine (HRS.out _).mono ?_
  rintro e w3 ⟨rfl, rfl⟩
  obtain ⟨w4, hw4⟩ : ∃ w4, w2.alloc (.cells #[.int .i64 X.at_, .int .u32 (X.sum : Int)] 24) = w4 := ⟨_, rfl⟩
  rw [hw4] at KX K4 HB4 ⊢
  have HK : Hid (∀ w', Below w4.heap.size w4 w' → Bk w' w.heap.size 24 #[.int .i64 p.at_, .int .u32 (p.sum : Int)]) := fun w' hb => K4.out.below hb K4.out.lt
  clear hcv hw4 K4
  go_wp2_with fail
  by_cases ha : 0 < p.at_
  · by_cases hk : k = 128
    · subst hk
      have HU : Hid (((p.sum : Int) == (s : Int)) = t) := by
        show _ = _
        rw [← HPB.out, ptsB, decide_eq_true ha, decide_eq_true HKL.out, HS.out, Bool.eq_iff_iff]
        simp only [Bool.true_and, beq_iff_eq]
        omega
      refine wp_region_tail (by kernel_rfl) 17 77 slotLC waitLC (leaveLC w.heap.size p.at_ p.sum A 128 c s t) rfl
        (by kernel_rfl) (fun i v w w' _ _ h => by unfold leaveLC at *; split at h <;> exact h) ?_ ?_
      · intro i hi
        match i, hi with
        | 0, _ =>
          intro o ho a wc hk hb hd K hK
          cases ho
          have e0 := hk.rest 5 (.pointer (some ⟨w.heap.size, 0, none⟩)) (by omega) (by kernel_rfl) rfl
          rw [Array.getD_eq_getD_getElem?] at e0
          obtain ⟨c0, c1, -⟩ := ino_cells2 (HK.out _ hb)
          go_simp
          exact hK _ _ (Below.refl _ _) rfl
        | 1, _ =>
          intro o ho a wc hk hb hd K hK
          cases ho
          have e0 := hk.rest 1 (.slice A 128 c) (by omega) (by kernel_rfl) rfl
          rw [Array.getD_eq_getD_getElem?] at e0
          go_simp
          exact hK _ _ (Below.refl _ _) rfl
        | 2, _ =>
          intro o ho a wc hk hb hd K hK
          cases ho
          have e0 := hd 0 (by simp [waitLC])
          have e1 := hd 1 (by simp [waitLC])
          simp only [leaveLC, slotLC, Nat.reduceAdd, Array.getD_eq_getD_getElem?] at e0 e1
          go_simp
          refine (HPT.out wc (HB4.out.trans (hb.mono HB4.out.size))).mono ?_
          rintro e w9 ⟨rfl, hw9⟩
          exact hK _ _ hw9 rfl
        | 3, _ =>
          intro o ho a wc hk hb hd K hK
          cases ho
          have e0 := hk.rest 5 (.pointer (some ⟨w.heap.size, 0, none⟩)) (by omega) (by kernel_rfl) rfl
          rw [Array.getD_eq_getD_getElem?] at e0
          go_simp
          exact hK _ _ (Below.refl _ _) rfl
        | 4, _ =>
          intro o ho a wc hk hb hd K hK
          cases ho
          have e0 := hd 3 (by simp [waitLC])
          simp only [leaveLC, slotLC, Nat.reduceAdd, Array.getD_eq_getD_getElem?] at e0
          obtain ⟨c0, c1, -⟩ := ino_cells2 (HK.out _ hb)
          go_simp
          exact hK _ _ (Below.refl _ _) rfl
        | 5, _ =>
          intro o ho a wc hk hb hd K hK
          cases ho
          have e0 := hd 4 (by simp [waitLC])
          simp only [leaveLC, slotLC, Nat.reduceAdd, Array.getD_eq_getD_getElem?] at e0
          go_simp
          exact hK _ _ (Below.refl _ _) rfl
        | 6, _ =>
          intro o ho a wc hk hb hd K hK
          cases ho
          have e0 := hd 5 (by simp [waitLC])
          simp only [leaveLC, slotLC, Nat.reduceAdd, Array.getD_eq_getD_getElem?] at e0
          go_simp
          exact hK _ _ (Below.refl _ _) rfl
        | 7, _ =>
          intro o ho a wc hk hb hd K hK
          cases ho
          have e0 := hk.rest 1 (.slice A 128 c) (by omega) (by kernel_rfl) rfl
          rw [Array.getD_eq_getD_getElem?] at e0
          have e1 := hd 6 (by simp [waitLC])
          simp only [leaveLC, slotLC, Nat.reduceAdd, Array.getD_eq_getD_getElem?] at e1
          have gs := hk.some_ (s := 27) (by omega) e1
          go_simp
          exact hK _ _ (Below.refl _ _) rfl
        | 8, _ =>
          intro o ho a wc hk hb hd K hK
          cases ho
          have e0 := hd 6 (by simp [waitLC])
          have e1 := hd 7 (by simp [waitLC])
          simp only [leaveLC, slotLC, Nat.reduceAdd, Array.getD_eq_getD_getElem?] at e0 e1
          have gs := hk.some_ (s := 27) (by omega) e0
          go_simp
          exact hK _ _ (Below.refl _ _) rfl
        | 9, _ =>
          intro o ho a wc hk hb hd K hK
          cases ho
          have e0 := hd 6 (by simp [waitLC])
          have e1 := hd 8 (by simp [waitLC])
          simp only [leaveLC, slotLC, Nat.reduceAdd, Array.getD_eq_getD_getElem?] at e0 e1
          have gs := hk.some_ (s := 27) (by omega) e0
          go_simp
          exact hK _ _ (Below.refl _ _) rfl
        | 10, _ =>
          intro o ho a wc hk hb hd K hK
          cases ho
          have e0 := hd 6 (by simp [waitLC])
          have e1 := hd 9 (by simp [waitLC])
          simp only [leaveLC, slotLC, Nat.reduceAdd, Array.getD_eq_getD_getElem?] at e0 e1
          go_simp
          exact hK _ _ (Below.refl _ _) rfl
        | 11, _ =>
          intro o ho a wc hk hb hd K hK
          cases ho
          have e0 := hd 10 (by simp [waitLC])
          simp only [leaveLC, slotLC, Nat.reduceAdd, Array.getD_eq_getD_getElem?] at e0
          go_simp
          exact hK _ _ (Below.refl _ _) rfl
        | 12, _ =>
          intro o ho a wc hk hb hd K hK
          cases ho
          have e0 := hk.rest 5 (.pointer (some ⟨w.heap.size, 0, none⟩)) (by omega) (by kernel_rfl) rfl
          rw [Array.getD_eq_getD_getElem?] at e0
          have e1 := hd 11 (by simp [waitLC])
          simp only [leaveLC, slotLC, Nat.reduceAdd, Array.getD_eq_getD_getElem?] at e1
          have gs := hk.some_ (s := 32) (by omega) e1
          go_simp
          exact hK _ _ (Below.refl _ _) rfl
        | 13, _ =>
          intro o ho a wc hk hb hd K hK
          cases ho
          have e0 := hd 11 (by simp [waitLC])
          have e1 := hd 12 (by simp [waitLC])
          simp only [leaveLC, slotLC, Nat.reduceAdd, Array.getD_eq_getD_getElem?] at e0 e1
          have gs := hk.some_ (s := 32) (by omega) e0
          obtain ⟨c0, c1, -⟩ := ino_cells2 (HK.out _ hb)
          go_simp
          exact hK _ _ (Below.refl _ _) rfl
        | 14, _ =>
          intro o ho a wc hk hb hd K hK
          cases ho
          have e0 := hk.rest 9 (.int .u32 (s : Int)) (by omega) (by kernel_rfl) rfl
          rw [Array.getD_eq_getD_getElem?] at e0
          have e1 := hd 11 (by simp [waitLC])
          simp only [leaveLC, slotLC, Nat.reduceAdd, Array.getD_eq_getD_getElem?] at e1
          have gs := hk.some_ (s := 32) (by omega) e1
          go_simp
          exact hK _ _ (Below.refl _ _) rfl
        | 15, _ =>
          intro o ho a wc hk hb hd K hK
          cases ho
          have e0 := hd 11 (by simp [waitLC])
          have e1 := hd 13 (by simp [waitLC])
          have e2 := hd 14 (by simp [waitLC])
          simp only [leaveLC, slotLC, Nat.reduceAdd, Array.getD_eq_getD_getElem?] at e0 e1 e2
          have gs := hk.some_ (s := 32) (by omega) e0
          go_simp
          exact hK _ _ (Below.refl _ _) (by show Value.bool _ = Value.bool _; rw [HU.out])
        | 16, _ =>
          intro o ho a wc hk hb hd K hK
          cases ho
          have e0 := hd 11 (by simp [waitLC])
          have e1 := hd 15 (by simp [waitLC])
          simp only [leaveLC, slotLC, Nat.reduceAdd, Array.getD_eq_getD_getElem?] at e0 e1
          go_simp
          exact hK _ _ (Below.refl _ _) rfl
        | _ + 17, h => exact absurd h (by omega)
      · intro vals w5 hb hR
        have v0 := hR 0 (by omega)
        have v1 := hR 1 (by omega)
        have v2 := hR 2 (by omega)
        have v3 := hR 3 (by omega)
        have v4 := hR 4 (by omega)
        have v5 := hR 5 (by omega)
        have v6 := hR 6 (by omega)
        have v7 := hR 7 (by omega)
        have v8 := hR 8 (by omega)
        have v9 := hR 9 (by omega)
        have v10 := hR 10 (by omega)
        have v11 := hR 11 (by omega)
        have v12 := hR 12 (by omega)
        have v13 := hR 13 (by omega)
        have v14 := hR 14 (by omega)
        have v15 := hR 15 (by omega)
        have v16 := hR 16 (by omega)
        simp only [leaveLC] at v0 v1 v2 v3 v4 v5 v6 v7 v8 v9 v10 v11 v12 v13 v14 v15 v16
        clear hR
        simp only [putAll, slotLC, Nat.reduceAdd, List.setIfInBounds_toArray, List.set_cons_zero, List.set_cons_succ, List.drop_succ_cons, List.drop_zero, v0, v1, v2, v3, v4, v5, v6, v7, v8, v9, v10, v11, v12, v13, v14, v15, v16]
        clear v0 v1 v2 v3 v4 v5 v6 v7 v8 v9 v10 v11 v12 v13 v14 v15 v16
        have HB5 := Lib.hid (HB4.out.trans (hb.mono HB4.out.size))
        have KX5 := Lib.hid (KX.out.below hb KX.out.lt)
        obtain ⟨x0, x1, -⟩ := ino_cells2 KX5.out
        clear hb HK KX HB4
        rcases (show x < 1 ∨ (1 ≤ x ∧ 2147483647 < x) ∨ (1 ≤ x ∧ x ≤ 2147483647) by omega) with r1 | ⟨r1, r2⟩ | ⟨r1, r2⟩
        · have TOK : toOk x bs = false := toOk_low (by omega)
          obtain rfl : E = 1 := by rw [← HE.out, toQ, TOK]; rfl
          obtain rfl : X = ⟨0, 0⟩ := by rw [← HX.out, toP, TOK]; rfl
          simp only at x0 x1
          go_wp2_with fail
          refine (awakeI_any _ (HT.out.up HB5.out)).mono ?_
          rintro e w7 ⟨rfl, hb7⟩
          have HB7 := Lib.hid (HB5.out.trans (hb7.mono HB5.out.size))
          clear hb7
          go_wp2
          go_ret
          exact ⟨rfl, HB7.out⟩
        · have TOK : toOk x bs = false := toOk_low (by omega)
          obtain rfl : E = 1 := by rw [← HE.out, toQ, TOK]; rfl
          obtain rfl : X = ⟨0, 0⟩ := by rw [← HX.out, toP, TOK]; rfl
          simp only at x0 x1
          go_wp2_with fail
          refine (awakeI_any _ (HT.out.up HB5.out)).mono ?_
          rintro e w7 ⟨rfl, hb7⟩
          have HB7 := Lib.hid (HB5.out.trans (hb7.mono HB5.out.size))
          clear hb7
          go_wp2
          go_ret
          exact ⟨rfl, HB7.out⟩
        · have TOK : toOk x bs = true := toOk_yes ⟨r1, r2⟩ HKL.out
          obtain rfl : E = 0 := by rw [← HE.out, toQ, TOK]; rfl
          obtain rfl : X = ⟨x, s⟩ := by rw [← HX.out, toP, TOK, HS.out]; rfl
          simp only at x0 x1
          go_wp2_with fail
          refine (inoPoints_any ⟨x, s⟩ A 128 c bs true w5 HKL.out (by omega) ((HR.out.below HB5.out).mono HB5.out.size) (HT.out.up HB5.out) HSL.out (by simp [ptsB, HKL.out, HS.out]; omega)).mono ?_
          rintro e w6 ⟨rfl, hb6⟩
          have HB6 := Lib.hid (HB5.out.trans (hb6.mono HB5.out.size))
          clear hb6
          go_wp2_with fail
          refine (awakeI_any _ (HT.out.up HB6.out)).mono ?_
          rintro e w7 ⟨rfl, hb7⟩
          have HB7 := Lib.hid (HB6.out.trans (hb7.mono HB6.out.size))
          clear hb7
          go_wp2
          go_ret
          exact ⟨rfl, HB7.out⟩
    · have hne : ((k : Int) == 128) = false := by simp; omega
      have HKN := Lib.hid hk
      have HKF := Lib.hid hne
      obtain rfl : t = false := by rw [← HPB.out, ptsB, decide_eq_false (show ¬ bs.length = 128 by rw [HKL.out]; exact hk), Bool.false_and, Bool.and_false]
      clear hk
      refine wp_region_tail (by kernel_rfl) 17 77 slotLB waitLB (leaveLB w.heap.size p.at_ p.sum A k c s false) rfl
        (by kernel_rfl) (fun i v w w' _ _ h => by unfold leaveLB at *; split at h <;> exact h) ?_ ?_
      · intro i hi
        match i, hi with
        | 0, _ =>
          intro o ho a wc hk hb hd K hK
          cases ho
          have e0 := hk.rest 5 (.pointer (some ⟨w.heap.size, 0, none⟩)) (by omega) (by kernel_rfl) rfl
          rw [Array.getD_eq_getD_getElem?] at e0
          obtain ⟨c0, c1, -⟩ := ino_cells2 (HK.out _ hb)
          go_simp
          exact hK _ _ (Below.refl _ _) rfl
        | 1, _ =>
          intro o ho a wc hk hb hd K hK
          cases ho
          have e0 := hk.rest 1 (.slice A k c) (by omega) (by kernel_rfl) rfl
          rw [Array.getD_eq_getD_getElem?] at e0
          go_simp
          exact hK _ _ (Below.refl _ _) rfl
        | 2, _ =>
          intro o ho a wc hk hb hd K hK
          cases ho
          have e0 := hd 0 (by simp [waitLB])
          have e1 := hd 1 (by simp [waitLB])
          simp only [leaveLB, slotLB, Nat.reduceAdd, Array.getD_eq_getD_getElem?] at e0 e1
          go_simp
          refine (HPT.out wc (HB4.out.trans (hb.mono HB4.out.size))).mono ?_
          rintro e w9 ⟨rfl, hw9⟩
          exact hK _ _ hw9 rfl
        | 3, _ =>
          intro o ho a wc hk hb hd K hK
          cases ho
          have e0 := hk.rest 5 (.pointer (some ⟨w.heap.size, 0, none⟩)) (by omega) (by kernel_rfl) rfl
          rw [Array.getD_eq_getD_getElem?] at e0
          go_simp
          exact hK _ _ (Below.refl _ _) rfl
        | 4, _ =>
          intro o ho a wc hk hb hd K hK
          cases ho
          have e0 := hd 3 (by simp [waitLB])
          simp only [leaveLB, slotLB, Nat.reduceAdd, Array.getD_eq_getD_getElem?] at e0
          obtain ⟨c0, c1, -⟩ := ino_cells2 (HK.out _ hb)
          go_simp
          exact hK _ _ (Below.refl _ _) rfl
        | 5, _ =>
          intro o ho a wc hk hb hd K hK
          cases ho
          have e0 := hd 4 (by simp [waitLB])
          simp only [leaveLB, slotLB, Nat.reduceAdd, Array.getD_eq_getD_getElem?] at e0
          go_simp
          exact hK _ _ (Below.refl _ _) rfl
        | 6, _ =>
          intro o ho a wc hk hb hd K hK
          cases ho
          have e0 := hd 5 (by simp [waitLB])
          simp only [leaveLB, slotLB, Nat.reduceAdd, Array.getD_eq_getD_getElem?] at e0
          go_simp
          exact hK _ _ (Below.refl _ _) rfl
        | 7, _ =>
          intro o ho a wc hk hb hd K hK
          cases ho
          have e0 := hk.rest 1 (.slice A k c) (by omega) (by kernel_rfl) rfl
          rw [Array.getD_eq_getD_getElem?] at e0
          have e1 := hd 6 (by simp [waitLB])
          simp only [leaveLB, slotLB, Nat.reduceAdd, Array.getD_eq_getD_getElem?] at e1
          have gs := hk.some_ (s := 27) (by omega) e1
          go_simp
          exact hK _ _ (Below.refl _ _) rfl
        | 8, _ =>
          intro o ho a wc hk hb hd K hK
          cases ho
          have e0 := hd 6 (by simp [waitLB])
          have e1 := hd 7 (by simp [waitLB])
          simp only [leaveLB, slotLB, Nat.reduceAdd, Array.getD_eq_getD_getElem?] at e0 e1
          have gs := hk.some_ (s := 27) (by omega) e0
          go_simp
          exact hK _ _ (Below.refl _ _) rfl
        | 9, _ =>
          intro o ho a wc hk hb hd K hK
          cases ho
          have e0 := hd 6 (by simp [waitLB])
          have e1 := hd 8 (by simp [waitLB])
          simp only [leaveLB, slotLB, Nat.reduceAdd, Array.getD_eq_getD_getElem?] at e0 e1
          have gs := hk.some_ (s := 27) (by omega) e0
          go_simp
          exact hK _ _ (Below.refl _ _) rfl
        | 10, _ =>
          intro o ho a wc hk hb hd K hK
          cases ho
          have e0 := hd 6 (by simp [waitLB])
          have e1 := hd 9 (by simp [waitLB])
          simp only [leaveLB, slotLB, Nat.reduceAdd, Array.getD_eq_getD_getElem?] at e0 e1
          go_simp
          exact hK _ _ (Below.refl _ _) rfl
        | 11, _ =>
          intro o ho a wc hk hb hd K hK
          cases ho
          have e0 := hd 10 (by simp [waitLB])
          simp only [leaveLB, slotLB, Nat.reduceAdd, Array.getD_eq_getD_getElem?] at e0
          go_simp
          exact hK _ _ (Below.refl _ _) rfl
        | 12, _ =>
          intro o ho a wc hk hb hd K hK
          cases ho
          have e0 := hk.rest 5 (.pointer (some ⟨w.heap.size, 0, none⟩)) (by omega) (by kernel_rfl) rfl
          rw [Array.getD_eq_getD_getElem?] at e0
          have e1 := hd 11 (by simp [waitLB])
          simp only [leaveLB, slotLB, Nat.reduceAdd, Array.getD_eq_getD_getElem?] at e1
          have gs := hk.some_ (s := 32) (by omega) e1
          go_simp
          exact hK _ _ (Below.refl _ _) rfl
        | 13, _ =>
          intro o ho a wc hk hb hd K hK
          cases ho
          have e0 := hd 11 (by simp [waitLB])
          have e1 := hd 12 (by simp [waitLB])
          simp only [leaveLB, slotLB, Nat.reduceAdd, Array.getD_eq_getD_getElem?] at e0 e1
          have gs := hk.some_ (s := 32) (by omega) e0
          go_simp
          exact hK _ _ (Below.refl _ _) rfl
        | 14, _ =>
          intro o ho a wc hk hb hd K hK
          cases ho
          have e0 := hk.rest 9 (.int .u32 (s : Int)) (by omega) (by kernel_rfl) rfl
          rw [Array.getD_eq_getD_getElem?] at e0
          have e1 := hd 11 (by simp [waitLB])
          simp only [leaveLB, slotLB, Nat.reduceAdd, Array.getD_eq_getD_getElem?] at e1
          have gs := hk.some_ (s := 32) (by omega) e1
          go_simp
          exact hK _ _ (Below.refl _ _) rfl
        | 15, _ =>
          intro o ho a wc hk hb hd K hK
          cases ho
          have e0 := hd 11 (by simp [waitLB])
          have e1 := hd 13 (by simp [waitLB])
          have e2 := hd 14 (by simp [waitLB])
          simp only [leaveLB, slotLB, Nat.reduceAdd, Array.getD_eq_getD_getElem?] at e0 e1 e2
          have gs := hk.some_ (s := 32) (by omega) e0
          go_simp
          exact hK _ _ (Below.refl _ _) rfl
        | 16, _ =>
          intro o ho a wc hk hb hd K hK
          cases ho
          have e0 := hd 11 (by simp [waitLB])
          have e1 := hd 15 (by simp [waitLB])
          simp only [leaveLB, slotLB, Nat.reduceAdd, Array.getD_eq_getD_getElem?] at e0 e1
          go_simp
          exact hK _ _ (Below.refl _ _) rfl
        | _ + 17, h => exact absurd h (by omega)
      · intro vals w5 hb hR
        have v0 := hR 0 (by omega)
        have v1 := hR 1 (by omega)
        have v2 := hR 2 (by omega)
        have v3 := hR 3 (by omega)
        have v4 := hR 4 (by omega)
        have v5 := hR 5 (by omega)
        have v6 := hR 6 (by omega)
        have v7 := hR 7 (by omega)
        have v8 := hR 8 (by omega)
        have v9 := hR 9 (by omega)
        have v10 := hR 10 (by omega)
        have v11 := hR 11 (by omega)
        have v12 := hR 12 (by omega)
        have v13 := hR 13 (by omega)
        have v14 := hR 14 (by omega)
        have v15 := hR 15 (by omega)
        have v16 := hR 16 (by omega)
        simp only [leaveLB] at v0 v1 v2 v3 v4 v5 v6 v7 v8 v9 v10 v11 v12 v13 v14 v15 v16
        clear hR
        simp only [putAll, slotLB, Nat.reduceAdd, List.setIfInBounds_toArray, List.set_cons_zero, List.set_cons_succ, List.drop_succ_cons, List.drop_zero, v0, v1, v2, v3, v4, v5, v6, v7, v8, v9, v10, v11, v12, v13, v14, v15, v16]
        clear v0 v1 v2 v3 v4 v5 v6 v7 v8 v9 v10 v11 v12 v13 v14 v15 v16
        have HB5 := Lib.hid (HB4.out.trans (hb.mono HB4.out.size))
        have KX5 := Lib.hid (KX.out.below hb KX.out.lt)
        obtain ⟨x0, x1, -⟩ := ino_cells2 KX5.out
        clear hb HK KX HB4
        rcases (show x < 1 ∨ (1 ≤ x ∧ 2147483647 < x) ∨ (1 ≤ x ∧ x ≤ 2147483647) by omega) with r1 | ⟨r1, r2⟩ | ⟨r1, r2⟩
        · have TOK : toOk x bs = false := toOk_low (by omega)
          obtain rfl : E = 1 := by rw [← HE.out, toQ, TOK]; rfl
          obtain rfl : X = ⟨0, 0⟩ := by rw [← HX.out, toP, TOK]; rfl
          simp only at x0 x1
          go_wp2_with fail
          refine (awakeI_any _ (HT.out.up HB5.out)).mono ?_
          rintro e w7 ⟨rfl, hb7⟩
          have HB7 := Lib.hid (HB5.out.trans (hb7.mono HB5.out.size))
          clear hb7
          go_wp2
          go_ret
          exact ⟨rfl, HB7.out⟩
        · have TOK : toOk x bs = false := toOk_low (by omega)
          obtain rfl : E = 1 := by rw [← HE.out, toQ, TOK]; rfl
          obtain rfl : X = ⟨0, 0⟩ := by rw [← HX.out, toP, TOK]; rfl
          simp only at x0 x1
          go_wp2_with fail
          refine (awakeI_any _ (HT.out.up HB5.out)).mono ?_
          rintro e w7 ⟨rfl, hb7⟩
          have HB7 := Lib.hid (HB5.out.trans (hb7.mono HB5.out.size))
          clear hb7
          go_wp2
          go_ret
          exact ⟨rfl, HB7.out⟩
        · have TOK : toOk x bs = false := toOk_len (by rw [HKL.out]; exact HKN.out)
          have hne : ((k : Int) == 128) = false := HKF.out
          have d1 : decide (x < 1) = false := decide_eq_false (by omega)
          have d2 : decide (2147483647 < x) = false := decide_eq_false (by omega)
          obtain rfl : E = 1 := by rw [← HE.out, toQ, TOK]; rfl
          obtain rfl : X = ⟨0, 0⟩ := by rw [← HX.out, toP, TOK]; rfl
          simp only at x0 x1
          go_wp2_with fail
          refine (awakeI_any _ (HT.out.up HB5.out)).mono ?_
          rintro e w7 ⟨rfl, hb7⟩
          have HB7 := Lib.hid (HB5.out.trans (hb7.mono HB5.out.size))
          clear hb7
          go_wp2
          go_ret
          exact ⟨rfl, HB7.out⟩
  · obtain rfl : t = false := by rw [← HPB.out, ptsB, decide_eq_false ha, Bool.false_and]
    refine wp_region_tail (by kernel_rfl) 17 77 slotLA waitLA (leaveLA w.heap.size p.at_ p.sum A k c s false) rfl
      (by kernel_rfl) (fun i v w w' _ _ h => by unfold leaveLA at *; split at h <;> exact h) ?_ ?_
    · intro i hi
      match i, hi with
      | 0, _ =>
        intro o ho a wc hk hb hd K hK
        cases ho
        have e0 := hk.rest 5 (.pointer (some ⟨w.heap.size, 0, none⟩)) (by omega) (by kernel_rfl) rfl
        rw [Array.getD_eq_getD_getElem?] at e0
        obtain ⟨c0, c1, -⟩ := ino_cells2 (HK.out _ hb)
        go_simp
        exact hK _ _ (Below.refl _ _) rfl
      | 1, _ =>
        intro o ho a wc hk hb hd K hK
        cases ho
        have e0 := hk.rest 1 (.slice A k c) (by omega) (by kernel_rfl) rfl
        rw [Array.getD_eq_getD_getElem?] at e0
        go_simp
        exact hK _ _ (Below.refl _ _) rfl
      | 2, _ =>
        intro o ho a wc hk hb hd K hK
        cases ho
        have e0 := hd 0 (by simp [waitLA])
        have e1 := hd 1 (by simp [waitLA])
        simp only [leaveLA, slotLA, Nat.reduceAdd, Array.getD_eq_getD_getElem?] at e0 e1
        go_simp
        refine (HPT.out wc (HB4.out.trans (hb.mono HB4.out.size))).mono ?_
        rintro e w9 ⟨rfl, hw9⟩
        exact hK _ _ hw9 rfl
      | 3, _ =>
        intro o ho a wc hk hb hd K hK
        cases ho
        have e0 := hk.rest 5 (.pointer (some ⟨w.heap.size, 0, none⟩)) (by omega) (by kernel_rfl) rfl
        rw [Array.getD_eq_getD_getElem?] at e0
        go_simp
        exact hK _ _ (Below.refl _ _) rfl
      | 4, _ =>
        intro o ho a wc hk hb hd K hK
        cases ho
        have e0 := hd 3 (by simp [waitLA])
        simp only [leaveLA, slotLA, Nat.reduceAdd, Array.getD_eq_getD_getElem?] at e0
        obtain ⟨c0, c1, -⟩ := ino_cells2 (HK.out _ hb)
        go_simp
        exact hK _ _ (Below.refl _ _) rfl
      | 5, _ =>
        intro o ho a wc hk hb hd K hK
        cases ho
        have e0 := hd 4 (by simp [waitLA])
        simp only [leaveLA, slotLA, Nat.reduceAdd, Array.getD_eq_getD_getElem?] at e0
        go_simp
        exact hK _ _ (Below.refl _ _) (by show Value.bool _ = Value.bool _; first | rfl | rw [decide_eq_false (by omega)])
      | 6, _ =>
        intro o ho a wc hk hb hd K hK
        cases ho
        have e0 := hd 5 (by simp [waitLA])
        simp only [leaveLA, slotLA, Nat.reduceAdd, Array.getD_eq_getD_getElem?] at e0
        go_simp
        exact hK _ _ (Below.refl _ _) rfl
      | 7, _ =>
        intro o ho a wc hk hb hd K hK
        cases ho
        have e0 := hk.rest 1 (.slice A k c) (by omega) (by kernel_rfl) rfl
        rw [Array.getD_eq_getD_getElem?] at e0
        have e1 := hd 6 (by simp [waitLA])
        simp only [leaveLA, slotLA, Nat.reduceAdd, Array.getD_eq_getD_getElem?] at e1
        have gs := hk.some_ (s := 27) (by omega) e1
        go_simp
        exact hK _ _ (Below.refl _ _) rfl
      | 8, _ =>
        intro o ho a wc hk hb hd K hK
        cases ho
        have e0 := hd 6 (by simp [waitLA])
        have e1 := hd 7 (by simp [waitLA])
        simp only [leaveLA, slotLA, Nat.reduceAdd, Array.getD_eq_getD_getElem?] at e0 e1
        have gs := hk.some_ (s := 27) (by omega) e0
        go_simp
        exact hK _ _ (Below.refl _ _) rfl
      | 9, _ =>
        intro o ho a wc hk hb hd K hK
        cases ho
        have e0 := hd 6 (by simp [waitLA])
        have e1 := hd 8 (by simp [waitLA])
        simp only [leaveLA, slotLA, Nat.reduceAdd, Array.getD_eq_getD_getElem?] at e0 e1
        have gs := hk.some_ (s := 27) (by omega) e0
        go_simp
        exact hK _ _ (Below.refl _ _) rfl
      | 10, _ =>
        intro o ho a wc hk hb hd K hK
        cases ho
        have e0 := hd 6 (by simp [waitLA])
        have e1 := hd 9 (by simp [waitLA])
        simp only [leaveLA, slotLA, Nat.reduceAdd, Array.getD_eq_getD_getElem?] at e0 e1
        go_simp
        exact hK _ _ (Below.refl _ _) rfl
      | 11, _ =>
        intro o ho a wc hk hb hd K hK
        cases ho
        have e0 := hd 10 (by simp [waitLA])
        simp only [leaveLA, slotLA, Nat.reduceAdd, Array.getD_eq_getD_getElem?] at e0
        go_simp
        exact hK _ _ (Below.refl _ _) rfl
      | 12, _ =>
        intro o ho a wc hk hb hd K hK
        cases ho
        have e0 := hk.rest 5 (.pointer (some ⟨w.heap.size, 0, none⟩)) (by omega) (by kernel_rfl) rfl
        rw [Array.getD_eq_getD_getElem?] at e0
        have e1 := hd 11 (by simp [waitLA])
        simp only [leaveLA, slotLA, Nat.reduceAdd, Array.getD_eq_getD_getElem?] at e1
        have gs := hk.some_ (s := 32) (by omega) e1
        go_simp
        exact hK _ _ (Below.refl _ _) rfl
      | 13, _ =>
        intro o ho a wc hk hb hd K hK
        cases ho
        have e0 := hd 11 (by simp [waitLA])
        have e1 := hd 12 (by simp [waitLA])
        simp only [leaveLA, slotLA, Nat.reduceAdd, Array.getD_eq_getD_getElem?] at e0 e1
        have gs := hk.some_ (s := 32) (by omega) e0
        go_simp
        exact hK _ _ (Below.refl _ _) rfl
      | 14, _ =>
        intro o ho a wc hk hb hd K hK
        cases ho
        have e0 := hk.rest 9 (.int .u32 (s : Int)) (by omega) (by kernel_rfl) rfl
        rw [Array.getD_eq_getD_getElem?] at e0
        have e1 := hd 11 (by simp [waitLA])
        simp only [leaveLA, slotLA, Nat.reduceAdd, Array.getD_eq_getD_getElem?] at e1
        have gs := hk.some_ (s := 32) (by omega) e1
        go_simp
        exact hK _ _ (Below.refl _ _) rfl
      | 15, _ =>
        intro o ho a wc hk hb hd K hK
        cases ho
        have e0 := hd 11 (by simp [waitLA])
        have e1 := hd 13 (by simp [waitLA])
        have e2 := hd 14 (by simp [waitLA])
        simp only [leaveLA, slotLA, Nat.reduceAdd, Array.getD_eq_getD_getElem?] at e0 e1 e2
        have gs := hk.some_ (s := 32) (by omega) e0
        go_simp
        exact hK _ _ (Below.refl _ _) rfl
      | 16, _ =>
        intro o ho a wc hk hb hd K hK
        cases ho
        have e0 := hd 11 (by simp [waitLA])
        have e1 := hd 15 (by simp [waitLA])
        simp only [leaveLA, slotLA, Nat.reduceAdd, Array.getD_eq_getD_getElem?] at e0 e1
        go_simp
        exact hK _ _ (Below.refl _ _) rfl
      | _ + 17, h => exact absurd h (by omega)
    · intro vals w5 hb hR
      have v0 := hR 0 (by omega)
      have v1 := hR 1 (by omega)
      have v2 := hR 2 (by omega)
      have v3 := hR 3 (by omega)
      have v4 := hR 4 (by omega)
      have v5 := hR 5 (by omega)
      have v6 := hR 6 (by omega)
      have v7 := hR 7 (by omega)
      have v8 := hR 8 (by omega)
      have v9 := hR 9 (by omega)
      have v10 := hR 10 (by omega)
      have v11 := hR 11 (by omega)
      have v12 := hR 12 (by omega)
      have v13 := hR 13 (by omega)
      have v14 := hR 14 (by omega)
      have v15 := hR 15 (by omega)
      have v16 := hR 16 (by omega)
      simp only [leaveLA] at v0 v1 v2 v3 v4 v5 v6 v7 v8 v9 v10 v11 v12 v13 v14 v15 v16
      clear hR
      simp only [putAll, slotLA, Nat.reduceAdd, List.setIfInBounds_toArray, List.set_cons_zero, List.set_cons_succ, List.drop_succ_cons, List.drop_zero, v0, v1, v2, v3, v4, v5, v6, v7, v8, v9, v10, v11, v12, v13, v14, v15, v16]
      clear v0 v1 v2 v3 v4 v5 v6 v7 v8 v9 v10 v11 v12 v13 v14 v15 v16
      have HB5 := Lib.hid (HB4.out.trans (hb.mono HB4.out.size))
      have KX5 := Lib.hid (KX.out.below hb KX.out.lt)
      obtain ⟨x0, x1, -⟩ := ino_cells2 KX5.out
      clear hb HK KX HB4
      rcases (show x < 1 ∨ (1 ≤ x ∧ 2147483647 < x) ∨ (1 ≤ x ∧ x ≤ 2147483647) by omega) with r1 | ⟨r1, r2⟩ | ⟨r1, r2⟩
      · have TOK : toOk x bs = false := toOk_low (by omega)
        obtain rfl : E = 1 := by rw [← HE.out, toQ, TOK]; rfl
        obtain rfl : X = ⟨0, 0⟩ := by rw [← HX.out, toP, TOK]; rfl
        simp only at x0 x1
        go_wp2_with fail
        refine (awakeI_any _ (HT.out.up HB5.out)).mono ?_
        rintro e w7 ⟨rfl, hb7⟩
        have HB7 := Lib.hid (HB5.out.trans (hb7.mono HB5.out.size))
        clear hb7
        go_wp2
        go_ret
        exact ⟨rfl, HB7.out⟩
      · have TOK : toOk x bs = false := toOk_low (by omega)
        obtain rfl : E = 1 := by rw [← HE.out, toQ, TOK]; rfl
        obtain rfl : X = ⟨0, 0⟩ := by rw [← HX.out, toP, TOK]; rfl
        simp only at x0 x1
        go_wp2_with fail
        refine (awakeI_any _ (HT.out.up HB5.out)).mono ?_
        rintro e w7 ⟨rfl, hb7⟩
        have HB7 := Lib.hid (HB5.out.trans (hb7.mono HB5.out.size))
        clear hb7
        go_wp2
        go_ret
        exact ⟨rfl, HB7.out⟩
      · by_cases hk : k = 128
        · subst hk
          have TOK : toOk x bs = true := toOk_yes ⟨r1, r2⟩ HKL.out
          obtain rfl : E = 0 := by rw [← HE.out, toQ, TOK]; rfl
          obtain rfl : X = ⟨x, s⟩ := by rw [← HX.out, toP, TOK, HS.out]; rfl
          simp only at x0 x1
          go_wp2_with fail
          refine (inoPoints_any ⟨x, s⟩ A 128 c bs true w5 HKL.out (by omega) ((HR.out.below HB5.out).mono HB5.out.size) (HT.out.up HB5.out) HSL.out (by simp [ptsB, HKL.out, HS.out]; omega)).mono ?_
          rintro e w6 ⟨rfl, hb6⟩
          have HB6 := Lib.hid (HB5.out.trans (hb6.mono HB5.out.size))
          clear hb6
          go_wp2_with fail
          refine (awakeI_any _ (HT.out.up HB6.out)).mono ?_
          rintro e w7 ⟨rfl, hb7⟩
          have HB7 := Lib.hid (HB6.out.trans (hb7.mono HB6.out.size))
          clear hb7
          go_wp2
          go_ret
          exact ⟨rfl, HB7.out⟩
        · have TOK : toOk x bs = false := toOk_len (by rw [HKL.out]; exact hk)
          have hne : ((k : Int) == 128) = false := by simp; omega
          have d1 : decide (x < 1) = false := decide_eq_false (by omega)
          have d2 : decide (2147483647 < x) = false := decide_eq_false (by omega)
          clear hk
          obtain rfl : E = 1 := by rw [← HE.out, toQ, TOK]; rfl
          obtain rfl : X = ⟨0, 0⟩ := by rw [← HX.out, toP, TOK]; rfl
          simp only at x0 x1
          go_wp2_with fail
          refine (awakeI_any _ (HT.out.up HB5.out)).mono ?_
          rintro e w7 ⟨rfl, hb7⟩
          have HB7 := Lib.hid (HB5.out.trans (hb7.mono HB5.out.size))
          clear hb7
          go_wp2
          go_ret
          exact ⟨rfl, HB7.out⟩

set_option maxRecDepth 100000 in
theorem lifted (os : Os) (started : os.Started) (H : Type) (enc : TypeId × Value → H) :
    ReturnsInHanded {} Tryd.checked os 6 .any (fun w args => (Rows.inodePointsSpec.pre enc Tryd.prog Tryd.f6 [] false w args ∧ laidMetH Tryd.prog laidHalves w) ∧ sizedMet enc Tryd.prog Tryd.f6 (OpenSpec.ofChange Rows.inodePointsSpec) false w args) (Rows.inodePointsSpec.post enc Tryd.prog Tryd.f6 false true false false) := by
  refine returnsInHanded_of_change_and (C := Tryd.checked) (X := fun w _ => laidMetH Tryd.prog laidHalves w) (fun _ _ _ hh h => h.of_heap hh) own started (by kernel_rfl) Tryd.func6
    (ChangeSpec.witness_shaped (enc := enc) (C := Tryd.checked) (os := os) (X := fun w _ => laidMetH Tryd.prog laidHalves w) false (World.doorLaid Tryd.prog 400 os) #[.int .i64 0, .slice none 0 0, .agg #[.int .i64 0, .int .u32 0]] 8 rfl (World.shaped_of_RefB (by kernel_rfl) (by kernel_rfl)) (by kernel_rfl) (by kernel_rfl) (by kernel_rfl) (door_met os _)) ?_
  intro W base args ds gs before hval0 hW _ _ hL _
  have hTab := tab_of_laid hL
  have hval : ∀ (j : Nat) t v, Tryd.f6.params[j]? = some t → args[j]? = some v → Value.okWide Tryd.prog W .any base t v := hval0
  have hW' := hW
  obtain ⟨p, q, hA0, hV, rfl, hfz, hnd⟩ := hW
  have hA : DataW.TrodAll enc Tryd.prog W 0 (fun _ => true) true Tryd.f6.params.toList args.toList ds p := hA0
  rw [Tryd.params6] at hA hval
  obtain ⟨v0, vs0, d0, ds0, p0, q0, hargs, rfl, rfl, h0, r0⟩ := trodAll_cons hA
  obtain ⟨v1, vs1, d1, ds1, p1, q1, rfl, rfl, rfl, h1, r1⟩ := trodAll_cons r0
  obtain ⟨v2, vs2, d2, ds2, p2, q2, rfl, rfl, rfl, h2, r2⟩ := trodAll_cons r1
  obtain ⟨rfl, rfl, rfl⟩ := trodAll_nil r2
  obtain rfl : args = #[v0, v1, v2] := by cases args; simp_all
  obtain ⟨rfl, rfl⟩ := trodVars_none hV
  obtain ⟨x0, rfl, rfl, rfl, wx0⟩ := open_int Tryd.underlying3 (hval 0 3 v0 rfl rfl) h0
  have hx0 := bounds_i64 wx0
  obtain ⟨a1, len1, cap1, rfl⟩ := okWide_slice Tryd.underlying28 (hval 1 28 v1 rfl rfl)
  have lt1 : ∀ x ∈ p1, x.block < W.heap.size := by obtain ⟨m, hm⟩ := h1; exact DataW.trod_lt m _ _ _ hm
  obtain ⟨x1, rfl, hc1, hm1, hr1⟩ := bytes_in Tryd.underlying28 Tryd.underlying5 (by kernel_rfl) h1
  have lt2 : ∀ x ∈ p2, x.block < W.heap.size := by obtain ⟨m, hm⟩ := h2; exact DataW.trod_lt m _ _ _ hm
  obtain ⟨y2_0, hi2, rfl⟩ := ptr_in (hval 2 24 v2 rfl rfl) h2
  clear hA0 hval0
  refine (walk x0 a1 _ cap1 x1 y2_0 W rfl hc1 hm1 hr1 hx0.1 hx0.2 hi2 hTab).mono fun e W' ⟨he, bel⟩ => ?_
  subst he
  exact ⟨_, rfl, _, _, _, [], _, [], hW', trodAll_mk1 (shut_bool Tryd.underlying4 _), (trodAll_cons_mk (shut_int Tryd.underlying3 wx0) (trodAll_cons_mk (Below.trod laidOut (by kernel_rfl) (of_decide_eq_true (by kernel_rfl)) h1 bel lt1) (trodAll_cons_mk (Below.trod laidOut (by kernel_rfl) (of_decide_eq_true (by kernel_rfl)) h2 bel lt2) trodAll_mk0))), rfl, bel.frame _, fun h => by cases h⟩

theorem over : Rows.inodePointsRow.holds Tryd.pinned (OpenSpec.ofChange Rows.inodePointsSpec) :=
  OpenClaim.holds_of_wide 6 Tryd.f6 rfl rfl rfl rfl rfl rfl rfl ⟨rfl, rfl, rfl, rfl, rfl⟩ rfl rfl rfl rfl rfl (by kernel_rfl) Tryd.func6 (by kernel_rfl)
    (of_decide_eq_true (by kernel_rfl)) (by unfold Func.isWrapper; first | (rw [if_pos (by decide +kernel)]; kernel_rfl) | (rw [if_neg (by decide +kernel)]; exact ⟨rfl, rfl⟩))
    (fun os started H enc _ => lifted os started H enc)

theorem proved : Rows.InodePointsCardSaid :=
  Claim7.holds_tied_plain_at .later [] [.data] true _ false
    over (fun _ h => by cases h) (by kernel_rfl) (fun _ h => by cases h) inodePoints_row_tie rfl ⟨rfl, rfl⟩ (by kernel_rfl) rfl
    (fun f fn hf hfn => by
      obtain rfl : f = 6 := Option.some.inj ((show Tryd.prog.funcNamed "haymow/haymowlaw07.InodePoints" = some 6 by kernel_rfl).symm.trans hf) |>.symm
      obtain rfl : fn = Tryd.f6 := (Option.some.inj (Tryd.func6.symm.trans hfn)).symm
      exact ⟨by kernel_rfl, fun j t ht => by
        rw [Tryd.params6] at ht
        have hm : t ∈ [3, 28, 24] := by simpa using Array.mem_of_getElem? ht
        have hall : ([3, 28, 24].all fun u => !Tryd.prog.wantsStandIn u) = true := by kernel_rfl
        exact (show Tryd.prog.wantsStandIn t = false by simpa using List.all_eq_true.1 hall t hm)⟩)
    (by kernel_rfl)
#print axioms proved
end Go.Proofs.YtjhnabhieihifaaDoor.inodePoints
