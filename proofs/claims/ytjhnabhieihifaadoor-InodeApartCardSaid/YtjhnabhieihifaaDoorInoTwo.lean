/-
  Two inodes taken into blocks of their own, beside other values, in whatever order: what holds while it goes on.
-/
import Derived.Test.YtjhnabhieihifaaDoorRegSt
import Derived.Test.YtjhnabhieihifaaDoorInoEq
namespace Go.Proofs.YtjhnabhieihifaaDoor
open Go.RowKit
set_option linter.unusedVariables false

/-- what holds while they are taken apart: operations 10, 11 make the blocks, 13, 14 store into them -/
structure IaJ (w0 : World) (V : Nat → Value) (C : Nat → Array Value) (L : Nat → Bool) (vals : Nat → Value) (w : World) : Prop where
  below : Below w0.heap.size w0 w
  val : ∀ j, j < 17 → j ≠ 10 → j ≠ 11 → j ≠ 13 → j ≠ 14 → L j = true → vals j = V j
  blk : ∀ j, 10 ≤ j → j < 12 → L j = true → ∃ g, vals j = .pointer (some ⟨g, 0, none⟩) ∧ w0.heap.size ≤ g ∧ Bk w g 27 (if L (j + 3) then C j else inoC noI)
  apart : ∀ i j g, 10 ≤ i → i < 12 → 10 ≤ j → j < 12 → i ≠ j → L i = true → L j = true → vals i = .pointer (some ⟨g, 0, none⟩) → vals j ≠ .pointer (some ⟨g, 0, none⟩)
section
variable {w0 : World} {V : Nat → Value} {C : Nat → Array Value} {L : Nat → Bool} {vals : Nat → Value} {w : World}
theorem IaJ.plain (h : IaJ w0 V C L vals w) (i : Nat) (hi : i < 17) (i1 : i ≠ 10) (i2 : i ≠ 11) (i3 : i ≠ 13) (i4 : i ≠ 14) : IaJ w0 V C (setL L i) (setV vals i (V i)) w := by
  refine ⟨h.below, fun j hj j1 j2 j3 j4 hl => ?_, fun j h8 h12 hl => ?_, fun j k g a1 a2 a3 a4 a5 l1 l2 e => ?_⟩
  · by_cases e : j = i
    · subst e; rw [setV_same]
    · rw [setV_other _ _ e]; rw [setL_other _ e] at hl; exact h.val j hj j1 j2 j3 j4 hl
  · rw [setV_other _ _ (by omega), setL_other _ (by omega)]
    rw [setL_other _ (by omega)] at hl
    exact h.blk j h8 h12 hl
  · rw [setV_other _ _ (by omega)] at e ⊢
    rw [setL_other _ (by omega)] at l1 l2
    exact h.apart j k g a1 a2 a3 a4 a5 l1 l2 e
theorem IaJ.plainE (h : IaJ w0 V C L vals w) (i : Nat) (v : Value) (hi : i < 17) (i1 : i ≠ 10) (i2 : i ≠ 11) (i3 : i ≠ 13) (i4 : i ≠ 14) (hv : V i = v) : IaJ w0 V C (setL L i) (setV vals i v) w := by
  rw [← hv]; exact h.plain i hi i1 i2 i3 i4
theorem IaJ.alloc (h : IaJ w0 V C L vals w) (i : Nat) (h8 : 10 ≤ i) (h12 : i < 12) (h4 : L (i + 3) = false) : IaJ w0 V C (setL L i) (setV vals i (.pointer (some ⟨w.heap.size, 0, none⟩))) (w.alloc (.cells (inoC noI) 27)) := by
  refine ⟨h.below.alloc h.below.size _, fun j hj j1 j2 j3 j4 hl => ?_, fun j j8 j12 hl => ?_, fun j k g a1 a2 a3 a4 a5 l1 l2 e => ?_⟩
  · rw [setV_other _ _ (by omega)]; rw [setL_other _ (by omega)] at hl; exact h.val j hj j1 j2 j3 j4 hl
  · rw [setL_other _ (show j + 3 ≠ i by omega)]
    by_cases e : j = i
    · subst e
      rw [setV_same, h4]
      exact ⟨_, rfl, h.below.size, Bk.new w _ _⟩
    · rw [setV_other _ _ e]
      rw [setL_other _ e] at hl
      obtain ⟨g, e1, e2, e3⟩ := h.blk j j8 j12 hl
      exact ⟨g, e1, e2, e3.alloc _⟩
  · by_cases e1 : j = i
    · subst e1
      rw [setV_same] at e
      rw [setV_other _ _ (Ne.symm a5)]
      rw [setL_other _ (Ne.symm a5)] at l2
      injection e with e
      injection e with e
      injection e with e
      subst e
      intro e2
      obtain ⟨g', e3, _, e5⟩ := h.blk k a3 a4 l2
      rw [e2] at e3
      injection e3 with e3
      injection e3 with e3
      injection e3 with e3
      have := e5.lt
      omega
    · rw [setV_other _ _ e1] at e
      rw [setL_other _ e1] at l1
      by_cases e2 : k = i
      · subst e2
        rw [setV_same]
        intro e3
        injection e3 with e3
        injection e3 with e3
        injection e3 with e3
        obtain ⟨g', e4, _, e5⟩ := h.blk j a1 a2 l1
        rw [e] at e4
        injection e4 with e4
        injection e4 with e4
        injection e4 with e4
        have := e5.lt
        omega
      · rw [setV_other _ _ e2]
        rw [setL_other _ e2] at l2
        exact h.apart j k g a1 a2 a3 a4 a5 l1 l2 e
theorem IaJ.store (h : IaJ w0 V C L vals w) (i : Nat) (h8 : 10 ≤ i) (h12 : i < 12) (hl : L i = true) (g : Nat) (hv : vals i = .pointer (some ⟨g, 0, none⟩)) {w' : World} (hb' : Bk w' g 27 (C i)) (hfar : ∀ g' t cs, g' ≠ g → Bk w g' t cs → Bk w' g' t cs) (hbl : Below w0.heap.size w0 w') (v : Value) : IaJ w0 V C (setL L (i + 3)) (setV vals (i + 3) v) w' := by
  refine ⟨hbl, fun j hj j1 j2 j3 j4 hl => ?_, fun j j8 j12 hl' => ?_, fun j k g a1 a2 a3 a4 a5 l1 l2 e => ?_⟩
  · rw [setV_other _ _ (by omega)]; rw [setL_other _ (by omega)] at hl; exact h.val j hj j1 j2 j3 j4 hl
  · rw [setV_other _ _ (by omega)]
    rw [setL_other _ (by omega)] at hl'
    obtain ⟨g2, e1, e2, e3⟩ := h.blk j j8 j12 hl'
    refine ⟨g2, e1, e2, ?_⟩
    by_cases e : j = i
    · subst e
      rw [hv] at e1
      injection e1 with e1
      injection e1 with e1
      injection e1 with e1
      subst e1
      rw [setL_same, if_pos rfl]
      exact hb'
    · rw [setL_other _ (show j + 3 ≠ i + 3 by omega)]
      refine hfar g2 _ _ (fun e4 => ?_) e3
      subst e4
      exact h.apart j i g2 j8 j12 h8 h12 e hl' hl e1 hv
  · rw [setV_other _ _ (by omega)] at e ⊢
    rw [setL_other _ (by omega)] at l1 l2
    exact h.apart j k g a1 a2 a3 a4 a5 l1 l2 e
end
theorem Slots.vsI {a0 a : Act} {n N : Nat} {D : Nat → Nat} {L : Nat → Bool} {vals : Nat → Value} (hs : Slots a0 n N D L vals a) (j s : Nat) (v : Value) (hl : L j = true) (hj : j < n) (hD : D j = s) (hN : s < N) (hv : vals j = v) : a.tmps[s]? = some v := by
  subst hD; subst hv
  exact some_of_getD hs.size hN (hs.own j hj hl hN)
def iaW : Nat → List Nat
  | 1 => [0] | 3 => [2] | 5 => [4] | 7 => [6] | 9 => [8] | 12 => [1] | 13 => [3, 10] | 14 => [5, 11] | 15 => [7] | 16 => [9]
  | _ => []
def iaD (ix : Nat) : Nat := if ix < 10 then 17 + ix else if ix < 12 then ix - 6 else if ix = 12 then 3 else if ix < 15 then 100 + ix else ix - 9
theorem iaD_ne1 (ix : Nat) : iaD ix ≠ 1 := by unfold iaD; split <;> (try split) <;> (try split) <;> (try split) <;> omega
theorem iaD_apart (ix jx : Nat) (h1 : ix < 17) (h2 : jx < 17) (h : jx ≠ ix) : iaD jx ≠ iaD ix := by unfold iaD; split <;> split <;> (try split) <;> (try split) <;> (try split) <;> (try split) <;> (try split) <;> (try split) <;> omega

section
variable {o : Oper} {a : Act} {w : World} {K : Act → World → Prop} {Q : Exit → Act → World → Prop}
theorem wp_load_inoAt (y : Operand) (ho : o.op = .load 27 y) (g off : Nat) (x : Ino) (hy : a.eval y = .pointer (some ⟨g, off, none⟩)) (hp : x.p.length = 9) (hk : w.rangeAt g off (inoV x)) (h : K (a.put o.dst (.agg (inoC x))) w) : o.wp Tryd.prog a w K Q := by
  obtain ⟨d, hu, hd⟩ := und_ino
  exact wp_load_mid 27 y ho g off hy (inoV x) d hk hu hd (by rw [inf_ino]; simp [inoV, prsV_length, hp]) h
theorem wp_store_ino (y z : Operand) (ho : o.op = .store 27 y z) (g : Nat) (t : TypeId) (old : Array Value) (x : Ino) (hy : a.eval y = .pointer (some ⟨g, 0, none⟩)) (hz : a.eval z = .agg (inoC x)) (hp : x.p.length = 9) (hs : old.size = 23) (hk : Bk w g t old)
    (h : K (a.put o.dst undef) (w.setRow g (inoC x))) : o.wp Tryd.prog a w K Q :=
  wp_store_row 27 y z ho g (inoC x) hy hz t old hk (by rw [inf_ino, inoC_size x hp]) (by rw [hs, inoC_size x hp]) (inoC_one x) h
end
/-- Encode, whatever it answers -/
theorem encode_or (m : Int) (x : Ino) (t : Bool) (w : World) (hp : x.p.length = 9) (hm : 1 ≤ m ∧ m ≤ 39) (ht : inoOk x = t) (hs : prSums x.p) (hT : Tab w) :
    Calls Tryd.prog 8 #[.int .i64 m, .agg (inoC x)] w fun e w' => (∃ r E, e = .returned (.tuple #[r, .int .i64 E]) ∧ ((t = true ∧ E = 0 ∧ ∃ g, r = .slice (some ⟨g, 0, none⟩) 128 128 ∧ w.heap.size ≤ g ∧ Bk w' g 5 ((inoB m x).map bv).toArray) ∨ (t = false ∧ E = 1 ∧ r = .slice none 0 0))) ∧ Below w.heap.size w w' := by
  cases t with
  | true =>
    refine (inoEncode_yes m x w hp hm ht hs hT).mono ?_
    rintro e w' ⟨g, rfl, hg, hk, hb⟩
    exact ⟨⟨_, _, rfl, .inl ⟨rfl, rfl, g, rfl, hg, hk⟩⟩, hb⟩
  | false =>
    refine (inoEncode_no m x w hp (.inr ht)).mono ?_
    rintro e w' ⟨rfl, hb⟩
    exact ⟨⟨_, _, rfl, .inr ⟨rfl, rfl, rfl⟩⟩, hb⟩
/-- may the node be? -/
def nodOk (l : List Pr) : Bool := decide (l.length = 15) && l.all prOk
theorem nodOk_yes {l : List Pr} (h : nodOk l = true) : l.length = 15 ∧ l.all prOk = true := by rw [nodOk, Bool.and_eq_true, decide_eq_true_eq] at h; exact h
theorem node_or (A : Option Addr) (n c : Nat) (l : List Pr) (t : Bool) (w : World) (hl : l.length = n) (hn : n ≤ 20) (hr : Rd w w.heap.size A (prsV l)) (ht : nodOk l = t) (hs : prSums l) (hT : Tab w) :
    Calls Tryd.prog 19 #[.slice A n c] w fun e w' => (∃ r E, e = .returned (.tuple #[r, .int .i64 E]) ∧ ((t = true ∧ E = 0 ∧ ∃ g, r = .slice (some ⟨g, 0, none⟩) 128 128 ∧ w.heap.size ≤ g ∧ Bk w' g 5 ((nodB l).map bv).toArray) ∨ (t = false ∧ E = 1 ∧ r = .slice none 0 0))) ∧ Below w.heap.size w w' := by
  cases t with
  | true =>
    obtain ⟨h1, h2⟩ := nodOk_yes ht
    obtain rfl : n = 15 := hl.symm.trans h1
    refine (node_yes w.heap.size A c l w h1 hr (Nat.le_refl _) h2 hs hT).mono ?_
    rintro e w' ⟨g, rfl, hg, hk, hb⟩
    exact ⟨⟨_, _, rfl, .inl ⟨rfl, rfl, g, rfl, hg, hk⟩⟩, hb⟩
  | false =>
    have h : n ≠ 15 ∨ l.all prOk = false := by
      rw [nodOk, Bool.and_eq_false_iff, decide_eq_false_iff_not, hl] at ht
      exact ht
    refine (node_no w.heap.size A n c l w hl (by omega) hr (Nat.le_refl _) h).mono ?_
    rintro e w' ⟨rfl, hb⟩
    exact ⟨⟨_, _, rfl, .inr ⟨rfl, rfl, rfl⟩⟩, hb⟩
end Go.Proofs.YtjhnabhieihifaaDoor
