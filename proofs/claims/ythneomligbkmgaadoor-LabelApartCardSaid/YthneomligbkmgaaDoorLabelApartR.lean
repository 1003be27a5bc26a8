/-
  Two geometries and two pairs of small numbers, taken apart into blocks of their own, in whatever order.
-/
import Derived.Test.YthneomligbkmgaaDoorRegSt
import Derived.Test.YthneomligbkmgaaDoorLabel3
namespace Go.Proofs.YthneomligbkmgaaDoor
open Go.RowKit
set_option linter.unusedVariables false

def apT (i : Nat) : TypeId := if i < 10 then 23 else 45
def apZ (i : Nat) : Array Value := if i < 10 then #[.int .i64 0, .int .i64 0, .int .i64 0, .int .i64 0] else #[.int .u16 0, .int .u16 0]
/-- what holds while they are taken apart -/
structure ApJ (w0 : World) (V : Nat → Value) (C : Nat → Array Value) (L : Nat → Bool) (vals : Nat → Value) (w : World) : Prop where
  below : Below w0.heap.size w0 w
  val : ∀ j, j < 8 → L j = true → vals j = V j
  blk : ∀ j, 8 ≤ j → j < 12 → L j = true → ∃ g, vals j = .pointer (some ⟨g, 0, none⟩) ∧ w0.heap.size ≤ g ∧ Bk w g (apT j) (if L (j + 4) then C j else apZ j)
  apart : ∀ i j g, 8 ≤ i → i < 12 → 8 ≤ j → j < 12 → i ≠ j → L i = true → L j = true → vals i = .pointer (some ⟨g, 0, none⟩) → vals j ≠ .pointer (some ⟨g, 0, none⟩)
section
variable {w0 : World} {V : Nat → Value} {C : Nat → Array Value} {L : Nat → Bool} {vals : Nat → Value} {w : World}
theorem ApJ.plain (h : ApJ w0 V C L vals w) (i : Nat) (hi : i < 8) : ApJ w0 V C (setL L i) (setV vals i (V i)) w := by
  refine ⟨h.below, fun j hj hl => ?_, fun j h8 h12 hl => ?_, fun j k g a1 a2 a3 a4 a5 l1 l2 e => ?_⟩
  · by_cases e : j = i
    · subst e; rw [setV_same]
    · rw [setV_other _ _ e]; rw [setL_other _ e] at hl; exact h.val j hj hl
  · rw [setV_other _ _ (by omega), setL_other _ (by omega)]
    rw [setL_other _ (by omega)] at hl
    exact h.blk j h8 h12 hl
  · rw [setV_other _ _ (by omega)] at e ⊢
    rw [setL_other _ (by omega)] at l1 l2
    exact h.apart j k g a1 a2 a3 a4 a5 l1 l2 e
theorem ApJ.alloc (h : ApJ w0 V C L vals w) (i : Nat) (h8 : 8 ≤ i) (h12 : i < 12) (h4 : L (i + 4) = false) : ApJ w0 V C (setL L i) (setV vals i (.pointer (some ⟨w.heap.size, 0, none⟩))) (w.alloc (.cells (apZ i) (apT i))) := by
  refine ⟨h.below.alloc h.below.size _, fun j hj hl => ?_, fun j j8 j12 hl => ?_, fun j k g a1 a2 a3 a4 a5 l1 l2 e => ?_⟩
  · rw [setV_other _ _ (by omega)]; rw [setL_other _ (by omega)] at hl; exact h.val j hj hl
  · rw [setL_other _ (show j + 4 ≠ i by omega)]
    by_cases e : j = i
    · subst e
      rw [setV_same, h4]
      exact ⟨_, rfl, h.below.size, Bk.new w _ _⟩
    · rw [setV_other _ _ e]
      rw [setL_other _ e] at hl
      obtain ⟨g, e1, e2, e3⟩ := h.blk j j8 j12 hl
      exact ⟨g, e1, e2, e3.alloc _⟩
  · by_cases e1 : j = i
    · subst e1
      rw [setV_same] at e
      rw [setV_other _ _ (Ne.symm a5)]
      rw [setL_other _ (Ne.symm a5)] at l2
      injection e with e
      injection e with e
      injection e with e
      subst e
      intro e2
      obtain ⟨g', e3, _, e5⟩ := h.blk k a3 a4 l2
      rw [e2] at e3
      injection e3 with e3
      injection e3 with e3
      injection e3 with e3
      have := e5.lt
      omega
    · rw [setV_other _ _ e1] at e
      rw [setL_other _ e1] at l1
      by_cases e2 : k = i
      · subst e2
        rw [setV_same]
        intro e3
        injection e3 with e3
        injection e3 with e3
        injection e3 with e3
        obtain ⟨g', e4, _, e5⟩ := h.blk j a1 a2 l1
        rw [e] at e4
        injection e4 with e4
        injection e4 with e4
        injection e4 with e4
        have := e5.lt
        omega
      · rw [setV_other _ _ e2]
        rw [setL_other _ e2] at l2
        exact h.apart j k g a1 a2 a3 a4 a5 l1 l2 e
theorem ApJ.store (h : ApJ w0 V C L vals w) (i : Nat) (h8 : 8 ≤ i) (h12 : i < 12) (hl : L i = true) (g : Nat) (hv : vals i = .pointer (some ⟨g, 0, none⟩)) {w' : World} (hb' : Bk w' g (apT i) (C i)) (hfar : ∀ g' t cs, g' ≠ g → Bk w g' t cs → Bk w' g' t cs) (hbl : Below w0.heap.size w0 w') (v : Value) : ApJ w0 V C (setL L (i + 4)) (setV vals (i + 4) v) w' := by
  refine ⟨hbl, fun j hj hl => ?_, fun j j8 j12 hl' => ?_, fun j k g a1 a2 a3 a4 a5 l1 l2 e => ?_⟩
  · rw [setV_other _ _ (by omega)]; rw [setL_other _ (by omega)] at hl; exact h.val j hj hl
  · rw [setV_other _ _ (by omega)]
    rw [setL_other _ (by omega)] at hl'
    obtain ⟨g2, e1, e2, e3⟩ := h.blk j j8 j12 hl'
    refine ⟨g2, e1, e2, ?_⟩
    by_cases e : j = i
    · subst e
      rw [hv] at e1
      injection e1 with e1
      injection e1 with e1
      injection e1 with e1
      subst e1
      rw [setL_same, if_pos rfl]
      exact hb'
    · rw [setL_other _ (show j + 4 ≠ i + 4 by omega)]
      refine hfar g2 _ _ (fun e4 => ?_) e3
      subst e4
      exact h.apart j i g2 j8 j12 h8 h12 e hl' hl e1 hv
  · rw [setV_other _ _ (by omega)] at e ⊢
    rw [setL_other _ (by omega)] at l1 l2
    exact h.apart j k g a1 a2 a3 a4 a5 l1 l2 e
end
theorem Slots.vs {a0 a : Act} {n N : Nat} {D : Nat → Nat} {L : Nat → Bool} {vals : Nat → Value} (hs : Slots a0 n N D L vals a) (j s : Nat) (v : Value) (hl : L j = true) (hj : j < n) (hD : D j = s) (hN : s < N) (hv : vals j = v) : a.tmps[s]? = some v := by
  subst hD; subst hv
  exact some_of_getD hs.size hN (hs.own j hj hl hN)
def apW : Nat → List Nat
  | 1 => [0] | 3 => [2] | 5 => [4] | 7 => [6] | 12 => [1, 8] | 13 => [3, 9] | 14 => [5, 10] | 15 => [7, 11]
  | _ => []
theorem two_puts' {w : World} {g : Nat} {t : TypeId} {x y : Value} (h : Bk w g t #[x, y]) (u v : Value) : Bk ((w.setCell ⟨g, 0, none⟩ u).setCell ⟨g, 1, none⟩ v) g t #[u, v] := (h.set_ 0 u).set_ 1 v
end Go.Proofs.YthneomligbkmgaaDoor
