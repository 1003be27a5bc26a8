/-
  Lists of texts on memory; a cell of a row of one's own set, such a row cut short.
-/
import Derived.Test.YtlenfocdhchphaaMem2
import Derived.Test.YtlenfocdhchphaaPathMath
namespace Go.Proofs.Ytlenfocdhchphaa
open Go.RowKit
set_option linter.unusedVariables false

def strsV (l : List (List UInt8)) : List Value := l.map fun x => .string (str x)
theorem strsV_len (l : List (List UInt8)) : (strsV l).length = l.length := by simp [strsV]
theorem strsV_append (a b : List (List UInt8)) : strsV (a ++ b) = strsV a ++ strsV b := by simp [strsV]
theorem strsV_take (l : List (List UInt8)) (k : Nat) : strsV (l.take k) = (strsV l).take k := by simp [strsV, List.map_take]
theorem strsV_get {l : List (List UInt8)} {k : Nat} {x : List UInt8} (h : l[k]? = some x) : (strsV l)[k]? = some (.string (str x)) := by simp [strsV, h]
theorem strsV_one (l : List (List UInt8)) : ∀ u ∈ strsV l, u.oneCell' = true := by
  intro u hu
  obtain ⟨x, _, rfl⟩ := List.mem_map.1 hu
  rfl
/-- a slice of texts -/
def StrW (w : World) (l : List (List UInt8)) (v : Value) : Prop := ∃ A n c, v = .slice A n c ∧ l.length = n ∧ n ≤ c ∧ c ≤ maxLen ∧ Rd w w.heap.size A (strsV l)
theorem StrW.up {w w' : World} {l : List (List UInt8)} {v : Value} (h : StrW w l v) (hb : Below w.heap.size w w') : StrW w' l v := by
  obtain ⟨A, n, c, h0, h1, h2, h3, h4⟩ := h
  exact ⟨A, n, c, h0, h1, h2, h3, (h4.below hb).mono hb.size⟩
theorem StrW.own {w : World} {base e : Nat} {l : List (List UInt8)} {v : Value} {n : Nat} (h : w.ownsRow base e 1 v n (strsV l)) : StrW w l v := by
  obtain ⟨A, c, rfl, h1, h2⟩ := own_len h
  have := h.1
  rw [strsV_len] at this
  exact ⟨A, n, c, rfl, by omega, h1, h2, Rd.own h⟩
theorem StrW.nil_ (w : World) : StrW w [] (.slice none 0 0) := ⟨none, 0, 0, rfl, rfl, Nat.le_refl _, by unfold maxLen; omega, Rd.nil_⟩
theorem StrW.parts {w : World} {l : List (List UInt8)} {A : Option Addr} {n c : Nat} (h : StrW w l (.slice A n c)) : l.length = n ∧ n ≤ c ∧ c ≤ maxLen ∧ Rd w w.heap.size A (strsV l) := by
  obtain ⟨A', n', c', e, h1, h2, h3, h4⟩ := h
  injection e with e1 e2 e3
  subst e1 e2 e3
  exact ⟨h1, h2, h3, h4⟩
theorem strs_at {w : World} {B b o k : Nat} {l : List (List UInt8)} {x : List UInt8} (h : Rd w B (some ⟨b, o, none⟩) (strsV l)) (hx : l[k]? = some x) : w.cell? ⟨b, o + k, none⟩ = some (.string (str x)) := by
  obtain ⟨ad, e, _, hc⟩ := h _ _ (strsV_get hx); cases e; rwa [add_plain] at hc
theorem own_upP {w w' : World} {base e : Nat} {size n : Nat} {v : Value} {xs : List Value} (h : w.ownsRow base e size v n xs) (hb : Below w.heap.size w w') : w'.ownsRow base e size v n xs := by
  refine ⟨h.1, ?_⟩
  rcases h.2 with h1 | ⟨g, cap, cur, hv, h2, hh, h3⟩
  · exact .inl h1
  · exact .inr ⟨g, cap, cur, hv, h2, (hb.block g (Array.getElem?_eq_some_iff.1 hh).1).trans hh, h3⟩
/-- the block of a row that has a cell -/
theorem own_some {w : World} {base e n : Nat} {v : Value} {xs : List Value} (h : w.ownsRow base e 1 v n xs) (hn : 0 < n) : ∃ g c, v = .slice (some ⟨g, 0, none⟩) n c ∧ base ≤ g ∧ n ≤ c ∧ c ≤ maxLen ∧ (∀ i u, xs[i]? = some u → w.cell? ⟨g, i, none⟩ = some u) ∧ ∀ i, w.frozen? ⟨g, i, none⟩ = false := by
  rcases h.2 with ⟨_, h0⟩ | ⟨g, cap, cur, hv, h2, hh, h3, h4, h5, h6⟩
  · omega
  · refine ⟨g, cap, hv, h2, h3, h4, fun i u hu => ?_, fun i => frozen_of_row w g i cur e hh⟩
    rw [cell_of_row w g i _ _ _ hh]
    rw [← h6, List.getElem?_take] at hu
    split at hu
    · simpa using hu
    · cases hu
theorem own_set {w : World} {base e n c g i : Nat} {xs : List Value} (h : w.ownsRow base e 1 (.slice (some ⟨g, 0, none⟩) n c) n xs) (hi : i < n) (u : Value) : (w.setCell ⟨g, i, none⟩ u).ownsRow base e 1 (.slice (some ⟨g, 0, none⟩) n c) n (xs.set i u) := by
  refine ⟨by rw [List.length_set]; exact h.1, ?_⟩
  rcases h.2 with ⟨h0, _⟩ | ⟨g', cap, cur, hv, h2, hh, h3, h4, h5, h6⟩
  · cases h0
  · cases hv
    refine .inr ⟨g, c, cur.setIfInBounds i u, rfl, h2, ?_, h3, h4, by simpa using h5, ?_⟩
    · simp [World.setCell, Array.getElem?_modify, hh]
    · rw [Array.toList_setIfInBounds, List.take_set, h6]
theorem own_cut {w : World} {base e n c g m : Nat} {xs : List Value} (h : w.ownsRow base e 1 (.slice (some ⟨g, 0, none⟩) n c) n xs) (hm : m ≤ n) : w.ownsRow base e 1 (.slice (some ⟨g, 0, none⟩) m c) m (xs.take m) := by
  have hx := h.1
  refine ⟨by rw [List.length_take]; omega, ?_⟩
  rcases h.2 with ⟨h0, _⟩ | ⟨g', cap, cur, hv, h2, hh, h3, h4, h5, h6⟩
  · cases h0
  · cases hv
    exact .inr ⟨g, c, cur, rfl, h2, hh, by omega, h4, h5, by rw [← h6, List.take_take]; congr 1; omega⟩
end Go.Proofs.Ytlenfocdhchphaa
