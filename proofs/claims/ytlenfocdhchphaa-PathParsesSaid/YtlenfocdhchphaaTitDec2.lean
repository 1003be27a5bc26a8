/-
  Strays among the runes that a range over a string draws; one step of it in any world in which the range's place lies.
-/
import Derived.Test.YtlenfocdhchphaaTitDec
import Derived.Below
namespace Go.Proofs.Ytlenfocdhchphaa
open Go.RowKit
set_option maxRecDepth 100000
set_option linter.unusedVariables false

theorem Rn.val {l : List UInt8} {v n : Nat} (h : Rn l v n) : v ≤ 1114111 ∧ (v = 65533 → n = 3 ∧ octN l 0 = 239 ∧ octN l 1 = 191 ∧ octN l 2 = 189) ∧ (n = 3 → octN l 0 = 239 → octN l 1 = 191 → octN l 2 = 189 → v = 65533) := by
  have h1 := @on_is l 1
  have h2 := @on_is l 2
  have h3 := @on_is l 3
  rcases h with ⟨rfl, h, rfl⟩ | ⟨rfl, a, b, c, rfl, d⟩ | ⟨rfl, a, b, c, d, rfl, e, f⟩ | ⟨rfl, a, b, c, d, e, rfl, f, g⟩
  · exact ⟨by omega, fun h => by omega, fun h => by omega⟩
  · have := h1 c; exact ⟨by omega, fun h => by omega, fun h => by omega⟩
  · have := h1 c; have := h2 d; exact ⟨by omega, fun h => by omega, fun _ _ _ _ => by omega⟩
  · have := h1 c; have := h2 d; have := h3 e; exact ⟨by omega, fun h => by omega, fun h => by omega⟩
/-- the drawn rune's value -/
def drawV (l : List UInt8) : Nat := (orStray (runeN l)).1
theorem draw_le (l : List UInt8) : drawV l ≤ 1114111 := by
  unfold drawV
  cases h : runeN l with
  | none => exact (by decide : (65533 : Nat) ≤ 1114111)
  | some p => exact ((rune_iff l p.1 p.2).1 h).val.1
theorem tk_none {l : List UInt8} (h : runeN l = none) : (tkOf l) = ⟨-1, l.take 1, true⟩ ∧ widN l = 1 ∧ drawV l = 65533 := by unfold tkOf widN drawV; rw [h]; exact ⟨rfl, rfl, rfl⟩
theorem tk_some {l : List UInt8} {v n : Nat} (h : runeN l = some (v, n)) : (tkOf l) = ⟨(v : Int), l.take n, false⟩ ∧ widN l = n ∧ drawV l = v := by unfold tkOf widN drawV; rw [h]; exact ⟨rfl, rfl, rfl⟩
/-- a stray, by the drawn value and the width -/
theorem stray_wid (l : List UInt8) : (tkOf l).odd = decide (drawV l = 65533 ∧ widN l = 1) := by
  cases h : runeN l with
  | none => obtain ⟨a, b, c⟩ := tk_none h; rw [a, b, c]; rfl
  | some p =>
    obtain ⟨a, b, c⟩ := tk_some (v := p.1) (n := p.2) h
    have := ((rune_iff l p.1 p.2).1 h).val.2.1
    rw [a, b, c]
    exact (decide_eq_false (fun hh => by have := (this hh.1).1; omega)).symm
/-- a stray, by the drawn value and the octets of the text -/
theorem stray_oct (l : List UInt8) : (tkOf l).odd = decide (drawV l = 65533 ∧ ¬ (octN l 0 = 239 ∧ octN l 1 = 191 ∧ octN l 2 = 189)) := by
  cases h : runeN l with
  | none =>
    obtain ⟨a, b, c⟩ := tk_none h
    have hn : ¬ (octN l 0 = 239 ∧ octN l 1 = 191 ∧ octN l 2 = 189) := fun ⟨h0, h1, h2⟩ => by
      have := (rune_iff l 65533 3).2 (.inr (.inr (.inl ⟨rfl, by omega, by omega, by unfold onN; rw [h1]; rfl, by unfold onN; rw [h2]; rfl, by rw [h0, h1, h2], by omega, by omega⟩)))
      rw [h] at this; cases this
    rw [a, c]
    exact (decide_eq_true ⟨rfl, hn⟩).symm
  | some p =>
    obtain ⟨a, b, c⟩ := tk_some (v := p.1) (n := p.2) h
    have := ((rune_iff l p.1 p.2).1 h).val.2.1
    rw [a, c]
    exact (decide_eq_false (fun hh => hh.2 (this hh.1).2)).symm
theorem draw_rune {l : List UInt8} (h : (tkOf l).odd = false) : (tkOf l).v = (drawV l : Int) := by
  cases hh : runeN l with
  | none => rw [(tk_none hh).1] at h; cases h
  | some p => obtain ⟨a, b, c⟩ := tk_some (v := p.1) (n := p.2) hh; rw [a, c]

/-- the world whose range at b stands at pos -/
def turnW (w : World) (b : Nat) (s : ByteArray) (pos : Nat) : World := { w with heap := w.heap.setIfInBounds b (.stringIter s pos) }
theorem run_next_at {P : Program} (w : World) (b : Nat) (l : List UInt8) (pos : Nat) (ty : TypeId) (hb : w.heap[b]? = some (.stringIter (str l) pos)) (h : pos < l.length) :
    (Instr.next (.pointer (some ⟨b, 0, none⟩)) true ty).run P w =
      .ok (.tuple #[.bool true, .int .i64 pos, .int .i32 (drawV (l.drop pos) : Nat)]) (turnW w b (str l) (pos + widN (l.drop pos))) := by
  have h' : pos < (str l).size := by rw [str_size]; exact h
  have hbs : b < w.heap.size := by
    rcases Nat.lt_or_ge b w.heap.size with h | h
    · exact h
    · rw [Array.getElem?_eq_none h] at hb; cases hb
  rw [← wid_stray]
  unfold drawV turnW
  simp only [Instr.next, getObj, setObj, Sem.run_bind, Sem.run, hb, Result.andThen, h', if_true, decode_rune l pos h]
  simp [goInt]
theorem run_next_end_at {P : Program} (w : World) (b : Nat) (l : List UInt8) (pos : Nat) (ty : TypeId) (hb : w.heap[b]? = some (.stringIter (str l) pos)) (h : l.length ≤ pos) :
    (Instr.next (.pointer (some ⟨b, 0, none⟩)) true ty).run P w = .ok (.tuple #[.bool false]) w := by
  have h' : ¬ pos < (str l).size := by rw [str_size]; omega
  simp [Instr.next, getObj, Sem.run, hb, h']
theorem turn_size (w : World) (b : Nat) (s : ByteArray) (pos : Nat) : (turnW w b s pos).heap.size = w.heap.size := by simp [turnW]
theorem turn_at (w : World) (b : Nat) (s : ByteArray) (pos : Nat) (h : b < w.heap.size) : (turnW w b s pos).heap[b]? = some (.stringIter s pos) := by simp [turnW, h]
theorem turn_else (w : World) (b c : Nat) (s : ByteArray) (pos : Nat) (h : c ≠ b) : (turnW w b s pos).heap[c]? = w.heap[c]? := by
  simp [turnW, h.symm]
theorem turn_below (w : World) (B b : Nat) (s : ByteArray) (pos : Nat) (h : B ≤ b) : Below B w (turnW w b s pos) :=
  ⟨rfl, rfl, rfl, by rw [turn_size]; exact Nat.le_refl _, fun k hk => turn_else w b k s pos (by omega)⟩
end Go.Proofs.Ytlenfocdhchphaa
