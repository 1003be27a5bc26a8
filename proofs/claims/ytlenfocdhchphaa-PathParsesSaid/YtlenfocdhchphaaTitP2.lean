/-
  Head: the closure that takes as many as are asked, and the whole.
-/
import Derived.Test.YtlenfocdhchphaaTitP1
namespace Go.Proofs.Ytlenfocdhchphaa
open Go.RowKit
set_option maxRecDepth 100000
set_option linter.unusedVariables false

/-- a builder, when a cell of another block, no row of octets, is set -/
theorem Bd.far {w : World} {B b n : Nat} {l : List UInt8} {t : TypeId} {cs : Array Value} (h : Bd w B b l) (hn : Bk w n t cs) (hnb : n ≠ b) (ht : t ≠ 5) (i : Nat) (u : Value) : Bd (w.setCell ⟨n, i, none⟩ u) B b l := by
  have aux : ∀ p, Lib.BuilderAtF 62 5 B b p (Lib.byteCells l) w → Lib.BuilderAtF 62 5 B b p (Lib.byteCells l) (w.setCell ⟨n, i, none⟩ u) := by
    rintro p ⟨hB, v, hb, hown, hne⟩
    exact ⟨hB, v, (Below.heap_setCell _ _ _ _ (fun e => hnb e.symm)).trans hb, hown.kept (row := some n) ⟨rfl, rfl, rfl, by simp [World.setCell], fun k _ hk => Below.heap_setCell _ _ _ _ (fun e => hk (by simp [e]))⟩ (.inr (Lib.ownBlock_neF hown hn ht)), hne⟩
  exact h.elim (fun x => .inl (aux _ x)) (fun x => .inr (aux _ x))
theorem Bd.ne_iter {w : World} {B b k : Nat} {l : List UInt8} {s : ByteArray} {p : Nat} (h : Bd w B b l) (hk : w.heap[k]? = some (Obj.stringIter s p)) : k ≠ b := by
  rintro rfl
  rcases h with ⟨_, _, hb, _⟩ | ⟨_, _, hb, _⟩ <;> rw [hk] at hb <;> cases hb
theorem Bd.turn {w : World} {B b k q : Nat} {l : List UInt8} {s : ByteArray} (h : Bd w B b l) (hk : w.heap[k]? = some (Obj.stringIter s q)) (pos : Nat) : Bd (turnW w k s pos) B b l := Lib.IsBuilderF.iterAt h hk pos
theorem Bk.ne_iter {w : World} {n k : Nat} {t : TypeId} {cs : Array Value} {s : ByteArray} {p : Nat} (h : Bk w n t cs) (hk : w.heap[k]? = some (Obj.stringIter s p)) : k ≠ n := by
  rintro rfl
  rw [show w.heap[k]? = _ from h] at hk
  cases hk
/-- the places of strings' ranges stand -/
def Its (w w' : World) : Prop := ∀ (k : Nat) (s : ByteArray) (p : Nat), w.heap[k]? = some (Obj.stringIter s p) → w'.heap[k]? = some (Obj.stringIter s p)
theorem Its.trans {a b c : World} (h : Its a b) (h' : Its b c) : Its a c := fun k s p hk => h' k s p (h k s p hk)
theorem Its.set_ {w : World} {n : Nat} {t : TypeId} {cs : Array Value} (h : Bk w n t cs) (i : Nat) (u : Value) : Its w (w.setCell ⟨n, i, none⟩ u) := fun k s p hk => (Below.heap_setCell _ _ _ _ (h.ne_iter hk)).trans hk
theorem Its.oth {w w' : World} {B b : Nat} {l : List UInt8} (h : Oth b w w') (hb : Bd w B b l) : Its w w' := fun k s p hk => h.iter hk (hb.ne_iter hk)

/-- what is so between two runes: of the rest at p -/
structure RunH (w : World) (B n b : Nat) (l : List UInt8) (m0 : Int) (p : Nat) (wr : World) : Prop where
  cells : ∃ (m : Int) (L : List UInt8), Bk wr n 3 #[.int .i64 m] ∧ (-9223372036854775808 ≤ m ∧ m ≤ 9223372036854775807) ∧ Bd wr B b L ∧ L.length ≤ p ∧ L ++ headT (l.drop p) m = headT l m0
  below : Below B w wr
structure DoneH (w : World) (B b : Nat) (out : List UInt8) (wr : World) : Prop where
  built : Bd wr B b out
  below : Below B w wr
end Go.Proofs.Ytlenfocdhchphaa
