/-
  A map that a call made, of whatever elements, as a function from keys to values; no program is named here.
-/
import Derived.Test.YtnipfonglheofaaDoorMem
import Derived.Maps.OwnOps
import Derived.Maps.OwnSet
import Derived.Maps.Views
namespace Go.Proofs.YtnipfonglheofaaDoor
open Go.Maps Go.RowKit
set_option linter.unusedVariables false

def anyV (v : Value) : Option (DataW Value × List MemPlace) := some (.held v, [])
section
variable {α : Type} {P : Program} {k t e : TypeId} {c : α → Lit} {w w' : World} {b n : Nat} {f : α → Option Value}
/-- block b is a map of at most n entries; at the key that reads as 'c x' it holds f x -/
def MapV (P : Program) (k : TypeId) (c : α → Lit) (w : World) (b n : Nat) (f : α → Option Value) : Prop :=
  ∃ D : DataW Value, w.ownsMap P k anyV b n D ∧ (∀ x, Maps.has D (c x) = (f x).isSome) ∧ ∀ x z, D.atKey (c x) (.held z) = .held ((f x).getD z)
theorem MapV.made (w : World) : MapV P k c (w.alloc (.map #[] 0)) w.heap.size 0 (fun _ : α => none) :=
  ⟨.map [], World.ownsMap_made w P k anyV, fun _ => rfl, fun _ _ => rfl⟩
theorem MapV.lt (h : MapV P k c w b n f) : b < w.heap.size := by
  obtain ⟨D, h, _⟩ := h
  exact h.lt
theorem MapV.kept {row : Option Nat} (h : MapV P k c w b n f) (hg : w.grownBy w' row) (hne : some b ≠ row) : MapV P k c w' b n f := by
  obtain ⟨D, h, h1, h2⟩ := h
  exact ⟨D, h.kept hg hne, h1, h2⟩
theorem MapV.below {B : Nat} (h : MapV P k c w b n f) (hb : Below B w w') (hB : b < B) : MapV P k c w' b n f := by
  obtain ⟨D, ⟨es, clock, h, h'⟩, h1, h2⟩ := h
  exact ⟨D, ⟨es, clock, (hb.block b hB).trans h, h'⟩, h1, h2⟩
theorem MapV.mono (h : MapV P k c w b n f) {m : Nat} (hm : n ≤ m) : MapV P k c w b m f := by
  obtain ⟨D, h, h'⟩ := h
  exact ⟨D, h.mono hm, h'⟩
theorem MapV.look (h : MapV P k c w b n f) (K : Keyed P k) (ht : P.underlying t = some (.map k e)) {z : Value} (hz : (zeroValue e).run P w = .ok z w) {key : Value} {x : α} (hkey : keyOf P k key = some (c x)) :
    (Instr.lookup t (.map (some b)) key false).run P w = .ok ((f x).getD z) w := by
  obtain ⟨D, h, _, h2⟩ := h
  obtain ⟨v, ps, hrun, hv⟩ := h.lookup K ht hz (zd := .held z) (zp := []) rfl hkey
  rw [h2] at hv
  simp only [anyV, Option.some.injEq, Prod.mk.injEq, DataW.held.injEq] at hv
  rw [hrun, hv.1]
theorem MapV.look_ok (h : MapV P k c w b n f) (K : Keyed P k) (ht : P.underlying t = some (.map k e)) {z : Value} (hz : (zeroValue e).run P w = .ok z w) {key : Value} {x : α} (hkey : keyOf P k key = some (c x)) :
    (Instr.lookup t (.map (some b)) key true).run P w = .ok (.tuple #[(f x).getD z, .bool (f x).isSome]) w := by
  obtain ⟨D, h, h1, h2⟩ := h
  obtain ⟨v, ps, hrun, hv⟩ := h.look_ok K ht hz (zd := .held z) (zp := []) rfl hkey
  rw [h2] at hv
  simp only [anyV, Option.some.injEq, Prod.mk.injEq, DataW.held.injEq] at hv
  rw [hrun, hv.1, h1]
theorem MapV.put [DecidableEq α] (h : MapV P k c w b n f) (K : Keyed P k) (hc : ∀ x y, c x = c y → x = y) (ht : P.underlying t = some (.map k e)) (hn : n < maxLen) {key val : Value} {x : α} (hkey : keyOf P k key = some (c x)) :
    ∃ w', (Instr.mapUpdate t (.map (some b)) key val).run P w = .ok () w' ∧ MapV P k c w' b (n + 1) (fun y => if y = x then some val else f y) ∧ w.grownBy w' (some b) := by
  obtain ⟨D, h, h1, h2⟩ := h
  obtain ⟨w', hrun, h', hg⟩ := h.update K ht hn hkey (val := val) (d := .held val) (ps := []) rfl
  refine ⟨w', hrun, ⟨_, h', fun y => ?_, fun y z => ?_⟩, hg⟩
  · by_cases e : y = x
    · subst e
      rw [has_put_same h.isMap (K.key hkey)]
      simp
    · rw [has_put_other (fun e' => e (hc _ _ e')), h1]
      simp [e]
  · by_cases e : y = x
    · subst e
      rw [atKey_put_same h.isMap (K.key hkey)]
      simp
    · rw [atKey_put_other (fun e' => e (hc _ _ e')), h2]
      simp [e]
theorem wpList_look_V (w : World) {ops : Array Oper} {rest : List Oper} {o : Oper} {a : Act} {Q : Exit → Act → World → Prop}
    (hg : o.guard = none) (m y : Operand) (hop : o.op = Op.lookup t m y false) (h : MapV P k c w b n f) (K : Keyed P k) (ht : P.underlying t = some (.map k e)) {z : Value} (hz : (zeroValue e).run P w = .ok z w)
    (hm : a.eval m = .map (some b)) (key : Value) (x : α) (hx : a.eval y = key) (hkey : keyOf P k key = some (c x))
    (hK : wpList P ops Q rest (a.put o.dst ((f x).getD z)) w) :
    wpList P ops Q (o :: rest) a w := by
  refine wpList_plain hg fun K' hK' => ?_
  have hrun := h.look K ht hz hkey
  unfold Oper.wp
  simp [execOp, hop, hm, hx, hrun, Result.andThen]
  exact hK' _ _ hK
theorem wpList_put_V [DecidableEq α] (w : World) {ops : Array Oper} {rest : List Oper} {o : Oper} {a : Act} {Q : Exit → Act → World → Prop}
    (hg : o.guard = none) (m y v : Operand) (hop : o.op = Op.mapUpdate t m y v) (h : MapV P k c w b n f) (K : Keyed P k) (hc : ∀ x y, c x = c y → x = y) (ht : P.underlying t = some (.map k e)) (hn : n < maxLen)
    (hm : a.eval m = .map (some b)) (key val : Value) (x : α) (hx : a.eval y = key) (hv : a.eval v = val) (hkey : keyOf P k key = some (c x))
    (hK : ∀ w', MapV P k c w' b (n + 1) (fun y => if y = x then some val else f y) → w.grownBy w' (some b) → wpList P ops Q rest (a.put o.dst undef) w') :
    wpList P ops Q (o :: rest) a w := by
  refine wpList_plain hg fun K' hK' => ?_
  obtain ⟨w', hrun, r1, r2⟩ := h.put K hc ht hn hkey (val := val)
  unfold Oper.wp
  simp [execOp, hop, hm, hx, hv, hrun, Result.andThen]
  exact hK' _ _ (hK w' r1 r2)
end
end Go.Proofs.YtnipfonglheofaaDoor
