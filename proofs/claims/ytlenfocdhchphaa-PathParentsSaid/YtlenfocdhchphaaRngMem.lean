/-
  What stays where a body ranges over a function: blocks known whole, a row of one's own that a block holds.
-/
import Derived.RangeFuncNested
import Derived.RangeFuncBound
import Derived.RangeFuncCalls
import Derived.RangeFuncLeaves
import Derived.Shelf.Abstract
import Derived.Shelf.RegionOpen
import Derived.OwnWalkIn
import Derived.TacticsInMore
import Derived.LoopNIn
import Derived.LoopIn
import Derived.Test.YtlenfocdhchphaaMem2
namespace Go.Proofs.Ytlenfocdhchphaa
open Go.RowKit Go.Shelf
set_option linter.unusedVariables false

theorem abides_up {β : Type} {B : Nat} {J : β → World → Prop} (hJ : AbidesFrom B J) {s : β} {W W' : World} (h : J s W) (hb : Below W.heap.size W W') : J s W' :=
  hJ s W W' none h ⟨hb.os, hb.tape, hb.output, hb.size, fun k hk _ => hb.block k hk⟩ (fun r e => by cases e)
theorem fin_take_succ (n k : Nat) (h : k < n) : (List.finRange n).take (k + 1) = (List.finRange n).take k ++ [⟨k, h⟩] := by
  rw [List.take_succ_eq_append_getElem (by simpa using h)]
  simp
theorem owns_bk {β : Type} (B : Nat) (t : TypeId) (cs : Array Value) : Own (fun (_ : β) W => Bk W B t cs) := fun s X Y row hs hg hrow => by
  refine (hg.block B hs.lt (fun e => ?_)).trans hs
  obtain ⟨o, ho, hc⟩ := hrow B e.symm
  rw [show X.heap[B]? = _ from hs] at ho
  cases ho
  cases hc
theorem owns_bk' {β : Type} (B : Nat) (t : TypeId) (cs : β → Array Value) : Own (fun (s : β) W => Bk W B t (cs s)) := fun s X Y row hs hg hrow => by
  refine (hg.block B (Bk.lt hs) (fun e => ?_)).trans hs
  obtain ⟨o, ho, hc⟩ := hrow B e.symm
  rw [show X.heap[B]? = _ from hs] at ho
  cases ho
  cases hc
theorem bk_putObj {W : World} {g D : Nat} {t : TypeId} {cs : Array Value} (h : Bk W g t cs) {o : Obj} (hD : W.heap[D]? = some o) (ho : o.isCells = false) (o' : Obj) : Bk (W.putObj D o') g t cs := by
  refine (World.putObj_heap_other (fun e => ?_)).trans h
  rw [← e, show W.heap[g]? = _ from h] at hD
  cases hD
  cases ho
theorem keeps_up {B : Nat} {W W' : World} (hb : Below W.heap.size W W') : KeepsFrom B W W' := ⟨hb.size, fun k o _ hk _ => (hb.block k (Array.getElem?_eq_some_iff.1 hk).1).trans hk⟩
/-- a row of the call's own, a store into a block of another type -/
theorem own_apart {W : World} {n₀ Bp o : Nat} {t e : TypeId} {size : Nat} {v u : Value} {k : Nat} {xs : List Value} {cs : Array Value} (hv : Bk W Bp t cs) (hte : e ≠ t) (h : W.ownsRow n₀ e size v k xs) : (W.setCell ⟨Bp, o, none⟩ u).ownsRow n₀ e size v k xs := by
  rcases h.2 with ⟨h1, h2⟩ | ⟨g, c, cur, h1, h2, hh, hr⟩
  · exact ⟨h.1, .inl ⟨h1, h2⟩⟩
  · refine ⟨h.1, .inr ⟨g, c, cur, h1, h2, (Below.heap_setCell W _ u g (fun e' => ?_)).trans hh, hr⟩⟩
    have e' : g = Bp := e'
    subst e'
    unfold Bk at hv
    rw [hh] at hv
    injection hv with hv
    injection hv with _ ht
    exact hte ht
/-- an element appended to a row of the call's own, and the row stored into a block of another type -/
theorem app_stays {W w1 : World} {n₀ Bp o : Nat} {t e : TypeId} {size : Nat} {v v' u : Value} {k m : Nat} {xs ys : List Value} {cs : Array Value}
    (hv : Bk W Bp t cs) (hte : e ≠ t) (hrow : W.ownsRow n₀ e size v k xs) (hn₀ : n₀ ≤ W.heap.size) (hB : n₀ ≤ Bp) (hown' : w1.ownsRow n₀ e size v' m ys) (hgrow : W.grownBy w1 v.ownBlock) :
    Bk w1 Bp t cs ∧ Bk (w1.setCell ⟨Bp, o, none⟩ u) Bp t (cs.setIfInBounds o u) ∧ (w1.setCell ⟨Bp, o, none⟩ u).ownsRow n₀ e size v' m ys ∧ KeepsOthers W (w1.setCell ⟨Bp, o, none⟩ u) ∧ Below n₀ W (w1.setCell ⟨Bp, o, none⟩ u)
    ∧ (∀ g t' cs', Bk W g t' cs' → e ≠ t' → g ≠ Bp → Bk (w1.setCell ⟨Bp, o, none⟩ u) g t' cs') := by
  have hv1 : Bk w1 Bp t cs := hv.grown hgrow (hv.ne_own hrow hte)
  refine ⟨hv1, hv1.set_ o u, own_apart hv1 hte hown', ?_, ?_, fun g t' cs' hg hne hgB => (hg.grown hgrow (hg.ne_own hrow hne)).far hgB u⟩
  · refine (KeepsOthers.of_grownBy hgrow fun j o' ej hj => ?_).trans (KeepsOthers.setCell _ _ _)
    rcases hrow.2 with ⟨rfl, _⟩ | ⟨g, cap, cur, rfl, _, hgb, _⟩
    · simp [Value.ownBlock] at ej
    · obtain rfl : g = j := by simpa [Value.ownBlock] using ej
      rw [hgb] at hj; cases hj; rfl
  · refine ((Below.refl n₀ W).grown hgrow hn₀ fun j ej => ?_).setCell (p := ⟨Bp, o, none⟩) hB u
    rcases hrow.2 with ⟨rfl, _⟩ | ⟨g, cap, cur, rfl, hb, _, _⟩
    · simp [Value.ownBlock] at ej
    · obtain rfl : g = j := by simpa [Value.ownBlock] using ej
      exact hb
/-- 'a block holds a slice that owns ..' speaks of cells alone -/
theorem owns_held {β : Type} (n₀ B : Nat) (t e : TypeId) (size : Nat) (cs : Value → Array Value) (k : β → Nat) (f : β → List Value) : Own (fun (s : β) W => ∃ v, Bk W B t (cs v) ∧ W.ownsRow n₀ e size v (k s) (f s)) := by
  rintro s X Y row ⟨v, hv, hr⟩ hg hrow
  refine ⟨v, owns_bk (β := Unit) B t _ () X Y row hv hg hrow, hr.kept hg ?_⟩
  rcases hr.2 with ⟨rfl, _⟩ | ⟨g, cap, cur, rfl, _, hgb, _⟩
  · exact .inl rfl
  · refine .inr fun e' => ?_
    obtain ⟨o, ho, hc⟩ := hrow g (by simpa [Value.ownBlock] using e'.symm)
    rw [hgb] at ho; cases ho; cases hc
end Go.Proofs.Ytlenfocdhchphaa
