/-
  What the document's answers Numbers, On, Count of layer 8 are.
-/
import Derived.Test.YtnipfonglheofaaDoorRef08b
import Derived.Test.YtnipfonglheofaaDoorReachOn
namespace Go.Proofs.YtnipfonglheofaaDoor
open Go.RowKit
set_option maxRecDepth 100000
set_option linter.unusedVariables false

/-- a slice of ints, of none too -/
def IntW (w : World) (l : List Int) (v : Value) : Prop := ∃ A n c, v = .slice A n c ∧ l.length = n ∧ n ≤ c ∧ c ≤ maxLen ∧ Rd w w.heap.size A (l.map iv)
theorem IntW.up {w w' : World} {l : List Int} {v : Value} (h : IntW w l v) (hb : Below w.heap.size w w') : IntW w' l v := by
  obtain ⟨A, n, c, rfl, h1, h2, h3, h4⟩ := h
  exact ⟨A, n, c, rfl, h1, h2, h3, (h4.below hb).mono hb.size⟩
theorem IntW.own {w : World} {base : Nat} {l : List Int} {v : Value} {n : Nat} (h : w.ownsRow base 3 1 v n (l.map iv)) : IntW w l v := by
  obtain ⟨A, c, rfl, h1, h2⟩ := own_len h
  have := h.1
  exact ⟨A, n, c, rfl, by simpa using this, h1, h2, Rd.own h⟩
theorem IntW.of {w : World} {l : List Int} {v : Value} (h : Ints w l v) : IntW w l v := by
  obtain ⟨A, n, c, h0, h1, h2, h3, h4, _⟩ := h
  exact ⟨A, n, c, h0, h1, h2, h3, h4⟩
/-- flags as cells -/
def flV (F : Nat → Bool) (n : Nat) : List Value := (List.range n).map fun m => .bool (F m)
theorem flV_get (F : Nat → Bool) (n k : Nat) (h : k < n) : (flV F n)[k]? = some (.bool (F k)) := by simp [flV, h]
theorem flV_length (F : Nat → Bool) (n : Nat) : (flV F n).length = n := by simp [flV]

def flC (F : Nat → Bool) : Array Value := (flV F 258).toArray
def fl0 : Array Value := (List.replicate 258 (.bool false)).toArray
theorem fl0_eq : fl0 = flC fun _ => false := by
  simp only [fl0, flC, flV]
  congr 1
theorem flC_set (F : Nat → Bool) (x : Nat) (h : x < 258) : (flC F).setIfInBounds x (.bool true) = flC (fun m => F m || decide (x = m)) := by
  apply Array.ext_getElem?
  intro j
  simp only [flC, List.setIfInBounds_toArray, List.getElem?_toArray]
  by_cases hj : j < 258
  · rw [flV_get _ _ _ hj]
    by_cases e : x = j
    · subst e
      rw [List.getElem?_set_self (by rw [flV_length]; exact hj)]
      simp
    · rw [List.getElem?_set_ne e, flV_get _ _ _ hj]
      simp [e]
  · rw [List.getElem?_eq_none (by rw [List.length_set, flV_length]; omega), List.getElem?_eq_none (by rw [flV_length]; omega)]
theorem fl_bk {w : World} {g : Nat} {F : Nat → Bool} (h : Bk w g 4 (flC F)) (x : Nat) (hx : x < 258) : w.cell? ⟨g, x, none⟩ = some (.bool (F x)) ∧ w.frozen? ⟨g, x, none⟩ = false :=
  ⟨(h.cell x).trans (by simp [flC, flV_get F 258 x hx]), h.free x⟩
theorem fl_noint {w : World} {g : Nat} {F : Nat → Bool} (h : Bk w g 4 (flC F)) (x : Nat) {k : IntKind} {v : Int} : w.cell? ⟨g, x, none⟩ ≠ some (.int k v) := by
  rw [h.cell]
  by_cases hx : x < 258
  · simp [flC, flV_get F 258 x hx]
  · simp [flC, List.getElem?_eq_none (show (flV F 258).length ≤ x by rw [flV_length]; omega)]
theorem rd_far {w : World} {B b o g x : Nat} {vs : List Value} (h : Rd w B (some ⟨b, o, none⟩) vs) (hne : b ≠ g) (u : Value) : Rd (w.setCell ⟨g, x, none⟩ u) B (some ⟨b, o, none⟩) vs := fun j v hv => by
  obtain ⟨ad, e, hb, hc⟩ := h j v hv
  cases e
  refine ⟨_, rfl, hb, (World.cell?_setCell_other _ _ _ _ (fun e => ?_)).trans hc⟩
  rw [add_plain] at e
  injection e with e1
  exact hne e1.symm
theorem fl_rd {w : World} {g : Nat} {F : Nat → Bool} (h : Bk w g 4 (flC F)) : Rd w w.heap.size (some ⟨g, 0, none⟩) (flV F 258) := by simpa [flC] using Rd.bk h
/-- blocks as ints -/
def intL (l : List Nat) : List Int := l.map fun (m : Nat) => (m : Int)
theorem intL_get {l : List Nat} {k b : Nat} (h : l[k]? = some b) : (intL l)[k]? = some (b : Int) := by rw [intL, List.getElem?_map, h]; rfl
theorem intL_length (l : List Nat) : (intL l).length = l.length := by simp [intL]

end Go.Proofs.YtnipfonglheofaaDoor
