/-
  Entries of a directory on memory.
-/
import Derived.Test.YtgboccepgbeihaaMem2
import Derived.Test.YtgboccepgbeihaaEntMath
namespace Go.Proofs.Ytgboccepgbeihaa
open Go.RowKit
set_option linter.unusedVariables false

def etV (x : Et) : List Value := [.string (str x.name), .int .i64 x.ino, .int .i64 x.ty]
def etG (x : Et) : Value := .agg #[.string (str x.name), .int .i64 x.ino, .int .i64 x.ty]
def etsV (l : List Et) : List Value := l.flatMap etV
theorem etsV_cons (x : Et) (l : List Et) : etsV (x :: l) = .string (str x.name) :: .int .i64 x.ino :: .int .i64 x.ty :: etsV l := rfl
theorem etsV_append (a b : List Et) : etsV (a ++ b) = etsV a ++ etsV b := by simp [etsV]
theorem etsV_length : ∀ l, (etsV l).length = l.length * 3
  | [] => rfl
  | x :: l => by rw [etsV_cons]; simp only [List.length_cons, etsV_length l]; omega
theorem etsV_one (l : List Et) : ∀ u ∈ etsV l, u.oneCell' = true := by
  intro u hu
  obtain ⟨x, _, hx⟩ := List.mem_flatMap.1 hu
  simp only [etV, List.mem_cons, List.not_mem_nil, or_false] at hx
  rcases hx with rfl | rfl | rfl <;> rfl
theorem etsV_get : ∀ (l : List Et) (k : Nat) (x : Et), l[k]? = some x → (etsV l)[k * 3]? = some (.string (str x.name)) ∧ (etsV l)[k * 3 + 1]? = some (.int .i64 x.ino) ∧ (etsV l)[k * 3 + 2]? = some (.int .i64 x.ty)
  | [], k, x, h => by simp at h
  | y :: l, 0, x, h => by
    have : y = x := by simpa using h
    subst this
    exact ⟨rfl, rfl, rfl⟩
  | y :: l, k + 1, x, h => by
    have ih := etsV_get l k x (by simpa using h)
    rw [etsV_cons, show (k + 1) * 3 = k * 3 + 1 + 1 + 1 by omega]
    exact ih
theorem etsV_take (l : List Et) (k : Nat) : etsV (l.take k) = (etsV l).take (k * 3) := by
  induction l generalizing k with
  | nil => simp [etsV]
  | cons x l ih =>
    cases k with
    | zero => simp [etsV]
    | succ k =>
      rw [List.take_succ_cons, etsV_cons, etsV_cons, ih, show (k + 1) * 3 = k * 3 + 1 + 1 + 1 from by omega]
      simp
/-- a slice of entries -/
def EtsW (w : World) (l : List Et) (v : Value) : Prop := ∃ A n c, v = .slice A n c ∧ l.length = n ∧ n ≤ c ∧ c ≤ maxLen ∧ Rd w w.heap.size A (etsV l)
theorem EtsW.up {w w' : World} {l : List Et} {v : Value} (h : EtsW w l v) (hb : Below w.heap.size w w') : EtsW w' l v := by
  obtain ⟨A, n, c, h0, h1, h2, h3, h4⟩ := h
  exact ⟨A, n, c, h0, h1, h2, h3, (h4.below hb).mono hb.size⟩
theorem EtsW.own {w : World} {base e : Nat} {l : List Et} {v : Value} {n : Nat} (h : w.ownsRow base e 3 v n (etsV l)) : EtsW w l v := by
  obtain ⟨A, c, rfl, h1, h2⟩ := own_len h
  have := h.1
  rw [etsV_length] at this
  exact ⟨A, n, c, rfl, by omega, h1, h2, Rd.own h⟩
theorem EtsW.nil_ (w : World) : EtsW w [] (.slice none 0 0) := ⟨none, 0, 0, rfl, rfl, Nat.le_refl _, by simp, Rd.nil_⟩
theorem own_upE {w w' : World} {base e : Nat} {size n : Nat} {v : Value} {xs : List Value} (h : w.ownsRow base e size v n xs) (hb : Below w.heap.size w w') : w'.ownsRow base e size v n xs := by
  refine ⟨h.1, ?_⟩
  rcases h.2 with h1 | ⟨g, cap, cur, hv, h2, hh, h3⟩
  · exact .inl h1
  · exact .inr ⟨g, cap, cur, hv, h2, (hb.block g (Array.getElem?_eq_some_iff.1 hh).1).trans hh, h3⟩
/-- a block of three cells -/
theorem et_cells {w : World} {g : Nat} {t : TypeId} {a b c : Value} (h : Bk w g t #[a, b, c]) : w.cell? ⟨g, 0, none⟩ = some a ∧ w.cell? ⟨g, 1, none⟩ = some b ∧ w.cell? ⟨g, 2, none⟩ = some c
    ∧ w.frozen? ⟨g, 0, none⟩ = false ∧ w.frozen? ⟨g, 1, none⟩ = false ∧ w.frozen? ⟨g, 2, none⟩ = false := ⟨h.cell 0, h.cell 1, h.cell 2, h.free 0, h.free 1, h.free 2⟩
end Go.Proofs.Ytgboccepgbeihaa
