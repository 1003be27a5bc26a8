/-
  Entries of a part on memory; a part's value.
-/
import Derived.Test.YtnipfonglheofaaDoorMem2
import Derived.Test.YtnipfonglheofaaDoorSumMath
namespace Go.Proofs.YtnipfonglheofaaDoor
open Go.RowKit
set_option linter.unusedVariables false

def enV (x : En) : List Value := [.int .i64 x.kind, .int .i64 x.ino, .int .i64 x.index, .int .u32 (x.sum : Int)]
def enG (x : En) : Value := .agg #[.int .i64 x.kind, .int .i64 x.ino, .int .i64 x.index, .int .u32 (x.sum : Int)]
def ensV (l : List En) : List Value := l.flatMap enV
theorem ensV_cons (x : En) (l : List En) : ensV (x :: l) = .int .i64 x.kind :: .int .i64 x.ino :: .int .i64 x.index :: .int .u32 (x.sum : Int) :: ensV l := rfl
theorem ensV_append (a b : List En) : ensV (a ++ b) = ensV a ++ ensV b := by simp [ensV]
theorem ensV_length : ∀ l, (ensV l).length = 4 * l.length
  | [] => rfl
  | x :: l => by
    have := ensV_length l
    simp only [ensV_cons, List.length_cons, this]
    omega
theorem ensV_get : ∀ (l : List En) (k : Nat) (x : En), l[k]? = some x → (ensV l)[k * 4]? = some (.int .i64 x.kind) ∧ (ensV l)[k * 4 + 1]? = some (.int .i64 x.ino) ∧ (ensV l)[k * 4 + 2]? = some (.int .i64 x.index) ∧ (ensV l)[k * 4 + 3]? = some (.int .u32 (x.sum : Int))
  | [], k, x, h => by simp at h
  | y :: l, 0, x, h => by
    simp at h; subst h
    exact ⟨rfl, rfl, rfl, rfl⟩
  | y :: l, k + 1, x, h => by
    have ih := ensV_get l k x (by simpa using h)
    rw [ensV_cons, show (k + 1) * 4 = k * 4 + 4 from by omega, show k * 4 + 4 + 1 = k * 4 + 1 + 4 from by omega, show k * 4 + 4 + 2 = k * 4 + 2 + 4 from by omega, show k * 4 + 4 + 3 = k * 4 + 3 + 4 from by omega]
    simpa using ih
theorem ensV_take (l : List En) (k : Nat) : ensV (l.take k) = (ensV l).take (k * 4) := by
  induction l generalizing k with
  | nil => simp [ensV]
  | cons x l ih =>
    cases k with
    | zero => simp [ensV]
    | succ k =>
      rw [List.take_succ_cons, ensV_cons, ensV_cons, ih, show (k + 1) * 4 = k * 4 + 1 + 1 + 1 + 1 from by omega]
      simp
theorem ensV_take_succ (l : List En) (k : Nat) (x : En) (h : l[k]? = some x) : ensV (l.take (k + 1)) = ensV (l.take k) ++ enV x := by
  rw [List.take_add_one, h, ensV_append]; simp [ensV]

/-- a block of four cells -/
theorem ent_cells {w : World} {g : Nat} {t : TypeId} {a b c d : Value} (h : Bk w g t #[a, b, c, d]) : w.cell? ⟨g, 0, none⟩ = some a ∧ w.cell? ⟨g, 1, none⟩ = some b ∧ w.cell? ⟨g, 2, none⟩ = some c ∧ w.cell? ⟨g, 3, none⟩ = some d
    ∧ w.frozen? ⟨g, 0, none⟩ = false ∧ w.frozen? ⟨g, 1, none⟩ = false ∧ w.frozen? ⟨g, 2, none⟩ = false ∧ w.frozen? ⟨g, 3, none⟩ = false := ⟨h.cell 0, h.cell 1, h.cell 2, h.cell 3, h.free 0, h.free 1, h.free 2, h.free 3⟩
theorem ent0 {w : World} {g : Nat} {t : TypeId} {a b c d : Value} (h : Bk w g t #[a, b, c, d]) (u : Value) : Bk (w.setCell ⟨g, 0, none⟩ u) g t #[u, b, c, d] := h.set_ 0 u
theorem ent1 {w : World} {g : Nat} {t : TypeId} {a b c d : Value} (h : Bk w g t #[a, b, c, d]) (u : Value) : Bk (w.setCell ⟨g, 1, none⟩ u) g t #[a, u, c, d] := h.set_ 1 u
theorem ent2 {w : World} {g : Nat} {t : TypeId} {a b c d : Value} (h : Bk w g t #[a, b, c, d]) (u : Value) : Bk (w.setCell ⟨g, 2, none⟩ u) g t #[a, b, u, d] := h.set_ 2 u
theorem ent3 {w : World} {g : Nat} {t : TypeId} {a b c d : Value} (h : Bk w g t #[a, b, c, d]) (u : Value) : Bk (w.setCell ⟨g, 3, none⟩ u) g t #[a, b, c, u] := h.set_ 3 u
theorem ent_puts {w : World} {g : Nat} {t : TypeId} {x0 x1 x2 x3 : Value} (h : Bk w g t #[x0, x1, x2, x3]) (a b c d : Value) :
    ((((w.setCell ⟨g, 0, none⟩ a).setCell ⟨g, 1, none⟩ b).setCell ⟨g, 2, none⟩ c).setCell ⟨g, 3, none⟩ d).cell? ⟨g, 0, none⟩ = some a ∧ ((((w.setCell ⟨g, 0, none⟩ a).setCell ⟨g, 1, none⟩ b).setCell ⟨g, 2, none⟩ c).setCell ⟨g, 3, none⟩ d).cell? ⟨g, 1, none⟩ = some b
    ∧ ((((w.setCell ⟨g, 0, none⟩ a).setCell ⟨g, 1, none⟩ b).setCell ⟨g, 2, none⟩ c).setCell ⟨g, 3, none⟩ d).cell? ⟨g, 2, none⟩ = some c ∧ ((((w.setCell ⟨g, 0, none⟩ a).setCell ⟨g, 1, none⟩ b).setCell ⟨g, 2, none⟩ c).setCell ⟨g, 3, none⟩ d).cell? ⟨g, 3, none⟩ = some d
    ∧ Bk ((((w.setCell ⟨g, 0, none⟩ a).setCell ⟨g, 1, none⟩ b).setCell ⟨g, 2, none⟩ c).setCell ⟨g, 3, none⟩ d) g t #[a, b, c, d] := by
  have k := ent3 (ent2 (ent1 (ent0 h a) b) c) d
  exact ⟨k.cell 0, k.cell 1, k.cell 2, k.cell 3, k⟩
/-- a new block of four cells, stored into -/
def put4 (w : World) (g : Nat) (a b c d : Value) : World := (((w.setCell ⟨g, 0, none⟩ a).setCell ⟨g, 1, none⟩ b).setCell ⟨g, 2, none⟩ c).setCell ⟨g, 3, none⟩ d
theorem put4_bk {w : World} {g : Nat} {t : TypeId} {x0 x1 x2 x3 : Value} (h : Bk w g t #[x0, x1, x2, x3]) (a b c d : Value) : Bk (put4 w g a b c d) g t #[a, b, c, d] := ent3 (ent2 (ent1 (ent0 h a) b) c) d
theorem put4_below {B : Nat} (w : World) {g : Nat} (hB : B ≤ g) (a b c d : Value) : Below B w (put4 w g a b c d) :=
  ((((Below.refl B w).setCell (p := ⟨g, 0, none⟩) hB a).setCell (p := ⟨g, 1, none⟩) hB b).setCell (p := ⟨g, 2, none⟩) hB c).setCell (p := ⟨g, 3, none⟩) hB d
theorem put4_size (w : World) (g : Nat) (a b c d : Value) : (put4 w g a b c d).heap.size = w.heap.size := by simp only [put4, World.setCell_size']
theorem put4_far {w : World} {g g' : Nat} {t : TypeId} {cs : Array Value} (h : Bk w g t cs) (hne : g ≠ g') (a b c d : Value) : Bk (put4 w g' a b c d) g t cs :=
  (((h.far (p := ⟨g', 0, none⟩) hne a).far (p := ⟨g', 1, none⟩) hne b).far (p := ⟨g', 2, none⟩) hne c).far (p := ⟨g', 3, none⟩) hne d

theorem own_up {w w' : World} {base e : Nat} {size n : Nat} {v : Value} {xs : List Value} (h : w.ownsRow base e size v n xs) (hb : Below w.heap.size w w') : w'.ownsRow base e size v n xs := by
  rcases h.2 with ⟨hv, hn⟩ | ⟨g, c, cur, hv, hB, hh, hr⟩
  · exact ⟨h.1, .inl ⟨hv, hn⟩⟩
  · exact ⟨h.1, .inr ⟨g, c, cur, hv, hB, (hb.block g (Array.getElem?_eq_some_iff.1 hh).1).trans hh, hr⟩⟩
/-- a part's value, its entries at an address -/
def ptV (s x : Int) (f : Bool) (A : Option Addr) (n c : Nat) : Value := .agg #[.int .i64 s, .int .i64 x, .bool f, .slice A n c]
/-- the value reads as the part -/
def PtAt (w : World) (v : Value) (p : Pt) : Prop := ∃ A c, v = ptV p.seq p.next p.fin A p.l.length c ∧ p.l.length ≤ c ∧ c ≤ maxLen ∧ Rd w w.heap.size A (ensV p.l)
theorem PtAt.up {w w' : World} {v : Value} {p : Pt} (h : PtAt w v p) (hb : Below w.heap.size w w') : PtAt w' v p := by
  obtain ⟨A, c, rfl, h1, h2, h3⟩ := h
  exact ⟨A, c, rfl, h1, h2, (h3.below hb).mono hb.size⟩
theorem PtAt.none_ (w : World) : PtAt w (ptV 0 0 false none 0 0) noP := ⟨none, 0, rfl, Nat.le_refl _, by simp, Rd.nil_⟩
end Go.Proofs.YtnipfonglheofaaDoor
