/-
  What the functions of reach answer, as properties (shown of the landed code elsewhere), and the chapter's examples by them.
-/
import Derived.Test.YtnipfonglheofaaDoorRef08c
import Derived.Test.YtnipfonglheofaaDoorRef08d
import Derived.Test.YtnipfonglheofaaDoorReachT
namespace Go.Proofs.YtnipfonglheofaaDoor
open Go.RowKit
set_option maxRecDepth 100000
set_option linter.unusedVariables false

def errP (n : Int) : Int := if 0 ≤ n ∧ n ≤ 3620 then 0 else 4
def errN (n : Int) : Int := if 0 ≤ n ∧ n < 258 then 0 else 4
def errR (r : Int) : Int := if r < 0 then 4 else 0
def valR (r : Int) : Int := if r < 0 then 0 else r
theorem via1 {a b : World} (h : Hid (Below a.heap.size a b)) : Below a.heap.size a b := h
theorem via2 {a b c : World} (h : Below b.heap.size b c) (h' : Hid (Below a.heap.size a b)) : Below a.heap.size a c := h'.out.trans (h.mono h'.out.size)
/-! Each is said of a base world: of any world that has it unchanged below. -/
structure PathC (w0 : World) : Prop where
  call : ∀ (n : Int) (l : List Int) (q : Int) (w : World), refP n = l → errP n = q → (hB : Below w0.heap.size w0 w := by first | exact Below.refl _ _ | assumption | exact via1 (by assumption) | exact via2 (by assumption) (by assumption)) → (hn : -9223372036854775808 ≤ n ∧ n ≤ 9223372036854775807 := by omega) →
  Calls Tryd.prog 10 #[.int .i64 n] w fun e w' => ∃ A k c, e = .returned (.tuple #[.slice A k c, .int .i64 q]) ∧ l.length = k ∧ k ≤ c ∧ c ≤ maxLen ∧ Rd w' w'.heap.size A (l.map iv) ∧ Below w.heap.size w w'
structure NodeC (w0 : World) : Prop where
  call : ∀ (n : Int) (l : List Int) (q : Int) (w : World), refN n = l → errN n = q → (hB : Below w0.heap.size w0 w := by first | exact Below.refl _ _ | assumption | exact via1 (by assumption) | exact via2 (by assumption) (by assumption)) → (hn : -9223372036854775808 ≤ n ∧ n ≤ 9223372036854775807 := by omega) →
  Calls Tryd.prog 5 #[.int .i64 n] w fun e w' => ∃ A k c, e = .returned (.tuple #[.slice A k c, .int .i64 q]) ∧ l.length = k ∧ k ≤ c ∧ c ≤ maxLen ∧ Rd w' w'.heap.size A (l.map iv) ∧ Below w.heap.size w w'
structure BlockC (w0 : World) : Prop where
  call : ∀ (A : Option Addr) (m c : Nat) (l : List Int) (r x q : Int) (w : World), l.length = m → m ≤ c → c ≤ maxLen → Rd w w.heap.size A (l.map iv) → IsBlk l r → valR r = x → errR r = q → (hB : Below w0.heap.size w0 w := by first | exact Below.refl _ _ | assumption | exact via1 (by assumption) | exact via2 (by assumption) (by assumption)) →
  Calls Tryd.prog 6 #[.slice A m c] w fun e w' => e = .returned (.tuple #[.int .i64 x, .int .i64 q]) ∧ Below w.heap.size w w'
structure NumberC (w0 : World) : Prop where
  call : ∀ (A : Option Addr) (m c : Nat) (l : List Int) (r x q : Int) (w : World), l.length = m → m ≤ c → c ≤ maxLen → Rd w w.heap.size A (l.map iv) → IsNum l r → valR r = x → errR r = q → (hB : Below w0.heap.size w0 w := by first | exact Below.refl _ _ | assumption | exact via1 (by assumption) | exact via2 (by assumption) (by assumption)) →
  Calls Tryd.prog 7 #[.slice A m c] w fun e w' => e = .returned (.tuple #[.int .i64 x, .int .i64 q]) ∧ Below w.heap.size w w'
/-- the blocks of a list that lie in a file -/
def okL (l : List Int) : Prop := ∀ b ∈ l, 0 ≤ b ∧ b ≤ 3620
structure NodesC (w0 : World) : Prop where
  call : ∀ (A : Option Addr) (m c : Nat) (l : List Int) (w : World), l.length = m → m ≤ c → c ≤ maxLen → m ≤ 1000 → Rd w w.heap.size A (l.map iv) → (∀ y ∈ l, -9223372036854775808 ≤ y ∧ y ≤ 9223372036854775807) → (hB : Below w0.heap.size w0 w := by first | exact Below.refl _ _ | assumption | exact via1 (by assumption) | exact via2 (by assumption) (by assumption)) →
  Calls Tryd.prog 4 #[.slice A m c] w fun e w' => ∃ A' k c' ns q, e = .returned (.tuple #[.slice A' k c', .int .i64 q]) ∧ ((okL l ∧ ns = idxF (onL (l.map Int.toNat)) 258 ∧ q = 0) ∨ (¬ okL l ∧ ns = [] ∧ q = 4)) ∧ ns.length = k ∧ k ≤ c' ∧ c' ≤ maxLen ∧ Rd w' w'.heap.size A' (ns.map iv) ∧ Below w.heap.size w w'
theorem PathC.up {a b : World} (h : PathC a) (hb : Below a.heap.size a b) : PathC b := ⟨fun n l q w h1 h2 h3 h4 => h.call n l q w h1 h2 (hb.trans (h3.mono hb.size)) h4⟩
theorem NumberC.up {a b : World} (h : NumberC a) (hb : Below a.heap.size a b) : NumberC b := ⟨fun A m c l r x q w h1 h2 h3 h4 h5 h6 h7 h8 => h.call A m c l r x q w h1 h2 h3 h4 h5 h6 h7 (hb.trans (h8.mono hb.size))⟩
theorem isNum_5 : IsNum [7, 2] 5 := .inl ⟨5, by omega, by decide +kernel, rfl⟩
theorem isNum_49 : IsNum [8, 1, 1] 49 := .inl ⟨49, by omega, by decide +kernel, rfl⟩

end Go.Proofs.YtnipfonglheofaaDoor
