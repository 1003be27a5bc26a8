/-
  What the functions of title answer, as properties (shown of the landed code elsewhere); the chapter's examples and a text's beginning by them.
-/
import Derived.Test.YtgboccepgbeihaaRef09e
import Derived.Test.YtgboccepgbeihaaRef09g
import Derived.Test.YtgboccepgbeihaaRef09h
namespace Go.Proofs.Ytgboccepgbeihaa
open Go.RowKit
set_option maxRecDepth 100000
set_option linter.unusedVariables false

theorem via1T {a b : World} (h : Hid (Below a.heap.size a b)) : Below a.heap.size a b := h
theorem via2T {a b c : World} (h : Below b.heap.size b c) (h' : Hid (Below a.heap.size a b)) : Below a.heap.size a c := h'.out.trans (h.mono h'.out.size)
/-! Each is said of a base world: of any world that has it unchanged below; of texts of at most so many octets. -/
structure IsTC (w0 : World) : Prop where
  call : ∀ (l : List UInt8) (w : World), l.length ≤ 4000 → (hB : Below w0.heap.size w0 w := by first | exact Below.refl _ _ | assumption | exact via1T (by assumption) | exact via2T (by assumption) (by assumption)) →
  Calls Try.prog 24 #[.string (str l)] w fun e w' => e = .returned (.bool (isT l)) ∧ Below w.heap.size w w'
structure OrderTC (w0 : World) : Prop where
  call : ∀ (a b : List UInt8) (w : World), a.length ≤ 4000 → b.length ≤ 4000 → (hB : Below w0.heap.size w0 w := by first | exact Below.refl _ _ | assumption | exact via1T (by assumption) | exact via2T (by assumption) (by assumption)) →
  Calls Try.prog 26 #[.string (str a), .string (str b)] w fun e w' => e = .returned (.int .i64 (ordT a b)) ∧ Below w.heap.size w w'
theorem IsTC.up {a b : World} (h : IsTC a) (hb : Below a.heap.size a b) : IsTC b := ⟨fun l w h1 h2 => h.call l w h1 (hb.trans (h2.mono hb.size))⟩
/-! reckoned, with as many steps as are asked for -/
def toksF : Nat → List UInt8 → List Tk
  | 0, _ => []
  | n + 1, l => if l = [] then [] else tkOf l :: toksF n (l.drop (widN l))
theorem toks_F : ∀ (n : Nat) (l : List UInt8), l.length ≤ n → toks l = toksF n l
  | 0, l, h => by
    obtain rfl : l = [] := List.length_eq_zero_iff.1 (by omega)
    exact toks_nil
  | n + 1, l, h => by
    rw [toksF]
    by_cases e : l = []
    · rw [if_pos e, e, toks_nil]
    · have hw := wid_le e
      rw [if_neg e, toks_cons e, toks_F n _ (by rw [List.length_drop]; omega)]
theorem ex_count : cntT [97, 255, 195, 169] = 2 ∧ oddT [97, 255, 195, 169] = 1 := by
  unfold cntT oddT
  rw [toks_F 4 _ (by decide)]
  decide
theorem ex_is : isT [195, 169, 47] = false ∧ isT [195, 169] = true ∧ isT [46, 46] = false := by
  unfold isT
  rw [toks_F 3 [195, 169, 47] (by decide), toks_F 3 [195, 169] (by decide), toks_F 3 [46, 46] (by decide)]
  decide
theorem ex_fit : fitT [97, 47, 98] = [97, 98] ∧ fitT [] = [120] := by
  have e1 : cutT [97, 47, 98] = [97, 98] := by unfold cutT; rw [toks_F 3 _ (by decide)]; decide
  have e2 : cutT [] = [] := by unfold cutT; rw [toks_F 0 _ (by decide)]; decide
  have e3 : cutT [120] = [120] := by unfold cutT; rw [toks_F 1 _ (by decide)]; decide
  have e4 : isT [97, 98] = true := by unfold isT; rw [toks_F 2 _ (by decide)]; decide
  have e5 : isT [] = false := by unfold isT; rw [toks_F 0 _ (by decide)]; decide
  unfold fitT
  rw [e1, e4, e2, e5, if_pos rfl, if_neg (by decide), e3]
  exact ⟨rfl, rfl⟩

end Go.Proofs.Ytgboccepgbeihaa
