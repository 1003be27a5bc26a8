/-
  What the functions of title answer, as properties (shown of the landed code elsewhere); the chapter's examples and a text's beginning by them.
-/
import Derived.Test.YtopjajfkncnihaaRef09e
import Derived.Test.YtopjajfkncnihaaRef09g
import Derived.Test.YtopjajfkncnihaaRef09h
namespace Go.Proofs.Ytopjajfkncnihaa
open Go.RowKit
set_option maxRecDepth 100000
set_option linter.unusedVariables false

theorem via1T {a b : World} (h : Hid (Below a.heap.size a b)) : Below a.heap.size a b := h
theorem via2T {a b c : World} (h : Below b.heap.size b c) (h' : Hid (Below a.heap.size a b)) : Below a.heap.size a c := h'.out.trans (h.mono h'.out.size)
/-! Each is said of a base world: of any world that has it unchanged below; of texts of at most so many octets. -/
structure CountTC (w0 : World) : Prop where
  call : ∀ (l : List UInt8) (w : World), l.length ≤ 4000 → (hB : Below w0.heap.size w0 w := by first | exact Below.refl _ _ | assumption | exact via1T (by assumption) | exact via2T (by assumption) (by assumption)) →
  Calls Try.prog 11 #[.string (str l)] w fun e w' => e = .returned (.tuple #[.int .i64 (cntT l : Int), .int .i64 (oddT l : Int)]) ∧ Below w.heap.size w w'
structure IsTC (w0 : World) : Prop where
  call : ∀ (l : List UInt8) (w : World), l.length ≤ 4000 → (hB : Below w0.heap.size w0 w := by first | exact Below.refl _ _ | assumption | exact via1T (by assumption) | exact via2T (by assumption) (by assumption)) →
  Calls Try.prog 13 #[.string (str l)] w fun e w' => e = .returned (.bool (isT l)) ∧ Below w.heap.size w w'
structure HeadTC (w0 : World) : Prop where
  call : ∀ (l : List UInt8) (n : Int) (w : World), l.length ≤ 4000 → (hB : Below w0.heap.size w0 w := by first | exact Below.refl _ _ | assumption | exact via1T (by assumption) | exact via2T (by assumption) (by assumption)) → (hn : -9223372036854775808 ≤ n ∧ n ≤ 9223372036854775807 := by omega) →
  Calls Try.prog 16 #[.string (str l), .int .i64 n] w fun e w' => e = .returned (.string (str (headT l n))) ∧ Below w.heap.size w w'
structure OrderTC (w0 : World) : Prop where
  call : ∀ (a b : List UInt8) (w : World), a.length ≤ 4000 → b.length ≤ 4000 → (hB : Below w0.heap.size w0 w := by first | exact Below.refl _ _ | assumption | exact via1T (by assumption) | exact via2T (by assumption) (by assumption)) →
  Calls Try.prog 18 #[.string (str a), .string (str b)] w fun e w' => e = .returned (.int .i64 (ordT a b)) ∧ Below w.heap.size w w'
structure FoldTC (w0 : World) : Prop where
  call : ∀ (l : List UInt8) (w : World), l.length ≤ 4000 → (hB : Below w0.heap.size w0 w := by first | exact Below.refl _ _ | assumption | exact via1T (by assumption) | exact via2T (by assumption) (by assumption)) →
  Calls Try.prog 20 #[.string (str l)] w fun e w' => e = .returned (.string (str (foldT l))) ∧ Below w.heap.size w w'
structure FitTC (w0 : World) : Prop where
  call : ∀ (l : List UInt8) (w : World), l.length ≤ 4000 → (hB : Below w0.heap.size w0 w := by first | exact Below.refl _ _ | assumption | exact via1T (by assumption) | exact via2T (by assumption) (by assumption)) →
  Calls Try.prog 22 #[.string (str l)] w fun e w' => e = .returned (.string (str (fitT l))) ∧ Below w.heap.size w w'
theorem CountTC.up {a b : World} (h : CountTC a) (hb : Below a.heap.size a b) : CountTC b := ⟨fun l w h1 h2 => h.call l w h1 (hb.trans (h2.mono hb.size))⟩
theorem IsTC.up {a b : World} (h : IsTC a) (hb : Below a.heap.size a b) : IsTC b := ⟨fun l w h1 h2 => h.call l w h1 (hb.trans (h2.mono hb.size))⟩
theorem FitTC.up {a b : World} (h : FitTC a) (hb : Below a.heap.size a b) : FitTC b := ⟨fun l w h1 h2 => h.call l w h1 (hb.trans (h2.mono hb.size))⟩

/-! reckoned, with as many steps as are asked for -/
def toksF : Nat → List UInt8 → List Tk
  | 0, _ => []
  | n + 1, l => if l = [] then [] else tkOf l :: toksF n (l.drop (widN l))
theorem toks_F : ∀ (n : Nat) (l : List UInt8), l.length ≤ n → toks l = toksF n l
  | 0, l, h => by
    obtain rfl : l = [] := List.length_eq_zero_iff.1 (by omega)
    exact toks_nil
  | n + 1, l, h => by
    rw [toksF]
    by_cases e : l = []
    · rw [if_pos e, e, toks_nil]
    · have hw := wid_le e
      rw [if_neg e, toks_cons e, toks_F n _ (by rw [List.length_drop]; omega)]
theorem ex_count : cntT [97, 255, 195, 169] = 2 ∧ oddT [97, 255, 195, 169] = 1 := by
  unfold cntT oddT
  rw [toks_F 4 _ (by decide)]
  decide
theorem ex_is : isT [195, 169, 47] = false ∧ isT [195, 169] = true ∧ isT [46, 46] = false := by
  unfold isT
  rw [toks_F 3 [195, 169, 47] (by decide), toks_F 3 [195, 169] (by decide), toks_F 3 [46, 46] (by decide)]
  decide
theorem ex_fit : fitT [97, 47, 98] = [97, 98] ∧ fitT [] = [120] := by
  have e1 : cutT [97, 47, 98] = [97, 98] := by unfold cutT; rw [toks_F 3 _ (by decide)]; decide
  have e2 : cutT [] = [] := by unfold cutT; rw [toks_F 0 _ (by decide)]; decide
  have e3 : cutT [120] = [120] := by unfold cutT; rw [toks_F 1 _ (by decide)]; decide
  have e4 : isT [97, 98] = true := by unfold isT; rw [toks_F 2 _ (by decide)]; decide
  have e5 : isT [] = false := by unfold isT; rw [toks_F 0 _ (by decide)]; decide
  unfold fitT
  rw [e1, e4, e2, e5, if_pos rfl, if_neg (by decide), e3]
  exact ⟨rfl, rfl⟩

set_option maxHeartbeats 2000000 in
theorem awakeT_base (w : World) (HC : CountTC w) (HI : IsTC w) (HF : FitTC w) : Calls Try.prog 15 #[] w fun e w' => e = .returned (.bool true) ∧ Below w.heap.size w w' := by
  have HC := Lib.hid HC
  have HI := Lib.hid HI
  have HF := Lib.hid HF
  go_enter Try.func15, Try.ntmps15
  go_wp2_with fail
  refine (HC.out.call [97, 255, 195, 169] _ (by decide)).mono ?_
  rintro e w1 ⟨rfl, hb1⟩
  rw [ex_count.1, ex_count.2]
  have HB := Lib.hid hb1
  clear hb1
  go_wp2_with fail
  refine (HI.out.call [195, 169, 47] _ (by decide)).mono ?_
  rintro e w2 ⟨rfl, hb⟩
  rw [ex_is.1]
  have HB := Lib.hid (HB.out.trans (hb.mono HB.out.size))
  clear hb
  go_wp2_with fail
  refine (HI.out.call [195, 169] _ (by decide)).mono ?_
  rintro e w3 ⟨rfl, hb⟩
  rw [ex_is.2.1]
  have HB := Lib.hid (HB.out.trans (hb.mono HB.out.size))
  clear hb
  go_wp2_with fail
  refine (HI.out.call [46, 46] _ (by decide)).mono ?_
  rintro e w4 ⟨rfl, hb⟩
  rw [ex_is.2.2]
  have HB := Lib.hid (HB.out.trans (hb.mono HB.out.size))
  clear hb
  go_wp2_with fail
  refine (HF.out.call [97, 47, 98] _ (by decide)).mono ?_
  rintro e w5 ⟨rfl, hb⟩
  rw [ex_fit.1]
  have HB := Lib.hid (HB.out.trans (hb.mono HB.out.size))
  have hs1 : (str [97, 98]).toList = [97, 98] := str_toList _
  clear hb
  go_wp2_with fail
  refine (HF.out.call [] _ (by decide)).mono ?_
  rintro e w6 ⟨rfl, hb⟩
  rw [ex_fit.2]
  have HB := Lib.hid (HB.out.trans (hb.mono HB.out.size))
  have hs2 : (str [120]).toList = [120] := str_toList _
  clear hb
  go_wp2
  go_ret
  exact ⟨rfl, HB.out⟩
structure AwakeTC (w0 : World) : Prop where
  call : ∀ (w : World), (hB : Below w0.heap.size w0 w := by first | exact Below.refl _ _ | assumption | exact via1T (by assumption) | exact via2T (by assumption) (by assumption)) → Calls Try.prog 15 #[] w fun e w' => e = .returned (.bool true) ∧ Below w.heap.size w w'
theorem awakeT_any {w0 : World} (HC : CountTC w0) (HI : IsTC w0) (HF : FitTC w0) : AwakeTC w0 := ⟨fun w hb => awakeT_base w (HC.up hb) (HI.up hb) (HF.up hb)⟩
theorem fewT_any (l : List UInt8) (w : World) (hl : l.length ≤ 9223372036854775807) : Calls Try.prog 10 #[.string (str l)] w fun e w' => e = .returned (.string (str (l.take 200))) ∧ w = w' := by
  have hsz := str_size l
  have hx := str_ext l 0 200
  rw [List.drop_zero] at hx
  by_cases h : 200 < l.length
  · obtain ⟨T, hT⟩ : ∃ T, str (l.take 200) = T := ⟨_, rfl⟩
    rw [hT] at hx ⊢
    obtain ⟨s, hs⟩ : ∃ s, str l = s := ⟨_, rfl⟩
    rw [hs] at hsz hx ⊢
    obtain ⟨n, hn⟩ : ∃ n, l.length = n := ⟨_, rfl⟩
    rw [hn] at hsz h hl
    have h' : (200 : Int) < (n : Int) := by omega
    clear hT hs hn
    go_enter Try.func10, Try.ntmps10
    go_wp2
    go_ret
    exact ⟨rfl, rfl⟩
  · rw [List.take_of_length_le (by omega)]
    obtain ⟨s, hs⟩ : ∃ s, str l = s := ⟨_, rfl⟩
    rw [hs] at hsz ⊢
    obtain ⟨n, hn⟩ : ∃ n, l.length = n := ⟨_, rfl⟩
    rw [hn] at hsz h hl
    have h' : ¬ (200 : Int) < (n : Int) := by omega
    clear hs hn hx
    go_enter Try.func10, Try.ntmps10
    go_wp2
    go_ret
    exact ⟨rfl, rfl⟩
end Go.Proofs.Ytopjajfkncnihaa
