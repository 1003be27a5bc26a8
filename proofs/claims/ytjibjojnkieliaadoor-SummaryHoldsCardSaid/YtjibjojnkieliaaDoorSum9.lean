/-
  summary.Decode, Whole and Of, at whatever arguments.
-/
import Derived.Test.YtjibjojnkieliaaDoorSum8
namespace Go.Proofs.YtjibjojnkieliaaDoor
open Go.RowKit
set_option linter.unusedVariables false

theorem sumDecode_any (B : Nat) (A : Option Addr) (n c : Nat) (bs : List UInt8) (w : World) (hn : bs.length = n) (hr : Rd w B A (bs.map bv)) (hB : B ≤ w.heap.size) (hc : n ≤ c) (hcm : c ≤ maxLen) (ht : Tab w) :
    Calls Tryd.prog 13 #[.slice A n c] w fun e w' => ∃ v, e = .returned (.tuple #[v, .int .i64 (decQ bs)]) ∧ PtAt w' v (decR bs) ∧ Below w.heap.size w w' := by
  cases hh : heldB bs with
  | false =>
    have hq := decQ_short hh
    refine (sumDecode_short A n c bs w hn (hr.mono hB) hc hh ht).mono ?_
    rintro e w' ⟨rfl, hb⟩
    exact ⟨_, by rw [hq], by rw [decR, hq]; exact PtAt.none_ _, hb⟩
  | true =>
    have h128 := heldB_128 hh
    obtain rfl : n = 128 := by omega
    obtain ⟨b, o, rfl, _, _⟩ := hr.plain (by simp; omega)
    exact sumDecode_held b o c bs w h128 (hr.mono hB) hc hcm hh ht

/-- the octets of blocks -/
def octs (ps : List Part) : List (List UInt8) := ps.map (·.2.2)
theorem pair_iff (l : List En) (ps : List Part) (n m : Nat) (hl : l.length = n) (hm : ps.length = m) : (decide (n = m) && all128 ps) = true ↔ Pair l (octs ps) := by
  rw [Bool.and_eq_true, decide_eq_true_eq, all128, List.all_eq_true]
  unfold Pair octs
  rw [List.length_map, hl, hm]
  constructor
  · rintro ⟨h1, h2⟩
    refine ⟨h1, fun b hb => ?_⟩
    obtain ⟨p, hp, rfl⟩ := List.mem_map.1 hb
    simpa using h2 p hp
  · rintro ⟨h1, h2⟩
    exact ⟨h1, fun p hp => by simpa using h2 _ (List.mem_map_of_mem hp)⟩
theorem whole_iff (s x : Int) (f : Bool) (l : List En) (ps : List Part) : WholeP ⟨s, x, f, l⟩ (octs ps) ↔ ptOk ⟨s, x, f, l⟩ = true ∧ Pair l (octs ps) ∧ SumsAre l ps := by
  unfold WholeP SumsAre octs
  refine and_congr_right fun _ => and_congr_right fun _ => ⟨fun h k y p h1 h2 => h k y p.2.2 h1 (by simp [h2]), fun h k y b h1 h2 => ?_⟩
  rw [List.getElem?_map] at h2
  cases hp : ps[k]? with
  | none => rw [hp] at h2; cases h2
  | some p => rw [hp] at h2; cases h2; exact h k y p h1 hp
theorem sumWhole_any (s x : Int) (f : Bool) (A A' : Option Addr) (n c m c' : Nat) (l : List En) (ps : List Part) (t : Bool) (w : World) (hl : l.length = n) (hm : ps.length = m) (hn : n ≤ 9223372036854775807) (hmm : m ≤ 9223372036854775807) (hr : Rd w w.heap.size A (ensV l)) (hp : PartsIn w w.heap.size A' ps) (hT : Tab w)
    (ht : t = true ↔ WholeP ⟨s, x, f, l⟩ (octs ps)) :
    Calls Tryd.prog 18 #[ptV s x f A n c, .slice A' m c'] w fun e w' => e = .returned (.bool t) ∧ Below w.heap.size w w' := by
  rw [whole_iff, ← pair_iff l ps n m hl hm] at ht
  cases h1 : ptOk ⟨s, x, f, l⟩ with
  | false =>
    obtain rfl : t = false := by cases t with | false => rfl | true => have := (ht.1 rfl).1; rw [h1] at this; cases this
    exact sumWhole_no s x f A A' n c m c' l ps w hl hm hn hmm hr hp (.inl h1)
  | true =>
    cases h2 : (decide (n = m) && all128 ps) with
    | false =>
      obtain rfl : t = false := by cases t with | false => rfl | true => have := (ht.1 rfl).2.1; rw [h2] at this; cases this
      exact sumWhole_no s x f A A' n c m c' l ps w hl hm hn hmm hr hp (.inr h2)
    | true =>
      have h3 := h2
      rw [Bool.and_eq_true, decide_eq_true_eq] at h3
      obtain ⟨rfl, h4⟩ := h3
      exact sumWhole_rest s x f A A' n c c' l ps t w hl hm hr hp h1 h4 hT ⟨fun h => (ht.1 h).2.2, fun h => ht.2 ⟨h1, h2, h⟩⟩
/-- what Of makes -/
def ofOk (s x : Int) (f : Bool) (l : List En) (ps : List Part) : Bool := ptOk ⟨s, x, f, l⟩ && (decide (l.length = ps.length) && all128 ps)
def ofP (s x : Int) (f : Bool) (l : List En) (ps : List Part) : Pt := if ofOk s x f l ps then ⟨s, x, f, withSums l (octs ps)⟩ else noP
def ofQ (s x : Int) (f : Bool) (l : List En) (ps : List Part) : Int := if ofOk s x f l ps then 0 else 1
theorem sumOf_any (s x : Int) (f : Bool) (A A' : Option Addr) (n c m c' : Nat) (l : List En) (ps : List Part) (w : World) (hl : l.length = n) (hm : ps.length = m) (hn : n ≤ 9223372036854775807) (hmm : m ≤ 9223372036854775807) (hr : Rd w w.heap.size A (ensV l)) (hp : PartsIn w w.heap.size A' ps) (hT : Tab w) :
    Calls Tryd.prog 20 #[.int .i64 s, .int .i64 x, .bool f, .slice A n c, .slice A' m c'] w fun e w' => ∃ v, e = .returned (.tuple #[v, .int .i64 (ofQ s x f l ps)]) ∧ PtAt w' v (ofP s x f l ps) ∧ Below w.heap.size w w' := by
  cases h : ofOk s x f l ps with
  | false =>
    have h' := h
    rw [ofOk, hl, hm, Bool.and_eq_false_iff] at h'
    refine (sumOf_no s x f A A' n c m c' l ps w hl hm hn hmm hr hp h').mono ?_
    rintro e w' ⟨rfl, hb⟩
    exact ⟨_, by rw [ofQ, h]; rfl, by rw [ofP, h]; exact PtAt.none_ _, hb⟩
  | true =>
    have h' := h
    rw [ofOk, hl, hm, Bool.and_eq_true, Bool.and_eq_true, decide_eq_true_eq] at h'
    obtain ⟨h1, rfl, h2⟩ := h'
    refine (sumOf_yes s x f A A' n c c' l _ ps w hl hm hr hp h1 h2 hT rfl).mono ?_
    rintro e w' ⟨v, rfl, hpt, hb⟩
    exact ⟨v, by rw [ofQ, h]; rfl, by rw [ofP, h]; exact hpt, hb⟩
end Go.Proofs.YtjibjojnkieliaaDoor
