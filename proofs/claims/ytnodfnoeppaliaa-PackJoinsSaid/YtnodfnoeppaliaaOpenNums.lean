/-
  An argument that is a slice of numbers of records, as a list; whatever its address.
-/
import Derived.Test.YtnodfnoeppaliaaOpen
import Derived.Test.YtnodfnoeppaliaaPack2
import Derived.Deep.Slices
import Derived.Deep.Fields
namespace Go.Proofs.Ytnodfnoeppaliaa
open Go.ChangeShapes Go.WideShapes Go.ChangeAt Go.RowKit Go.Deep
set_option linter.unusedVariables false

theorem numsV_inv : ∀ (l : List Num') (j : Nat) (u : Value), (numsV l)[j]? = some u → ∃ p, l[j / 2]? = some p ∧ (j % 2 = 0 ∧ u = .int .i64 p.1 ∨ j % 2 = 1 ∧ u = .int .u64 (p.2 : Int))
  | [], j, u, h => by simp [numsV] at h
  | q :: l, 0, u, h => by
    simp [numsV] at h; exact ⟨q, rfl, .inl ⟨rfl, h.symm⟩⟩
  | q :: l, 1, u, h => by
    simp [numsV] at h; exact ⟨q, rfl, .inr ⟨rfl, h.symm⟩⟩
  | q :: l, j + 2, u, h => by
    have e : numsV (q :: l) = .int .i64 q.1 :: .int .u64 (q.2 : Int) :: numsV l := rfl
    rw [e] at h
    obtain ⟨p, hp, hu⟩ := numsV_inv l j u (by simpa using h)
    refine ⟨p, ?_, ?_⟩
    · rw [show (j + 2) / 2 = j / 2 + 1 from by omega]; simpa using hp
    · rw [show (j + 2) % 2 = j % 2 from by omega]; exact hu

theorem gather (w : World) (a : Addr) : ∀ m : Nat, (∀ i, i < m → ∃ p : Num', w.cell? (a.add (i * 2)) = some (.int .i64 p.1) ∧ w.cell? (a.add (i * 2 + 1)) = some (.int .u64 (p.2 : Int)) ∧ p.2 < 18446744073709551616) →
    ∃ l : List Num', l.length = m ∧ ∀ i p, l[i]? = some p → w.cell? (a.add (i * 2)) = some (.int .i64 p.1) ∧ w.cell? (a.add (i * 2 + 1)) = some (.int .u64 (p.2 : Int)) ∧ p.2 < 18446744073709551616
  | 0, _ => ⟨[], rfl, fun i p h => by simp at h⟩
  | m + 1, h => by
    obtain ⟨l, hl, hc⟩ := gather w a m fun i hi => h i (by omega)
    obtain ⟨p, hp⟩ := h m (by omega)
    refine ⟨l ++ [p], by simp [hl], fun i q hq => ?_⟩
    rcases Nat.lt_or_ge i l.length with hi | hi
    · rw [List.getElem?_append_left hi] at hq; exact hc i q hq
    · rw [List.getElem?_append_right hi] at hq
      have h0 : i - l.length = 0 := by
        rcases Nat.eq_zero_or_pos (i - l.length) with h | h
        · exact h
        · rw [List.getElem?_eq_none (by simp; omega)] at hq; cases hq
      rw [h0] at hq
      simp at hq
      subst hq
      obtain rfl : i = m := by omega
      exact hp

section
variable {H : Type} {enc : TypeId × Value → H} {w : World} {sp : Nat → Bool} {hd : Bool}
theorem nums_in {a : Option Addr} {len cap : Nat} {d : DataW H} {p : List MemPlace} (h : DataW.Trod enc Try.prog w 0 sp hd 37 (.slice a len cap) d p) :
    ∃ l : List Num', l.length = len ∧ len ≤ cap ∧ cap ≤ maxLen ∧ Rd w w.heap.size a (numsV l) ∧ ∀ p ∈ l, p.2 < 18446744073709551616 := by
  obtain ⟨fuel, hf⟩ := h
  have hC : Try.prog.cellsOf 42 = 2 := by kernel_rfl
  have c3 : Try.prog.cellsOf 3 = 1 := by kernel_rfl
  have c4 : Try.prog.cellsOf 40 = 1 := by kernel_rfl
  rcases open_slice Try.underlying37 hf with ⟨hcs, _⟩ | ⟨x, l, c, m, n, D, Pl, hcs, hb, hl, hm, hmm, hx, hi⟩
  · simp [Value.cells] at hcs
    obtain ⟨rfl, rfl, rfl⟩ := hcs
    exact ⟨[], rfl, Nat.le_refl _, by simp, Rd.nil_, fun n hn => by simp at hn⟩
  · simp [Value.cells] at hcs
    obtain ⟨rfl, rfl, rfl⟩ := hcs
    have hlm : len ≤ m := by rw [hmm]; split <;> omega
    obtain ⟨L, hL, hc⟩ := gather w x len fun i hil => by
      obtain ⟨cs', hcells, ht⟩ := hi i (by omega)
      rw [hC] at hcells
      obtain ⟨xs, n', _, _, hlen, hxl, hfs⟩ := DataW.trod_struct Try.underlying42 ht
      obtain ⟨_, hcl, hat⟩ := World.cells?_some hcells
      match cs', hcl with
      | [u0, u1], _ =>
        have h0 : DataW.trod enc Try.prog w 0 sp hd n' 3 (List.take (Try.prog.cellsOf 3) [u0, u1]) = xs[0]? := hfs 0 _ rfl
        have h1 : DataW.trod enc Try.prog w 0 sp hd n' 40 (List.take (Try.prog.cellsOf 40) [u1]) = xs[1]? := hfs 1 _ rfl
        rw [c3] at h0
        rw [c4] at h1
        simp only [List.take_succ_cons, List.take_zero] at h0 h1
        have hxl' : xs.length = 2 := hxl
        have hx0 : xs[0]? = some (xs[0]'(by omega)) := List.getElem?_eq_getElem _
        have hx1 : xs[1]? = some (xs[1]'(by omega)) := List.getElem?_eq_getElem _
        rw [hx0] at h0
        rw [hx1] at h1
        obtain ⟨q0, e0, _, w0⟩ := DataW.trod_int Try.underlying3 h0
        obtain ⟨q1, e1, _, w1⟩ := DataW.trod_int Try.underlying40 h1
        have hb1 := bounds_u64 w1
        refine ⟨(q0, q1.toNat), ?_, ?_, by simp only; omega⟩
        · have := hat 0 (by omega)
          rw [add_add'] at this
          simp only [List.cons.injEq, and_true] at e0
          subst e0
          exact this
        · have := hat 1 (by omega)
          rw [add_add'] at this
          simp only [List.cons.injEq, and_true] at e1
          subst e1
          rw [show ((q1.toNat : Nat) : Int) = q1 from by omega]
          exact this
    refine ⟨L, hL, hl, hm, fun j u hu => ?_, fun p hp => ?_⟩
    · obtain ⟨p, hp, hu'⟩ := numsV_inv L j u hu
      have h3 := hc _ p hp
      rcases hu' with ⟨h0, rfl⟩ | ⟨h1, rfl⟩
      · have h4 := h3.1
        rw [show j / 2 * 2 = j from by omega] at h4
        exact ⟨x, rfl, by have := World.block_lt_of_cell? w _ h4; rwa [block_add] at this, h4⟩
      · have h4 := h3.2.1
        rw [show j / 2 * 2 + 1 = j from by omega] at h4
        exact ⟨x, rfl, by have := World.block_lt_of_cell? w _ h4; rwa [block_add] at this, h4⟩
    · obtain ⟨i, hi', rfl⟩ := List.mem_iff_getElem.1 hp
      exact (hc i _ (List.getElem?_eq_getElem hi')).2.2
theorem nums_trod {v : Value} {fuel : Nat} {y : DataW H × List MemPlace} (h : DataW.trod enc Try.prog w 0 sp hd fuel 37 [v] = some y) :
    ∃ (a : Option Addr) (len cap : Nat) (l : List Num'), v = .slice a len cap ∧ l.length = len ∧ len ≤ cap ∧ cap ≤ maxLen ∧ Rd w w.heap.size a (numsV l) ∧ ∀ p ∈ l, p.2 < 18446744073709551616 := by
  have hf : ∃ a len cap, v = .slice a len cap := by
    rcases open_slice Try.underlying37 h with ⟨hcs, _⟩ | ⟨x, l, c, m, n, D, Pl, hcs, _⟩
    · simp only [List.cons.injEq, and_true] at hcs
      exact ⟨_, _, _, hcs⟩
    · simp only [List.cons.injEq, and_true] at hcs
      exact ⟨_, _, _, hcs⟩
  obtain ⟨a, len, cap, rfl⟩ := hf
  obtain ⟨l, h1, h2, h3, h4, h5⟩ := nums_in (a := a) (len := len) (cap := cap) (d := y.1) (p := y.2) ⟨fuel, h⟩
  exact ⟨a, len, cap, l, rfl, h1, h2, h3, h4, h5⟩
end
end Go.Proofs.Ytnodfnoeppaliaa
