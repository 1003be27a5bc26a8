/-
  An argument that is a part, by value: its numbers, its entries as a list; a part with blocks and which bits are turned over.
-/
import Derived.Test.YtjibjojnkieliaaDoorOpenAddr
import Derived.Test.YtjibjojnkieliaaDoorOpenRows
import Derived.Test.YtjibjojnkieliaaDoorSumMem
import Derived.Deep.Slices
import Derived.Deep.Fields
namespace Go.Proofs.YtjibjojnkieliaaDoor
open Go.Joins Go.ChangeShapes Go.WideShapes Go.ChangeAt Go.RowKit Go.Deep
set_option linter.unusedVariables false

theorem ensV_inv (l : List En) (j : Nat) (u : Value) (h : (ensV l)[j]? = some u) : ∃ x, l[j / 4]? = some x ∧ (enV x)[j % 4]? = some u := by
  have hj : j < (ensV l).length := (List.getElem?_eq_some_iff.1 h).1
  rw [ensV_length] at hj
  have hk : j / 4 < l.length := by omega
  refine ⟨l[j / 4], List.getElem?_eq_getElem hk, ?_⟩
  obtain ⟨n0, n1, n2, n3⟩ := ensV_get l (j / 4) _ (List.getElem?_eq_getElem hk)
  have hm : j % 4 < 4 := Nat.mod_lt _ (by omega)
  rcases (show j % 4 = 0 ∨ j % 4 = 1 ∨ j % 4 = 2 ∨ j % 4 = 3 by omega) with e | e | e | e
  · rw [e, show (enV l[j / 4])[0]? = some (.int .i64 l[j / 4].kind) from rfl, ← n0, ← h]; congr 1; omega
  · rw [e, show (enV l[j / 4])[1]? = some (.int .i64 l[j / 4].ino) from rfl, ← n1, ← h]; congr 1; omega
  · rw [e, show (enV l[j / 4])[2]? = some (.int .i64 l[j / 4].index) from rfl, ← n2, ← h]; congr 1; omega
  · rw [e, show (enV l[j / 4])[3]? = some (.int .u32 (l[j / 4].sum : Int)) from rfl, ← n3, ← h]; congr 1; omega
theorem gatherE {α : Type} (p : Nat → α → Prop) : ∀ m : Nat, (∀ i, i < m → ∃ a, p i a) → ∃ l : List α, l.length = m ∧ ∀ i a, l[i]? = some a → p i a
  | 0, _ => ⟨[], rfl, fun i p h => by simp at h⟩
  | m + 1, h => by
    obtain ⟨l, hl, hc⟩ := gatherE p m fun i hi => h i (by omega)
    obtain ⟨a, ha⟩ := h m (by omega)
    refine ⟨l ++ [a], by simp [hl], fun i q hq => ?_⟩
    rcases Nat.lt_or_ge i l.length with hi | hi
    · rw [List.getElem?_append_left hi] at hq; exact hc i q hq
    · rw [List.getElem?_append_right hi] at hq
      have h0 : i - l.length = 0 := by
        rcases Nat.eq_zero_or_pos (i - l.length) with h | h
        · exact h
        · rw [List.getElem?_eq_none (by simp; omega)] at hq; cases hq
      rw [h0] at hq
      simp at hq
      subst hq
      obtain rfl : i = m := by omega
      exact ha
section
variable {H : Type} {enc : TypeId × Value → H} {w : World} {hd : Bool} {sp : Nat → Bool}
/-- what is known of a part's entries -/
def EntsAt (w : World) (A : Option Addr) (c : Nat) (l : List En) : Prop := l.length ≤ c ∧ c ≤ maxLen ∧ Rd w w.heap.size A (ensV l) ∧ sumsOk l
theorem ents_in {a : Option Addr} {len cap : Nat} {d : DataW H} {p : List MemPlace} (h : DataW.Trod enc Tryd.prog w 0 sp hd 22 (.slice a len cap) d p) :
    ∃ l : List En, l.length = len ∧ EntsAt w a cap l := by
  obtain ⟨fuel, hf⟩ := h
  have hC : Tryd.prog.cellsOf 60 = 4 := by kernel_rfl
  have c3 : Tryd.prog.cellsOf 3 = 1 := by kernel_rfl
  have c4 : Tryd.prog.cellsOf 49 = 1 := by kernel_rfl
  rcases open_slice Tryd.underlying22 hf with ⟨hcs, _⟩ | ⟨x, l, c, m, n, D, Pl, hcs, hb, hl, hm, hmm, hx, hi⟩
  · simp [Value.cells] at hcs
    obtain ⟨rfl, rfl, rfl⟩ := hcs
    exact ⟨[], rfl, Nat.le_refl _, by simp, Rd.nil_, fun n hn => by simp at hn⟩
  · simp [Value.cells] at hcs
    obtain ⟨rfl, rfl, rfl⟩ := hcs
    have hlm : len ≤ m := by rw [hmm]; split <;> omega
    obtain ⟨L, hL, hc⟩ := gatherE (fun i q => (∀ y, y < 4 → w.cell? (x.add (i * 4 + y)) = (enV q)[y]?) ∧ q.sum < 4294967296) len fun i hil => by
      obtain ⟨cs', hcells, ht⟩ := hi i (by omega)
      rw [hC] at hcells
      obtain ⟨xs, n', _, _, hlen, hxl, hfs⟩ := DataW.trod_struct Tryd.underlying60 ht
      obtain ⟨_, hcl, hat⟩ := World.cells?_some hcells
      match cs', hcl with
      | [u0, u1, u2, u3], _ =>
        have h0 : DataW.trod enc Tryd.prog w 0 sp hd n' 3 (List.take (Tryd.prog.cellsOf 3) [u0, u1, u2, u3]) = xs[0]? := hfs 0 _ rfl
        have h1 : DataW.trod enc Tryd.prog w 0 sp hd n' 3 (List.take (Tryd.prog.cellsOf 3) [u1, u2, u3]) = xs[1]? := hfs 1 _ rfl
        have h2 : DataW.trod enc Tryd.prog w 0 sp hd n' 3 (List.take (Tryd.prog.cellsOf 3) [u2, u3]) = xs[2]? := hfs 2 _ rfl
        have h3 : DataW.trod enc Tryd.prog w 0 sp hd n' 49 (List.take (Tryd.prog.cellsOf 49) [u3]) = xs[3]? := hfs 3 _ rfl
        rw [c3] at h0 h1 h2
        rw [c4] at h3
        simp only [List.take_succ_cons, List.take_zero] at h0 h1 h2 h3
        have hxl' : xs.length = 4 := hxl
        rw [List.getElem?_eq_getElem (by omega)] at h0 h1 h2 h3
        obtain ⟨q0, e0, _, w0⟩ := DataW.trod_int Tryd.underlying3 h0
        obtain ⟨q1, e1, _, w1⟩ := DataW.trod_int Tryd.underlying3 h1
        obtain ⟨q2, e2, _, w2⟩ := DataW.trod_int Tryd.underlying3 h2
        obtain ⟨q3, e3, _, w3⟩ := DataW.trod_int Tryd.underlying49 h3
        simp only [List.cons.injEq, and_true] at e0 e1 e2 e3
        subst e0 e1 e2 e3
        have hb3 := bounds_u32 w3
        refine ⟨⟨q0, q1, q2, q3.toNat⟩, fun y hy => ?_, by simp only; omega⟩
        have := hat y (by omega)
        rw [add_add'] at this
        rw [this]
        match y, hy with
        | 0, _ => rfl
        | 1, _ => rfl
        | 2, _ => rfl
        | 3, _ => simp only [enV, List.getElem?_cons_succ, List.getElem?_cons_zero]; congr 2; omega
    refine ⟨L, hL, by rw [hL]; exact hl, hm, fun j u hu => ?_, fun q hq => ?_⟩
    · obtain ⟨q, hq, hu'⟩ := ensV_inv L j u hu
      have h3 := (hc _ q hq).1 (j % 4) (Nat.mod_lt _ (by omega))
      rw [show j / 4 * 4 + j % 4 = j from by omega, hu'] at h3
      exact ⟨x, rfl, by have := World.block_lt_of_cell? w _ h3; rwa [block_add] at this, h3⟩
    · obtain ⟨i, hi', rfl⟩ := List.mem_iff_getElem.1 hq
      exact (hc i _ (List.getElem?_eq_getElem hi')).2
theorem ents_field {n : Nat} {v : Value} {y : DataW H × List MemPlace} (h : DataW.trod enc Tryd.prog w 0 sp hd n 22 [v] = some y) :
    ∃ (A : Option Addr) (c : Nat) (l : List En), v = .slice A l.length c ∧ EntsAt w A c l := by
  have hf : ∃ a len cap, v = .slice a len cap := by
    rcases open_slice Tryd.underlying22 h with ⟨hcs, _⟩ | ⟨x, l, c, m, n, D, Pl, hcs, _⟩
    · simp only [List.cons.injEq, and_true] at hcs
      exact ⟨_, _, _, hcs⟩
    · simp only [List.cons.injEq, and_true] at hcs
      exact ⟨_, _, _, hcs⟩
  obtain ⟨a, len, cap, rfl⟩ := hf
  obtain ⟨l, rfl, h2⟩ := ents_in (a := a) (len := len) (cap := cap) (d := y.1) (p := y.2) ⟨n, h⟩
  exact ⟨a, cap, l, rfl, h2⟩
theorem part_in {r : Reach} {b0 : Nat} {v : Value} {d : DataW H} {p : List MemPlace} (hv : Value.okWide Tryd.prog w r b0 24 v) (h : DataW.Trod enc Tryd.prog w 0 sp hd 24 v d p) :
    ∃ (s x : Int) (f : Bool) (A : Option Addr) (c : Nat) (l : List En), EntsAt w A c l ∧ v = ptV s x f A l.length c := by
  obtain ⟨v0, v1, v2, v3, y0, y1, y2, y3, n, rfl, _, _, h0, h1, h2, h3⟩ := open_agg4 Tryd.underlying24 (by kernel_rfl) (by kernel_rfl) hv h
  obtain ⟨s, rfl, _⟩ := int_field h0
  obtain ⟨x, rfl, _⟩ := int_field h1
  obtain ⟨f, e2, _⟩ := DataW.trod_bool Tryd.underlying4 h2
  simp only [List.cons.injEq, and_true] at e2
  subst e2
  obtain ⟨A, c, l, rfl, hl⟩ := ents_field h3
  exact ⟨s, x, f, A, c, l, hl, rfl⟩
end
end Go.Proofs.YtjibjojnkieliaaDoor
