/-
  An argument that is a list of entries of a directory; one that is an entry, by value.
-/
import Derived.Test.YtgboccepgbeihaaOpenAddr
import Derived.Test.YtgboccepgbeihaaEntMem
import Derived.Deep.Slices
import Derived.Deep.Fields
namespace Go.Proofs.Ytgboccepgbeihaa
open Go.Joins Go.ChangeShapes Go.WideShapes Go.ChangeAt Go.RowKit Go.Deep
set_option linter.unusedVariables false

theorem etsV_inv (l : List Et) (j : Nat) (u : Value) (h : (etsV l)[j]? = some u) : ∃ x, l[j / 3]? = some x ∧ (etV x)[j % 3]? = some u := by
  have hj : j < (etsV l).length := (List.getElem?_eq_some_iff.1 h).1
  rw [etsV_length] at hj
  have hk : j / 3 < l.length := by omega
  refine ⟨l[j / 3], List.getElem?_eq_getElem hk, ?_⟩
  obtain ⟨n0, n1, n2⟩ := etsV_get l (j / 3) _ (List.getElem?_eq_getElem hk)
  have hm : j % 3 < 3 := Nat.mod_lt _ (by omega)
  rcases (show j % 3 = 0 ∨ j % 3 = 1 ∨ j % 3 = 2 by omega) with e | e | e
  · rw [e, show (etV l[j / 3])[0]? = some (.string (str l[j / 3].name)) from rfl, ← n0, ← h]; congr 1; omega
  · rw [e, show (etV l[j / 3])[1]? = some (.int .i64 l[j / 3].ino) from rfl, ← n1, ← h]; congr 1; omega
  · rw [e, show (etV l[j / 3])[2]? = some (.int .i64 l[j / 3].ty) from rfl, ← n2, ← h]; congr 1; omega
theorem gatherT {α : Type} (p : Nat → α → Prop) : ∀ m : Nat, (∀ i, i < m → ∃ a, p i a) → ∃ l : List α, l.length = m ∧ ∀ i a, l[i]? = some a → p i a
  | 0, _ => ⟨[], rfl, fun i p h => by simp at h⟩
  | m + 1, h => by
    obtain ⟨l, hl, hc⟩ := gatherT p m fun i hi => h i (by omega)
    obtain ⟨a, ha⟩ := h m (by omega)
    refine ⟨l ++ [a], by simp [hl], fun i q hq => ?_⟩
    rcases Nat.lt_or_ge i l.length with hi | hi
    · rw [List.getElem?_append_left hi] at hq; exact hc i q hq
    · rw [List.getElem?_append_right hi] at hq
      have h0 : i - l.length = 0 := by
        rcases Nat.eq_zero_or_pos (i - l.length) with h | h
        · exact h
        · rw [List.getElem?_eq_none (by simp; omega)] at hq; cases hq
      rw [h0] at hq
      simp at hq
      subst hq
      obtain rfl : i = m := by omega
      exact ha
/-- what is known of an entry's numbers and text -/
def etIn (x : Et) : Prop := x.name.length ≤ 9223372036854775807 ∧ (-9223372036854775808 ≤ x.ino ∧ x.ino ≤ 9223372036854775807) ∧ (-9223372036854775808 ≤ x.ty ∧ x.ty ≤ 9223372036854775807)
section
variable {H : Type} {enc : TypeId × Value → H} {w : World} {hd : Bool} {sp : Nat → Bool}
theorem entries_in {a : Option Addr} {len cap : Nat} {d : DataW H} {p : List MemPlace} (h : DataW.Trod enc Try.prog w 0 sp hd 22 (.slice a len cap) d p) :
    ∃ l : List Et, l.length = len ∧ len ≤ cap ∧ cap ≤ maxLen ∧ Rd w w.heap.size a (etsV l) ∧ ∀ x ∈ l, etIn x := by
  obtain ⟨fuel, hf⟩ := h
  have hC : Try.prog.cellsOf 38 = 3 := by kernel_rfl
  have c3 : Try.prog.cellsOf 3 = 1 := by kernel_rfl
  have c9 : Try.prog.cellsOf 9 = 1 := by kernel_rfl
  rcases open_slice Try.underlying22 hf with ⟨hcs, _⟩ | ⟨x, l, c, m, n, D, Pl, hcs, hb, hl, hm, hmm, hx, hi⟩
  · simp [Value.cells] at hcs
    obtain ⟨rfl, rfl, rfl⟩ := hcs
    exact ⟨[], rfl, Nat.le_refl _, by simp, Rd.nil_, fun n hn => by simp at hn⟩
  · simp [Value.cells] at hcs
    obtain ⟨rfl, rfl, rfl⟩ := hcs
    have hlm : len ≤ m := by rw [hmm]; split <;> omega
    obtain ⟨L, hL, hc⟩ := gatherT (fun i q => (∀ y, y < 3 → w.cell? (x.add (i * 3 + y)) = (etV q)[y]?) ∧ etIn q) len fun i hil => by
      obtain ⟨cs', hcells, ht⟩ := hi i (by omega)
      rw [hC] at hcells
      obtain ⟨xs, n', _, _, hlen, hxl, hfs⟩ := DataW.trod_struct Try.underlying38 ht
      obtain ⟨_, hcl, hat⟩ := World.cells?_some hcells
      match cs', hcl with
      | [u0, u1, u2], _ =>
        have h0 : DataW.trod enc Try.prog w 0 sp hd n' 9 (List.take (Try.prog.cellsOf 9) [u0, u1, u2]) = xs[0]? := hfs 0 _ rfl
        have h1 : DataW.trod enc Try.prog w 0 sp hd n' 3 (List.take (Try.prog.cellsOf 3) [u1, u2]) = xs[1]? := hfs 1 _ rfl
        have h2 : DataW.trod enc Try.prog w 0 sp hd n' 3 (List.take (Try.prog.cellsOf 3) [u2]) = xs[2]? := hfs 2 _ rfl
        rw [c9] at h0
        rw [c3] at h1 h2
        simp only [List.take_succ_cons, List.take_zero] at h0 h1 h2
        have hxl' : xs.length = 3 := hxl
        rw [List.getElem?_eq_getElem (by omega)] at h0 h1 h2
        obtain ⟨s, e0, _, w0⟩ := DataW.trod_string Try.underlying9 h0
        obtain ⟨q1, e1, _, w1⟩ := DataW.trod_int Try.underlying3 h1
        obtain ⟨q2, e2, _, w2⟩ := DataW.trod_int Try.underlying3 h2
        simp only [List.cons.injEq, and_true] at e0 e1 e2
        subst e0 e1 e2
        obtain ⟨S, rfl⟩ : ∃ S, str S = s := ⟨s.data.toList, rfl⟩
        have b1 := bounds_i64 w1
        have b2 := bounds_i64 w2
        rw [str_size] at w0
        unfold maxLen at w0
        refine ⟨⟨S, q1, q2⟩, fun y hy => ?_, by omega, by simp only; omega, by simp only; omega⟩
        have := hat y (by omega)
        rw [add_add'] at this
        rw [this]
        match y, hy with
        | 0, _ => rfl
        | 1, _ => rfl
        | 2, _ => rfl
    refine ⟨L, hL, hl, hm, fun j u hu => ?_, fun q hq => ?_⟩
    · obtain ⟨q, hq, hu'⟩ := etsV_inv L j u hu
      have h3 := (hc _ q hq).1 (j % 3) (Nat.mod_lt _ (by omega))
      rw [show j / 3 * 3 + j % 3 = j from by omega, hu'] at h3
      exact ⟨x, rfl, by have := World.block_lt_of_cell? w _ h3; rwa [block_add] at this, h3⟩
    · obtain ⟨i, hi', rfl⟩ := List.mem_iff_getElem.1 hq
      exact (hc i _ (List.getElem?_eq_getElem hi')).2
theorem entry_in {r : Reach} {b0 : Nat} {v : Value} {d : DataW H} {p : List MemPlace} (hv : Value.okWide Try.prog w r b0 38 v) (h : DataW.Trod enc Try.prog w 0 sp hd 38 v d p) :
    ∃ (x : Et), etIn x ∧ v = etG x := by
  obtain ⟨v0, v1, v2, y0, y1, y2, n, rfl, _, _, h0, h1, h2⟩ := open_agg3 Try.underlying38 (by kernel_rfl) (by kernel_rfl) hv h
  obtain ⟨s, e0, _, w0⟩ := DataW.trod_string Try.underlying9 h0
  simp only [List.cons.injEq, and_true] at e0
  subst e0
  obtain ⟨S, rfl⟩ : ∃ S, str S = s := ⟨s.data.toList, rfl⟩
  obtain ⟨i, rfl, b1⟩ := int_field h1
  obtain ⟨t, rfl, b2⟩ := int_field h2
  rw [str_size] at w0
  unfold maxLen at w0
  exact ⟨⟨S, i, t⟩, ⟨by omega, b1, b2⟩, rfl⟩
end
end Go.Proofs.Ytgboccepgbeihaa
