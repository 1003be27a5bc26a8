/-
  An argument that is a list of texts.
-/
import Derived.Test.YtlenfocdhchphaaOpen
import Derived.Test.YtlenfocdhchphaaPathMem
import Derived.Deep.Slices
import Derived.Deep.Fields
namespace Go.Proofs.Ytlenfocdhchphaa
open Go.ChangeShapes Go.WideShapes Go.ChangeAt Go.RowKit Go.Deep
set_option linter.unusedVariables false

theorem gatherS {α : Type} (p : Nat → α → Prop) : ∀ m : Nat, (∀ i, i < m → ∃ a, p i a) → ∃ l : List α, l.length = m ∧ ∀ i a, l[i]? = some a → p i a
  | 0, _ => ⟨[], rfl, fun i p h => by simp at h⟩
  | m + 1, h => by
    obtain ⟨l, hl, hc⟩ := gatherS p m fun i hi => h i (by omega)
    obtain ⟨a, ha⟩ := h m (by omega)
    refine ⟨l ++ [a], by simp [hl], fun i q hq => ?_⟩
    rcases Nat.lt_or_ge i l.length with hi | hi
    · rw [List.getElem?_append_left hi] at hq; exact hc i q hq
    · rw [List.getElem?_append_right hi] at hq
      have h0 : i - l.length = 0 := by
        rcases Nat.eq_zero_or_pos (i - l.length) with h | h
        · exact h
        · rw [List.getElem?_eq_none (by simp; omega)] at hq; cases hq
      rw [h0] at hq
      simp at hq
      subst hq
      obtain rfl : i = m := by omega
      exact ha
section
variable {H : Type} {enc : TypeId × Value → H} {w : World} {hd : Bool} {sp : Nat → Bool}
theorem texts_in {a : Option Addr} {len cap : Nat} {d : DataW H} {p : List MemPlace} (h : DataW.Trod enc Try.prog w 0 sp hd 23 (.slice a len cap) d p) :
    ∃ l : List (List UInt8), l.length = len ∧ len ≤ cap ∧ cap ≤ maxLen ∧ Rd w w.heap.size a (strsV l) ∧ ∀ x ∈ l, x.length ≤ 9223372036854775807 := by
  obtain ⟨fuel, hf⟩ := h
  have c9 : Try.prog.cellsOf 9 = 1 := by kernel_rfl
  rcases open_slice Try.underlying23 hf with ⟨hcs, _⟩ | ⟨x, l, c, m, n, D, Pl, hcs, hb, hl, hm, hmm, hx, hi⟩
  · simp [Value.cells] at hcs
    obtain ⟨rfl, rfl, rfl⟩ := hcs
    exact ⟨[], rfl, Nat.le_refl _, by simp, Rd.nil_, fun n hn => by simp at hn⟩
  · simp [Value.cells] at hcs
    obtain ⟨rfl, rfl, rfl⟩ := hcs
    have hlm : len ≤ m := by rw [hmm]; split <;> omega
    obtain ⟨L, hL, hc⟩ := gatherS (fun i (q : List UInt8) => w.cell? (x.add i) = some (.string (str q)) ∧ q.length ≤ 9223372036854775807) len fun i hil => by
      obtain ⟨cs', hcells, ht⟩ := hi i (by omega)
      rw [c9] at hcells
      obtain ⟨_, hcl, hat⟩ := World.cells?_some hcells
      match cs', hcl with
      | [u0], _ =>
        obtain ⟨s, e0, _, w0⟩ := DataW.trod_string Try.underlying9 ht
        simp only [List.cons.injEq, and_true] at e0
        subst e0
        obtain ⟨S, rfl⟩ : ∃ S, str S = s := ⟨s.data.toList, rfl⟩
        rw [str_size] at w0
        unfold maxLen at w0
        refine ⟨S, ?_, by omega⟩
        have h := hat 0 (by omega)
        rw [Nat.mul_one, show Addr.add (Addr.add x i) 0 = Addr.add x i from rfl] at h
        exact h
    refine ⟨L, hL, hl, hm, fun j u hu => ?_, fun q hq => ?_⟩
    · have hjl : j < L.length := by
        have := (List.getElem?_eq_some_iff.1 hu).1
        rwa [strsV_len] at this
      have h3 := (hc _ _ (List.getElem?_eq_getElem hjl)).1
      rw [strsV_get (List.getElem?_eq_getElem hjl)] at hu
      cases hu
      exact ⟨x, rfl, by have := World.block_lt_of_cell? w _ h3; rwa [block_add] at this, h3⟩
    · obtain ⟨i, hi', rfl⟩ := List.mem_iff_getElem.1 hq
      exact (hc i _ (List.getElem?_eq_getElem hi')).2
end
end Go.Proofs.Ytlenfocdhchphaa
