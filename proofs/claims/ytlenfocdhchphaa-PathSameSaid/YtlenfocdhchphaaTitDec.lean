/-
  What the language's range over a string draws is the document's rune, or a stray.
-/
import Derived.Test.YtlenfocdhchphaaTitMath
import Derived.Test.YtlenfocdhchphaaMem2
import Derived.Laws.RangeString
namespace Go.Proofs.Ytlenfocdhchphaa
open Go.RowKit
set_option maxRecDepth 100000
set_option linter.unusedVariables false

theorem get_str (l : List UInt8) (j : Nat) : ((str l).get! j).toNat = octN l j := by
  show (l.toArray[j]!).toNat = (l.getD j 0).toNat
  rw [List.getElem!_toArray]
  by_cases h : j < l.length
  · rw [getElem!_pos l j h, List.getD_eq_getElem?_getD, List.getElem?_eq_getElem h]; rfl
  · rw [getElem!_neg l j h, List.getD_eq_getElem?_getD, List.getElem?_eq_none (by omega)]; rfl
theorem oct_drop (l : List UInt8) (i k : Nat) : octN (l.drop i) k = octN l (i + k) := by
  unfold octN; rw [List.getD_eq_getElem?_getD, List.getD_eq_getElem?_getD, List.getElem?_drop]
theorem oct_lt (l : List UInt8) (k : Nat) : octN l k < 256 := UInt8.toNat_lt _
theorem valid_nat (c : Nat) : Utf8.valid (c : Int) = decide (c < 55296 ∨ 57344 ≤ c ∧ c ≤ 1114111) := by
  unfold Utf8.valid
  rw [Bool.eq_iff_iff]
  simp only [Bool.or_eq_true, Bool.and_eq_true, decide_eq_true_eq]
  omega
def orStray : Option (Nat × Nat) → Nat × Nat
  | some p => p
  | none => (65533, 1)
theorem decode_rune (l : List UInt8) (i : Nat) (hi : i < l.length) : Utf8.decode (str l) i = orStray (runeN (l.drop i)) := by
  have hc : ∀ k, (decide (i + k < (str l).size) && octN l (i + k) / 64 == 2) = onN (l.drop i) k := fun k => by
    unfold onN
    rw [oct_drop, str_size, Bool.eq_iff_iff]
    simp only [Bool.and_eq_true, decide_eq_true_eq, beq_iff_eq]
    constructor
    · rintro ⟨_, h⟩; omega
    · intro h
      refine ⟨?_, by omega⟩
      rcases Nat.lt_or_ge (i + k) l.length with h1 | h1
      · exact h1
      · exfalso
        have : octN l (i + k) = 0 := by unfold octN; rw [List.getD_eq_getElem?_getD, List.getElem?_eq_none h1]; rfl
        omega
  unfold Utf8.decode
  simp only [get_str, hc]
  have h0 := oct_lt l (i + 0)
  have o1 : onN (l.drop i) 1 = true → 128 ≤ octN l (i + 1) ∧ octN l (i + 1) < 192 := fun h => by have := on_is h; rwa [oct_drop] at this
  have o2 : onN (l.drop i) 2 = true → 128 ≤ octN l (i + 2) ∧ octN l (i + 2) < 192 := fun h => by have := on_is h; rwa [oct_drop] at this
  have o3 : onN (l.drop i) 3 = true → 128 ≤ octN l (i + 3) ∧ octN l (i + 3) < 192 := fun h => by have := on_is h; rwa [oct_drop] at this
  unfold runeN
  simp only [oct_drop]
  generalize octN l (i + 0) = a at *
  generalize octN l (i + 1) = b at *
  generalize octN l (i + 2) = c at *
  generalize octN l (i + 3) = d at *
  generalize onN (l.drop i) 1 = p at *
  generalize onN (l.drop i) 2 = q at *
  generalize onN (l.drop i) 3 = r at *
  clear hc
  simp only [valid_nat, Bool.and_eq_true, decide_eq_true_eq, beq_iff_eq, ge_iff_le, Utf8.runeError]
  by_cases h1 : a < 128
  · rw [if_pos h1, if_pos h1]; rfl
  rw [if_neg h1, if_neg h1]
  by_cases h2 : 192 ≤ a ∧ a < 224 ∧ p = true
  · have := o1 h2.2.2
    rw [if_pos h2, if_pos ⟨by omega, h2.2.2⟩, show a % 32 * 64 + b % 64 = (a - 192) * 64 + (b - 128) by omega]
    split <;> rfl
  rw [if_neg h2, if_neg (fun h => h2 ⟨by omega, by omega, h.2⟩)]
  by_cases h3 : 224 ≤ a ∧ a < 240 ∧ p = true ∧ q = true
  · have := o1 h3.2.2.1
    have := o2 h3.2.2.2
    rw [if_pos h3, if_pos ⟨⟨by omega, h3.2.2.1⟩, h3.2.2.2⟩, show a % 16 * 4096 + b % 64 * 64 + c % 64 = (a - 224) * 4096 + (b - 128) * 64 + (c - 128) by omega]
    by_cases h4 : 2048 ≤ (a - 224) * 4096 + (b - 128) * 64 + (c - 128) ∧ ((a - 224) * 4096 + (b - 128) * 64 + (c - 128) < 55296 ∨ 57343 < (a - 224) * 4096 + (b - 128) * 64 + (c - 128))
    · rw [if_pos h4, if_pos ⟨h4.1, by omega⟩]; rfl
    · rw [if_neg h4, if_neg (fun h => h4 ⟨h.1, by omega⟩)]; rfl
  rw [if_neg h3, if_neg (fun h => h3 ⟨by omega, by omega, h.1.2, h.2⟩)]
  by_cases h5 : 240 ≤ a ∧ a < 248 ∧ p = true ∧ q = true ∧ r = true
  · have := o1 h5.2.2.1
    have := o2 h5.2.2.2.1
    have := o3 h5.2.2.2.2
    rw [if_pos h5, if_pos ⟨⟨⟨by omega, h5.2.2.1⟩, h5.2.2.2.1⟩, h5.2.2.2.2⟩, show a % 8 * 262144 + b % 64 * 4096 + c % 64 * 64 + d % 64 = (a - 240) * 262144 + (b - 128) * 4096 + (c - 128) * 64 + (d - 128) by omega]
    by_cases h6 : 65536 ≤ (a - 240) * 262144 + (b - 128) * 4096 + (c - 128) * 64 + (d - 128) ∧ (a - 240) * 262144 + (b - 128) * 4096 + (c - 128) * 64 + (d - 128) ≤ 1114111
    · rw [if_pos h6, if_pos ⟨h6.1, by omega⟩]; rfl
    · rw [if_neg h6, if_neg (fun h => h6 ⟨h.1, by omega⟩)]; rfl
  rw [if_neg h5, if_neg (fun h => h5 ⟨by omega, by omega, h.1.1.2, h.1.2, h.2⟩)]
  rfl
/-- one step of a range over a string -/
theorem run_next_rune {P : Program} (w : World) (l : List UInt8) (pos : Nat) (ty : TypeId) (h : pos < l.length) :
    (Instr.next (.pointer (some ⟨w.heap.size, 0, none⟩)) true ty).run P (w.iter (str l) pos) =
      .ok (.tuple #[.bool true, .int .i64 pos, .int .i32 ((orStray (runeN (l.drop pos))).1 : Nat)]) (w.iter (str l) (pos + (orStray (runeN (l.drop pos))).2)) := by
  have h' : pos < (str l).size := by rw [str_size]; exact h
  simp only [Instr.next, getObj, setObj, Sem.run_bind, Sem.run, World.iter_heap, Result.andThen, h', if_true, decode_rune l pos h, World.iter_set]
  simp [goInt]
theorem wid_stray {l : List UInt8} : (orStray (runeN l)).2 = widN l := by unfold widN orStray; cases runeN l <;> rfl
end Go.Proofs.Ytlenfocdhchphaa
