/-
  What the document's answers of layer 10 are: whether an entry's numbers may be, where a name is, whether entries are the same.
-/
import Derived.Test.YtgboccepgbeihaaEntMem
import Derived.LoopTactic
import Derived.BigQuiet
namespace Go.Proofs.Ytgboccepgbeihaa
open Go.RowKit
set_option maxRecDepth 100000
set_option linter.unusedVariables false

theorem refRight_any (s : ByteArray) (i t : Int) (r : Bool) (w : World) (hr : decide (1 ≤ i ∧ i ≤ 39 ∧ (t = 1 ∨ t = 2)) = r) :
    Calls Try.prog 28 #[.agg #[.string s, .int .i64 i, .int .i64 t]] w fun e w' => e = .returned (.bool r) ∧ Below w.heap.size w w' := by
  have HB := Lib.hid ((Below.refl w.heap.size w).alloc (Nat.le_refl _) (.cells #[.string s, .int .i64 i, .int .i64 t] 38))
  have key : (i < 1 ∧ ¬ 1 ≤ i ∧ r = false) ∨ (39 < i ∧ 1 ≤ i ∧ ¬ i ≤ 39 ∧ r = false) ∨ (1 ≤ i ∧ i ≤ 39 ∧ t = 1 ∧ r = true) ∨ (1 ≤ i ∧ i ≤ 39 ∧ t = 2 ∧ r = true) ∨ (1 ≤ i ∧ i ≤ 39 ∧ (t == 1) = false ∧ (t == 2) = false ∧ r = false) := by
    rw [← hr]
    by_cases h1 : 1 ≤ i
    · by_cases h2 : i ≤ 39
      · by_cases h3 : t = 1
        · exact .inr (.inr (.inl ⟨h1, h2, h3, decide_eq_true ⟨h1, h2, .inl h3⟩⟩))
        · by_cases h4 : t = 2
          · exact .inr (.inr (.inr (.inl ⟨h1, h2, h4, decide_eq_true ⟨h1, h2, .inr h4⟩⟩)))
          · exact .inr (.inr (.inr (.inr ⟨h1, h2, beq_false_of_ne h3, beq_false_of_ne h4, decide_eq_false (by omega)⟩)))
      · exact .inr (.inl ⟨by omega, h1, h2, decide_eq_false (by omega)⟩)
    · exact .inl ⟨by omega, h1, decide_eq_false (by omega)⟩
  clear hr
  rcases key with ⟨h0, h, rfl⟩ | ⟨h0, h1, h2, rfl⟩ | ⟨h1, h2, rfl, rfl⟩ | ⟨h1, h2, rfl, rfl⟩ | ⟨h1, h2, h3, h4, rfl⟩
  all_goals
    go_enter Try.func28, Try.ntmps28
    go_wp2
    go_ret
    exact ⟨rfl, HB.out⟩

/-- where a name is -/
def atI (l : List Et) (s : List UInt8) : Int := if hasE l s = true then (l.findIdx fun x => decide (x.name = s) : Nat) else -1
theorem atI_at {l : List Et} {s : List UInt8} {i : Nat} {x : Et} (hx : l[i]? = some x) (h : x.name = s) (hn : ∀ j y, j < i → l[j]? = some y → y.name ≠ s) : atI l s = i ∧ hasE l s = true ∧ getE l s = x := by
  have h1 : hasE l s = true := (hasE_iff l s).2 ⟨x, List.mem_of_getElem? hx, h⟩
  obtain ⟨hi, he⟩ := List.getElem?_eq_some_iff.1 hx
  have h2 : l.findIdx (fun x => decide (x.name = s)) = i := by
    rw [List.findIdx_eq hi]
    refine ⟨decide_eq_true (by rw [he]; exact h), fun j hj => decide_eq_false (hn j _ hj (List.getElem?_eq_getElem (by omega)))⟩
  refine ⟨by rw [atI, if_pos h1, h2], h1, ?_⟩
  have h3 : l.find? (fun x => decide (x.name = s)) = some x := by
    rw [List.find?_eq_some_iff_getElem]
    exact ⟨decide_eq_true h, i, hi, he, fun j hj => by simpa using hn j _ hj (List.getElem?_eq_getElem (by omega))⟩
  rw [getE, h3]; rfl
theorem atI_none {l : List Et} {s : List UInt8} (hn : ∀ (j : Nat) (y : Et), l[j]? = some y → y.name ≠ s) : atI l s = -1 ∧ hasE l s = false := by
  have h1 : hasE l s = false := by
    rw [Bool.eq_false_iff]
    intro h
    obtain ⟨x, hx, e⟩ := (hasE_iff l s).1 h
    obtain ⟨j, hj, hh⟩ := List.mem_iff_getElem.1 hx
    exact hn j x (by rw [List.getElem?_eq_getElem hj, hh]) e
  exact ⟨by rw [atI, h1]; rfl, h1⟩
/-- the three cells of an entry -/
theorem ets_at {w : World} {B : Nat} {b o k : Nat} {l : List Et} {x : Et} (h : Rd w B (some ⟨b, o, none⟩) (etsV l)) (hx : l[k]? = some x) :
    w.cell? ⟨b, o + k * 3, none⟩ = some (.string (str x.name)) ∧ w.cell? ⟨b, o + k * 3 + 1, none⟩ = some (.int .i64 x.ino) ∧ w.cell? ⟨b, o + k * 3 + 2, none⟩ = some (.int .i64 x.ty) := by
  obtain ⟨n0, n1, n2⟩ := etsV_get l k x hx
  refine ⟨?_, ?_, ?_⟩
  · obtain ⟨ad, e, _, hc⟩ := h _ _ n0; cases e; rwa [add_plain] at hc
  · obtain ⟨ad, e, _, hc⟩ := h _ _ n1; cases e; rwa [add_plain, ← Nat.add_assoc] at hc
  · obtain ⟨ad, e, _, hc⟩ := h _ _ n2; cases e; rwa [add_plain, ← Nat.add_assoc] at hc

set_option maxHeartbeats 2000000 in
theorem refAt_any (B : Nat) (A : Option Addr) (n c : Nat) (l : List Et) (s : List UInt8) (w : World) (hl : l.length = n) (hn : n ≤ 4398046511104) (hr : Rd w B A (etsV l)) (hB : B ≤ w.heap.size) :
    Calls Try.prog 34 #[.slice A n c, .string (str s)] w fun e w' => e = .returned (.int .i64 (atI l s)) ∧ w = w' := by
  have HL := Lib.hid hl
  have HR := Lib.hid hr
  have hst : (str s).toList = s := str_toList s
  obtain ⟨S, hS⟩ : ∃ S, str s = S := ⟨_, rfl⟩
  rw [hS] at hst ⊢
  clear hl hr hS
  go_enter Try.func34, Try.ntmps34
  go_wp2
  go_loopw [5] (fun i wr => ∃ k : Nat, k ≤ n ∧ i = .int .i64 k ∧ Hid (∀ j y, j < k → l[j]? = some y → y.name ≠ s) ∧ w = wr) (fun i _ => n - (intOf i).toNat)
  case atStart => exact ⟨0, Nat.zero_le _, rfl, fun j y h => absurd h (by omega), rfl⟩
  case round =>
    obtain ⟨k, hk, rfl, HN, rfl⟩ := hrel
    by_cases hlt : k < n
    · obtain ⟨x, hx⟩ : ∃ x, l[k]? = some x := ⟨_, List.getElem?_eq_getElem (by rw [HL.out]; exact hlt)⟩
      obtain ⟨b, o, rfl, -, -⟩ := HR.out.plain (by rw [etsV_length, HL.out]; omega)
      obtain ⟨c0, -, -⟩ := ets_at HR.out hx
      have hxt : (str x.name).toList = x.name := str_toList _
      obtain ⟨X, hX⟩ : ∃ X, str x.name = X := ⟨_, rfl⟩
      rw [hX] at c0 hxt
      by_cases he : x.name = s
      · obtain ⟨a1, -, -⟩ := atI_at hx he HN.out
        rw [he] at hxt
        clear hx hX he
        go_wp2
        go_ret
        exact ⟨by rw [a1]; rfl, rfl⟩
      · have HN' : Hid (∀ j y, j < k + 1 → l[j]? = some y → y.name ≠ s) := fun j y hj hy => by
          rcases Nat.lt_or_ge j k with h | h
          · exact HN.out j y h hy
          · obtain rfl : j = k := by omega
            rw [hx] at hy; cases hy; exact he
        have hq : (x.name == s) = false := beq_false_of_ne he
        obtain ⟨Y, hY⟩ : ∃ Y, x.name = Y := ⟨_, rfl⟩
        rw [hY] at hxt hq
        clear hx hX he hY
        go_wp2
        go_roundw
        case rel => exact ⟨k + 1, by omega, by go_num, HN', by first | rfl | trivial⟩
        case measure => simp [intOf]; omega
    · obtain rfl : k = n := by omega
      obtain ⟨a1, -⟩ := atI_none (l := l) (s := s) fun j y hy => HN.out j y (by have := (List.getElem?_eq_some_iff.1 hy).1; have := HL.out; omega) hy
      go_wp2
      go_ret
      exact ⟨by rw [a1]; rfl, rfl⟩
end Go.Proofs.Ytgboccepgbeihaa
