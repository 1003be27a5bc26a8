/-
  What the document's answers of layer 10 are: whether entries are the same.
-/
import Derived.Test.YtgboccepgbeihaaRef10
namespace Go.Proofs.Ytgboccepgbeihaa
open Go.RowKit
set_option maxRecDepth 100000
set_option linter.unusedVariables false

set_option maxHeartbeats 2000000 in
theorem refSame10_any (B B' : Nat) (A A' : Option Addr) (n c n' c' : Nat) (l l' : List Et) (w : World) (hl : l.length = n) (hl' : l'.length = n') (hn : n ≤ 4398046511104) (hn' : n' ≤ 4398046511104) (hr : Rd w B A (etsV l)) (hr' : Rd w B' A' (etsV l')) (hB : B ≤ w.heap.size) (hB' : B' ≤ w.heap.size) (t : Bool) (ht : t = true ↔ l = l') :
    Calls Try.prog 10 #[.slice A n c, .slice A' n' c'] w fun e w' => e = .returned (.bool t) ∧ Below w.heap.size w w' := by
  have HL := Lib.hid hl
  have HL' := Lib.hid hl'
  have HR0 := Lib.hid hr
  have HR0' := Lib.hid hr'
  have HT := Lib.hid ht
  clear hl hl' hr hr' ht
  by_cases hnn : n = n'
  · subst hnn
    go_enter Try.func10, Try.ntmps10
    go_wp2
    go_loopw [5] (fun i wr => ∃ k : Nat, k ≤ n ∧ i = .int .i64 k ∧ Hid (∀ j, j < k → l[j]? = l'[j]?) ∧ Hid (Below w.heap.size w wr)) (fun i _ => n - (intOf i).toNat)
    case atStart => exact ⟨0, Nat.zero_le _, rfl, fun j h => absurd h (by omega), Below.refl _ _⟩
    case round =>
      obtain ⟨k, hk, rfl, HN, HB⟩ := hrel
      have HR := Lib.hid (HR0.out.below (HB.out.mono hB))
      have HR' := Lib.hid (HR0'.out.below (HB.out.mono hB'))
      by_cases hlt : k < n
      · obtain ⟨x, hx⟩ : ∃ x, l[k]? = some x := ⟨_, List.getElem?_eq_getElem (by rw [HL.out]; exact hlt)⟩
        obtain ⟨y, hy⟩ : ∃ y, l'[k]? = some y := ⟨_, List.getElem?_eq_getElem (by rw [HL'.out]; exact hlt)⟩
        obtain ⟨b, o, rfl, -, -⟩ := HR.out.plain (by rw [etsV_length, HL.out]; omega)
        obtain ⟨b', o', rfl, -, -⟩ := HR'.out.plain (by rw [etsV_length, HL'.out]; omega)
        obtain ⟨c0, c1, c2⟩ := ets_at HR.out hx
        obtain ⟨d0, d1, d2⟩ := ets_at HR'.out hy
        obtain ⟨s, i, q⟩ := x
        obtain ⟨s', i', q'⟩ := y
        simp only at c0 c1 c2 d0 d1 d2
        have e1 : (str s).toList = s := str_toList _
        have e2 : (str s').toList = s' := str_toList _
        have HX := Lib.hid hx
        have HY := Lib.hid hy
        clear hx hy
        by_cases he : (⟨s, i, q⟩ : Et) = ⟨s', i', q'⟩
        · injection he with h1 h2 h3
          subst h1 h2 h3
          have HN' : Hid (∀ j, j < k + 1 → l[j]? = l'[j]?) := fun j hj => by
            rcases Nat.lt_or_ge j k with h | h
            · exact HN.out j h
            · obtain rfl : j = k := by omega
              rw [HX.out, HY.out]
          go_wp2
          go_quiet (fail)
          go_wp2
          go_roundw
          case rel => exact ⟨k + 1, by omega, by go_num, HN', HB.out.drewN' _⟩
          case measure => simp [intOf]; omega
        · have ht0 : t = false := by
            rw [Bool.eq_false_iff]
            intro h
            have := HT.out.1 h
            subst this
            have h2 := HX.out
            rw [HY.out] at h2
            injection h2 with h2
            exact he h2.symm
          subst ht0
          have key : (s == s') = false ∨ (s = s' ∧ (i == i') = false) ∨ (s = s' ∧ i = i' ∧ (q == q') = false) := by
            by_cases h1 : s = s'
            · by_cases h2 : i = i'
              · exact .inr (.inr ⟨h1, h2, beq_false_of_ne fun h3 => he (by rw [h1, h2, h3])⟩)
              · exact .inr (.inl ⟨h1, beq_false_of_ne h2⟩)
            · exact .inl (beq_false_of_ne h1)
          rcases key with h1 | ⟨rfl, h2⟩ | ⟨rfl, rfl, h3⟩
          all_goals
            clear he
            go_wp2
            go_quiet (fail)
            go_wp2
            go_ret
            exact ⟨rfl, HB.out.drewN' _⟩
      · obtain rfl : k = n := by omega
        have ht1 : t = true := HT.out.2 (List.ext_getElem? fun j => by
          rcases Nat.lt_or_ge j k with h | h
          · exact HN.out j h
          · rw [List.getElem?_eq_none (by rw [HL.out]; exact h), List.getElem?_eq_none (by rw [HL'.out]; exact h)])
        subst ht1
        go_wp2
        go_ret
        exact ⟨rfl, HB.out⟩
  · have ht0 : t = false := by
      rw [Bool.eq_false_iff]
      intro h
      have := HT.out.1 h
      subst this
      exact hnn (HL.out.symm.trans HL'.out)
    subst ht0
    have hnq : ((n : Int) == (n' : Int)) = false := beq_false_of_ne (by omega)
    go_enter Try.func10, Try.ntmps10
    go_wp2
    go_ret
    exact ⟨rfl, Below.refl _ _⟩
end Go.Proofs.Ytgboccepgbeihaa
