/-
  What the landed entry's May answers.
-/
import Derived.Test.YtgboccepgbeihaaEntP1
import Derived.Test.YtgboccepgbeihaaTitP4
import Derived.BigQuiet
namespace Go.Proofs.Ytgboccepgbeihaa
open Go.RowKit
set_option maxRecDepth 100000
set_option linter.unusedVariables false

theorem order_same (a b : List UInt8) (w : World) : Calls Try.prog 26 #[.string (str a), .string (str b)] w fun e w' => e = .returned (.int .i64 (ordT a b)) ∧ w' = w := by
  have HO := Lib.hid (compare_any a b w)
  have h := compare_ord a b
  rw [h] at HO
  clear h
  go_enter Try.func26, Try.ntmps26
  go_wp2_with fail
  refine HO.out.mono ?_
  rintro e w1 ⟨rfl, rfl⟩
  go_wp2
  go_ret
  exact ⟨rfl, rfl⟩

theorem mayE_long {l : List Et} (h : 30 < l.length) : mayE l = false := by
  cases hm : mayE l with
  | false => rfl
  | true => have := ((mayE_iff l).1 hm).2.2; omega
theorem mayE_bad {l : List Et} {k : Nat} {x : Et} (hx : l[k]? = some x) (h : okE x = false) : mayE l = false := by
  cases hm : mayE l with
  | false => rfl
  | true => have := ((mayE_iff l).1 hm).1 x (List.mem_of_getElem? hx); rw [h] at this; cases this
theorem mayE_turned {l : List Et} {j : Nat} {x y : Et} (hy : l[j]? = some y) (hx : l[j + 1]? = some x) (h : 0 ≤ ordT y.name x.name) : mayE l = false := by
  cases hm : mayE l with
  | false => rfl
  | true =>
    have hp := ((mayE_iff l).1 hm).2.1
    obtain ⟨h1, e1⟩ := List.getElem?_eq_some_iff.1 hy
    obtain ⟨h2, e2⟩ := List.getElem?_eq_some_iff.1 hx
    have := List.pairwise_iff_getElem.1 hp j (j + 1) h1 h2 (by omega)
    rw [e1, e2] at this
    unfold ltE at this; omega
theorem pair_take {l : List Et} {j : Nat} {x y : Et} (hy : l[j]? = some y) (hx : l[j + 1]? = some x) (h : ltE y x) (hp : (l.take (j + 1)).Pairwise ltE) : (l.take (j + 1 + 1)).Pairwise ltE := by
  rw [List.take_add_one, hx] 
  rw [List.take_add_one, hy] at hp ⊢
  exact pair_snoc hp h

set_option maxHeartbeats 8000000 in
theorem may_any (B : Nat) (A : Option Addr) (n c : Nat) (l : List Et) (w : World) (hl : l.length = n) (hn : n ≤ 1000000) (hr : Rd w B A (etsV l)) (hB : B ≤ w.heap.size) (hs : ∀ x ∈ l, x.name.length ≤ 100000) :
    Calls Try.prog 11 #[.slice A n c] w fun e w' => e = .returned (.bool (mayE l)) ∧ Below w.heap.size w w' := by
  have HL := Lib.hid hl
  have HR0 := Lib.hid hr
  have HS := Lib.hid hs
  obtain ⟨m, hm⟩ : ∃ m, mayE l = m := ⟨_, rfl⟩
  have HM := Lib.hid hm
  rw [hm]
  clear hr hs hm
  by_cases h30 : 30 < n
  · obtain rfl : m = false := by rw [← HM.out]; exact mayE_long (by omega)
    have h30' : (30 : Int) < (n : Int) := by omega
    clear hl
    go_enter Try.func11, Try.ntmps11
    go_wp2
    go_ret
    exact ⟨rfl, Below.refl _ _⟩
  · have h30' : ¬ (30 : Int) < (n : Int) := by omega
    clear hl
    go_enter Try.func11, Try.ntmps11
    go_wp2
    go_loopw [10] (fun i wr => ∃ k : Nat, k ≤ n ∧ i = .int .i64 k ∧ Hid (∀ j x, j < k → l[j]? = some x → okE x = true) ∧ Hid ((l.take k).Pairwise ltE) ∧ Hid (Below w.heap.size w wr)) (fun i _ => n - (intOf i).toNat)
    case atStart => exact ⟨0, Nat.zero_le _, rfl, fun j x h => absurd h (by omega), by show List.Pairwise _ _; rw [List.take_zero]; exact .nil, Below.refl _ _⟩
    case round =>
      obtain ⟨k, hk, rfl, HOK, HP, HB⟩ := hrel
      have HR := Lib.hid (HR0.out.below (HB.out.mono hB))
      by_cases hlt : k < n
      · obtain ⟨x, hx⟩ : ∃ x, l[k]? = some x := ⟨_, List.getElem?_eq_getElem (by rw [HL.out]; exact hlt)⟩
        obtain ⟨b, o, rfl, hbB, -⟩ := HR.out.plain (by rw [etsV_length, HL.out]; omega)
        obtain ⟨c0, c1, c2⟩ := ets_at HR.out hx
        have HX := Lib.hid hx
        have HI := Lib.hid fun w' => is_any x.name w' (HS.out x (List.mem_of_getElem? hx))
        have HSO := Lib.hid fun w' => sound_any (str x.name) x.ino x.ty (rightE x) w' rfl
        have HOX : Hid (okE x = (isT x.name && rightE x)) := rfl
        have HXL : Hid (∀ y, ltE y x ↔ ordT y.name x.name = -1) := fun y => Iff.rfl
        have HOR : Hid (∀ y w', Calls Try.prog 26 #[.string (str y), .string (str x.name)] w' fun e w'' => e = .returned (.int .i64 (ordT y x.name)) ∧ w'' = w') := fun y w' => order_same y x.name w'
        obtain ⟨ti, hti⟩ : ∃ ti, isT x.name = ti := ⟨_, rfl⟩
        obtain ⟨ri, hri⟩ : ∃ ri, rightE x = ri := ⟨_, rfl⟩
        rw [hti] at HI HOX
        rw [hri] at HSO HOX
        obtain ⟨X, hX⟩ : ∃ X, str x.name = X := ⟨_, rfl⟩
        rw [hX] at c0 HI HSO HOR
        obtain ⟨qi, hqi⟩ : ∃ qi, x.ino = qi := ⟨_, rfl⟩
        obtain ⟨qt, hqt⟩ : ∃ qt, x.ty = qt := ⟨_, rfl⟩
        rw [hqi] at c1 HSO
        rw [hqt] at c2 HSO
        have K0 := Lib.hid (Bk.new wr 38 #[.string X, .int .i64 qi, .int .i64 qt])
        have HB0 := Lib.hid (HB.out.alloc HB.out.size (.cells #[.string X, .int .i64 qi, .int .i64 qt] 38))
        clear hx hti hri hX hqi hqt
        go_wp2_with fail
        refine (HI.out _).mono ?_
        rintro e w1 ⟨rfl, hb⟩
        have K1 := Lib.hid (K0.out.below hb K0.out.lt)
        have HB1 := Lib.hid (HB0.out.trans (hb.mono HB0.out.size))
        clear hb K0 HB0 c0 c1 c2
        cases ti with
        | false =>
          obtain rfl : m = false := by rw [← HM.out]; exact mayE_bad HX.out HOX.out
          go_wp2
          go_ret
          exact ⟨rfl, HB1.out⟩
        | true =>
          obtain ⟨k0, k1, k2, -⟩ := et_cells K1.out
          go_wp2_with fail
          refine (HSO.out _).mono ?_
          rintro e w2 ⟨rfl, hb⟩
          have K2 := Lib.hid (K1.out.below hb K1.out.lt)
          have HB2 := Lib.hid (HB1.out.trans (hb.mono HB1.out.size))
          clear hb K1 HB1 k0 k1 k2
          cases ri with
          | false =>
            obtain rfl : m = false := by rw [← HM.out]; exact mayE_bad HX.out HOX.out
            go_wp2
            go_ret
            exact ⟨rfl, HB2.out⟩
          | true =>
            obtain ⟨k0, k1, k2, -⟩ := et_cells K2.out
            have HOK' : Hid (∀ j x, j < k + 1 → l[j]? = some x → okE x = true) := fun j y hj hy => by
              rcases Nat.lt_or_ge j k with h | h
              · exact HOK.out j y h hy
              · obtain rfl : j = k := by omega
                rw [HX.out] at hy; cases hy; exact HOX.out
            by_cases hk0 : k = 0
            · have HP' : Hid ((l.take (k + 1)).Pairwise ltE) := by
                show List.Pairwise _ _
                rw [List.take_add_one, HX.out, hk0]; simp
              have hd : decide (0 < k) = false := decide_eq_false (by omega)
              clear hk0
              go_wp2_with fail
              go_quiet (fail)
              go_wp2
              go_roundw
              case rel => exact ⟨k + 1, by omega, by go_num, HOK', HP', HB2.out.drewN' _⟩
              case measure => simp [intOf]; omega
            · obtain ⟨j, hkj⟩ : ∃ j, k = j + 1 := ⟨k - 1, by omega⟩
              obtain ⟨y, hy⟩ : ∃ y, l[j]? = some y := ⟨_, List.getElem?_eq_getElem (by rw [HL.out]; omega)⟩
              obtain ⟨d0, -, -⟩ := ets_at (HR0.out.below (HB2.out.mono hB)) hy
              have HOY := Lib.hid (HOR.out y.name)
              obtain ⟨t, ht⟩ : ∃ t, ordT y.name x.name = t := ⟨_, rfl⟩
              have HT := Lib.hid ht
              have hrg := ordT_range y.name x.name
              rw [ht] at HOY hrg
              obtain ⟨Y, hY⟩ : ∃ Y, str y.name = Y := ⟨_, rfl⟩
              rw [hY] at HOY d0
              have HYY := Lib.hid hy
              have HKJ := Lib.hid hkj
              have hk1 : decide (0 < k) = true := decide_eq_true (by omega)
              have hkj' : (k : Int) - 1 = (j : Int) := by omega
              have hjn : (j : Int) < (n : Int) := by omega
              clear hy hY ht hkj HOR
              by_cases h0 : 0 ≤ t
              · obtain rfl : m = false := by
                  rw [← HM.out]; exact mayE_turned HYY.out (by rw [← HKJ.out]; exact HX.out) (by rw [HT.out]; exact h0)
                clear hrg
                go_wp2_with fail
                go_quiet (first | (go_at_call 26; exact Calls.quiet_of_same (HOY.out _)))
                go_wp2
                go_ret
                exact ⟨rfl, HB2.out.drewN' _⟩
              · have HP' : Hid ((l.take (k + 1)).Pairwise ltE) := by
                  show List.Pairwise _ _
                  rw [HKJ.out]
                  exact pair_take HYY.out (by rw [← HKJ.out]; exact HX.out) ((HXL.out _).2 (by rw [HT.out]; omega)) (by rw [← HKJ.out]; exact HP.out)
                clear hrg
                go_wp2_with fail
                go_quiet (first | (go_at_call 26; exact Calls.quiet_of_same (HOY.out _)))
                go_wp2
                go_roundw
                case rel => exact ⟨k + 1, by omega, by go_num, HOK', HP', HB2.out.drewN' _⟩
                case measure => simp [intOf]; omega
      · obtain rfl : k = n := by omega
        have hmt : mayE l = true := (mayE_iff l).2 ⟨fun x hx => by
          obtain ⟨j, hj, e⟩ := List.mem_iff_getElem.1 hx
          exact HOK.out j x (by have := HL.out; omega) (by rw [List.getElem?_eq_getElem hj, e]), by
          have h := HP.out
          rwa [List.take_of_length_le (by rw [HL.out]; exact Nat.le_refl _)] at h, by have := HL.out; omega⟩
        obtain rfl : m = true := by rw [← HM.out]; exact hmt
        clear hmt
        go_wp2
        go_ret
        exact ⟨rfl, HB.out⟩
end Go.Proofs.Ytgboccepgbeihaa
