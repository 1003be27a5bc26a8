/-
  The landed reach: way and which.
-/
import Derived.Test.YtnipfonglheofaaDoorReachP1
import Derived.Test.YtnipfonglheofaaDoorRef08c
namespace Go.Proofs.YtnipfonglheofaaDoor
open Go.RowKit
set_option maxRecDepth 100000
set_option linter.unusedVariables false

set_option maxHeartbeats 2000000 in
theorem way_any (a : Int) (k v S : Nat) (w : World) (hk : k ≤ 3) (hv : v < 15 ^ k) (hS : 15 ^ k = S) :
    Calls Tryd.prog 14 #[.int .i64 a, .int .i64 (v : Int), .int .i64 (S : Int)] w fun e w' => ∃ r, e = .returned r ∧ IntW w' (a :: dig k v) r ∧ Below w.heap.size w w' := by
  obtain ⟨i0, hi, hz0, hz1, hz2⟩ := info_parts info_int8
  have hi := Lib.hid hi
  have hz0 := Lib.hid hz0
  have hz1 := Lib.hid hz1
  have hz2 := Lib.hid hz2
  have HOWN0 : Hid ((w.alloc (.cells #[.int .i64 a] 3)).ownsRow w.heap.size 3 1 (.slice (some ⟨w.heap.size, 0, none⟩) 1 1) 1 ([a].map iv)) := own_of_bk (Bk.new w 3 #[.int .i64 a]) (Nat.le_refl _) rfl (by simp [maxLen])
  have HB0 := Lib.hid ((Below.refl w.heap.size w).alloc (Nat.le_refl _) (.cells #[.int .i64 a] 3))
  obtain ⟨Z, hZ⟩ : ∃ Z, rszN k = Z := ⟨_, rfl⟩
  have hd0 : (S : Int).tdiv 15 = (Z : Int) := by
    rw [Int.tdiv_eq_ediv_of_nonneg (by omega), ← hZ, ← pow_div, hS]; rfl
  have HV : Hid (v % 15 ^ k = v) := Nat.mod_eq_of_lt hv
  have HZ := Lib.hid hZ
  have hvb : v < 3375 := Nat.lt_of_lt_of_le hv (Nat.pow_le_pow_right (by omega) hk)
  have hZb : Z ≤ S := by rw [← hZ, ← pow_div, hS]; exact Nat.div_le_self _ _
  have hSb : S ≤ 3375 := by rw [← hS]; exact Nat.pow_le_pow_right (by omega) hk
  clear hv hS hZ
  go_enter Tryd.func14, Tryd.ntmps14
  go_wp2
  go_loopw [1, 2, 7] (fun n s l wr => ∃ r N Z : Nat, r ≤ k ∧ s = .int .i64 (Z : Int) ∧ Hid (rszN r = Z) ∧ n = .int .i64 (N : Int) ∧ Hid (v % 15 ^ r = N) ∧ Hid (wr.ownsRow w.heap.size 3 1 l (k - r + 1) ((a :: (dig k v).take (k - r)).map iv)) ∧ Hid (Below w.heap.size w wr)) (fun _ s _ _ => (intOf s).toNat)
  case atStart => exact ⟨k, v, Z, Nat.le_refl _, by go_num, HZ.out, by go_num, HV.out, by rw [Nat.sub_self]; exact HOWN0.out, HB0.out⟩
  case round =>
    obtain ⟨r, N, Y, hr, rfl, HY, rfl, HN, HOWN, HB⟩ := hrel
    clear HOWN0 HB0 hd0 HV HZ
    cases r with
    | zero =>
      obtain rfl : Y = 0 := HY.out.symm
      have HT : Hid ((dig k v).take (k - 0) = dig k v) := List.take_of_length_le (by rw [dig_length]; omega)
      go_wp2
      go_ret
      refine ⟨_, rfl, ?_, HB.out⟩
      have h := HOWN.out
      rw [HT.out] at h
      exact IntW.own h
    | succ r =>
      have hY : 15 ^ r = Y := HY.out
      have hYp : 0 < Y := by rw [← hY]; exact Nat.pow_pos (by omega)
      obtain ⟨Z', hZ'⟩ : ∃ Z', rszN r = Z' := ⟨_, rfl⟩
      obtain ⟨D, hD⟩ : ∃ D, v / 15 ^ r % 15 = D := ⟨_, rfl⟩
      obtain ⟨M, hM⟩ : ∃ M, v % 15 ^ r = M := ⟨_, rfl⟩
      obtain ⟨hc1, hc2⟩ := dig_cut v r
      have hYb : Y ≤ 225 := by rw [← hY]; exact Nat.pow_le_pow_right (by omega) (show r ≤ 2 by omega)
      have hNb : N < 15 * Y := by rw [← HN.out, ← hY, Nat.mul_comm, ← Nat.pow_succ]; exact Nat.mod_lt _ (Nat.pow_pos (by omega))
      have hDb : D < 15 := by rw [← hD]; exact Nat.mod_lt _ (by omega)
      have hMb : M < Y := by rw [← hM, ← hY]; exact Nat.mod_lt _ (Nat.pow_pos (by omega))
      have q1 : (N : Int).tdiv (Y : Int) = (D : Int) := by
        rw [Int.tdiv_eq_ediv_of_nonneg (by omega), ← hD, ← hc1, HN.out, hY]; rfl
      have q2 : (N : Int).tmod (Y : Int) = (M : Int) := by
        rw [Int.tmod_eq_emod_of_nonneg (by omega), ← hM, ← hc2, HN.out, hY]; rfl
      have hdv := rszN_div r
      rw [HY.out, hZ'] at hdv
      have q3 : (Y : Int).tdiv 15 = (Z' : Int) := by
        rw [Int.tdiv_eq_ediv_of_nonneg (by omega), ← hdv]; rfl
      have hZY : Z' < Y := by rw [← hdv]; exact Nat.div_lt_self hYp (by omega)
      have hY0 : ¬ (Y : Int) = 0 := by omega
      have hY1 : ((Y : Int) == 0) = false := by simp; omega
      have HE : Hid ((a :: (dig k v).take (k - r)) = (a :: (dig k v).take (k - (r + 1))) ++ [(D : Int)]) := by
        show _ = _
        have hg := dig_get k v (k - (r + 1)) (by omega)
        rw [show k - 1 - (k - (r + 1)) = r from by omega, hD] at hg
        rw [show k - r = k - (r + 1) + 1 from by omega, List.take_add_one, hg]; rfl
      have HZ' := Lib.hid hZ'
      have HM := Lib.hid hM
      have HOWN2 := Lib.hid (HOWN.out.alloc (.cells #[.int .i64 (D : Int)] 3))
      have HB2 := Lib.hid (HB.out.alloc HB.out.size (.cells #[.int .i64 (D : Int)] 3))
      have HR := Lib.hid (Rd.new wr 3 #[.int .i64 (D : Int)] (0, 0))
      obtain ⟨Ar, cr, hre, hcr, hcm⟩ := own_len HOWN.out
      subst hre
      clear hY hD hM hc1 hc2 hdv hZ'
      go_wp2_with (at_builtin; refine wpList_append_rd _ rfl _ _ 26 rfl w.heap.size 3 i0 (.int .i64 0) 1 8 Tryd.underlying26 hi.out hz0.out hz1.out hz2.out rfl (by decide) _ _ _ rfl HOWN2.out (wr.heap.size + 1) (some ⟨wr.heap.size, 0, none⟩) 1 1 ([(D : Int)].map iv) rfl rfl HR.out ?c2 ?c3 ?c4 ?c5 ?_)
      case c2 => first | exact ints_one _ | rfl
      case c3 => unfold maxLen; omega
      case c4 => omega
      case c5 => have := HB.out.size; omega
      intro r' w6 hown6 hgrow
      have HB6 := Lib.hid (HB2.out.grown hgrow HB2.out.size (fun g hg => (HOWN2.out.lt g hg).1))
      have HOWN6 : Hid (w6.ownsRow w.heap.size 3 1 r' (k - r + 1) ((a :: (dig k v).take (k - r)).map iv)) := by
        rw [HE.out, show k - r + 1 = k - (r + 1) + 1 + 1 from by omega]
        show World.ownsRow _ _ _ _ _ _ _
        simpa [List.map_append, List.map_take] using hown6
      clear hown6 hgrow HOWN2 HB2 HR HOWN HB HE
      go_wp2
      go_roundw
      case rel => exact ⟨r, M, Z', by omega, rfl, HZ'.out, rfl, HM.out, HOWN6.out, HB6.out⟩
      case measure => simp [intOf]; omega

/-- whether the path begins with a, and is k places long behind it: its number -/
def Which (l : List Int) (a : Int) (k : Nat) (n : Int) (ok : Bool) : Prop :=
  (ok = true ∧ ∃ v, v < 15 ^ k ∧ l = a :: dig k v ∧ n = (v : Int)) ∨ (ok = false ∧ ∀ v, v < 15 ^ k → l ≠ a :: dig k v)

def WhR (l : List Int) (a : Int) (k S : Nat) (r : Value) : Prop := ∃ n ok, r = .tuple #[.int .i64 n, .bool ok] ∧ Which l a k n ok ∧ (ok = true → 0 ≤ n ∧ n < S)

set_option maxHeartbeats 4000000 in
theorem which_any (B : Nat) (A : Option Addr) (m c : Nat) (l : List Int) (a : Int) (k S : Nat) (w : World) (hl : l.length = m) (hmc : m ≤ c) (hm : c ≤ 9223372036854775807) (hr : Rd w B A (l.map iv)) (hk : k ≤ 3) (hS : 15 ^ k = S) :
    Calls Tryd.prog 15 #[.slice A m c, .int .i64 a, .int .i64 (S : Int)] w fun e w' => ∃ r, e = .returned r ∧ WhR l a k S r ∧ w = w' := by
  have hSb : S ≤ 3375 := by rw [← hS]; exact Nat.pow_le_pow_right (by omega) hk
  cases l with
  | nil =>
    obtain rfl : m = 0 := hl.symm
    go_enter Tryd.func15, Tryd.ntmps15
    go_wp2
    go_ret2
    exact ⟨_, rfl, ⟨_, _, rfl, .inr ⟨rfl, fun v _ h => by cases h⟩, (fun h => by cases h)⟩, rfl⟩
  | cons d t =>
    obtain ⟨b, o, rfl, hb, hc⟩ := hr.plain (by simp)
    have c0 : w.cell? ⟨b, o, none⟩ = some (.int .i64 d) := hc 0 _ rfl
    have HC : Hid (∀ j x, t[j]? = some x → w.cell? ⟨b, o + 1 + j, none⟩ = some (.int .i64 x)) := fun j x hx => by
      have := hc (j + 1) (iv x) (by rw [List.map_cons, List.getElem?_cons_succ, List.getElem?_map, hx]; rfl)
      rwa [show o + (j + 1) = o + 1 + j from by omega] at this
    have hm1 : m = t.length + 1 := by rw [← hl]; rfl
    have hm0 : ¬ (m : Int) = 0 := by omega
    have hm0' : ((m : Int) == 0) = false := by simp; omega
    clear hr hc hl
    by_cases hda : d = a
    · subst hda
      subst hm1
      obtain ⟨T, hT⟩ : ∃ T, t.length = T := ⟨_, rfl⟩
      have HT := Lib.hid hT
      have HS := Lib.hid hS
      rw [hT] at hm0 hm0' hmc ⊢
      have key : (c = 1 ∧ T = 0) ∨ (¬ c = 1 ∧ ¬ c - 1 = 0) := by omega
      clear hS hT
      rcases key with ⟨rfl, rfl⟩ | ⟨hc1, hc2⟩
      all_goals
        go_enter Tryd.func15, Tryd.ntmps15
        go_wp2
        go_loop [2, 8, 24] (fun s n i => ∃ j Y u X : Nat, i = .int .i64 (j : Int) ∧ j ≤ t.length ∧ j ≤ k ∧ s = .int .i64 (Y : Int) ∧ Hid (15 ^ (k - j) = Y) ∧ n = .int .i64 (X : Int) ∧ Hid (X = u * Y) ∧ Hid (u < 15 ^ j) ∧ Hid (t.take j = dig j u)) (fun _ _ i => t.length - (intOf i).toNat)
        case atStart => exact ⟨0, S, 0, 0, rfl, Nat.zero_le _, Nat.zero_le _, by go_num, HS.out, rfl, (Nat.zero_mul _).symm, by show 0 < 1; omega, rfl⟩
        case round =>
          obtain ⟨j, Y, u, X, rfl, hj, hjk, rfl, HY, rfl, HX, HU, HD⟩ := hrel
          have hXb : X < S := by
            rw [HX.out, ← HS.out, show k = j + (k - j) from by omega, Nat.pow_add, HY.out]
            exact Nat.mul_lt_mul_of_pos_right HU.out (by rw [← HY.out]; exact Nat.pow_pos (by omega))
          have hYb : Y ≤ 3375 := by rw [← HY.out]; exact Nat.pow_le_pow_right (by omega) (show k - j ≤ 3 by omega)
          have hYp : 1 ≤ Y := by rw [← HY.out]; exact Nat.pow_pos (by omega)
          rw [HT.out] at hj
          by_cases hlt : j < t.length
          · obtain ⟨e, he⟩ : ∃ e, t[j]? = some e := ⟨_, List.getElem?_eq_getElem hlt⟩
            have c1 := HC.out j e he
            have HE := Lib.hid he
            have HL := Lib.hid hlt
            rw [HT.out] at hlt
            clear he
            first
            | exact absurd hlt (Nat.not_lt_zero _)
            | (by_cases hjk' : j = k
               · obtain rfl : Y = 1 := by rw [← HY.out, hjk', Nat.sub_self]
                 have HF : Hid (∀ v, v < 15 ^ k → d :: t ≠ d :: dig k v) := fun v _ h => by
                   injection h with _ h
                   have h1 := dig_length k v
                   have h2 := HL.out
                   rw [← h] at h1
                   omega
                 clear hjk'
                 go_wp2
                 go_ret2
                 exact ⟨_, rfl, ⟨_, _, rfl, .inr ⟨rfl, HF.out⟩, (fun h => by cases h)⟩, rfl⟩
               · obtain ⟨Y', hY'⟩ : ∃ Y', 15 ^ (k - (j + 1)) = Y' := ⟨_, rfl⟩
                 have hYY : Y = 15 * Y' := by rw [← HY.out, show k - j = k - (j + 1) + 1 from by omega, Nat.pow_succ, hY', Nat.mul_comm]
                 have q1 : (Y : Int).tdiv 15 = (Y' : Int) := by rw [Int.tdiv_eq_ediv_of_nonneg (by omega)]; omega
                 have y0 : ¬ (Y' : Int) = 0 := by omega
                 have y1 : ((Y' : Int) == 0) = false := by simp; omega
                 have HY' := Lib.hid hY'
                 have HYY := Lib.hid hYY
                 have hYb' : Y' ≤ 225 := by omega
                 have hjk2 : j + 1 ≤ k := by omega
                 clear hYY hY' hjk'
                 by_cases heb : 0 ≤ e ∧ e ≤ 14
                 · obtain ⟨E, rfl⟩ : ∃ E : Nat, e = (E : Int) := ⟨e.toNat, by omega⟩
                   have hE : E ≤ 14 := by omega
                   have he0 : ¬ (E : Int) < 0 := by omega
                   have he1 : ¬ (15 : Int) ≤ (E : Int) := by omega
                   obtain ⟨P, hP⟩ : ∃ P, E * Y' = P := ⟨_, rfl⟩
                   have hPb : P ≤ 14 * 225 := by rw [← hP]; exact Nat.mul_le_mul hE hYb'
                   have hmul : (E : Int) * (Y' : Int) = (P : Int) := by rw [← hP]; exact (Int.natCast_mul _ _).symm
                   have HXX : Hid (X + P = (15 * u + E) * Y') := by
                     show _ = _
                     rw [HX.out, HYY.out, ← hP, Nat.add_mul, ← Nat.mul_assoc, Nat.mul_comm u 15]
                   have HUU : Hid (15 * u + E < 15 ^ (j + 1)) := by
                     show _ < _
                     have := HU.out
                     rw [Nat.pow_succ]; omega
                   have HDD : Hid (t.take (j + 1) = dig (j + 1) (15 * u + E)) := by
                     show _ = _
                     rw [dig_snoc j u E (by omega), List.take_add_one, HE.out, HD.out]; rfl
                   clear hP heb
                   go_wp2
                   go_round
                   case rel => exact ⟨j + 1, Y', 15 * u + E, X + P, by go_num, by rw [HT.out]; omega, by omega, rfl, HY'.out, congrArg (Value.int .i64) (Int.natCast_add X P).symm, HXX.out, HUU.out, HDD.out⟩
                   case measure => simp [intOf, HT.out]; omega
                 · have HF : Hid (∀ v, v < 15 ^ k → d :: t ≠ d :: dig k v) := fun v _ h => by
                     injection h with _ h
                     have h1 := List.mem_of_getElem? HE.out
                     rw [h] at h1
                     exact heb (dig_bound k v e h1)
                   rcases (show e < 0 ∨ (¬ e < 0 ∧ 15 ≤ e) by omega) with hn | ⟨hn, hn'⟩
                   · clear heb
                     go_wp2
                     go_ret2
                     exact ⟨_, rfl, ⟨_, _, rfl, .inr ⟨rfl, HF.out⟩, (fun h => by cases h)⟩, rfl⟩
                   · clear heb
                     go_wp2
                     go_ret2
                     exact ⟨_, rfl, ⟨_, _, rfl, .inr ⟨rfl, HF.out⟩, (fun h => by cases h)⟩, rfl⟩)
          · have hjT : j = t.length := by have := HT.out; omega
            have HTT : Hid (t.take j = t) := by show _ = _; rw [hjT, List.take_length]
            rw [HT.out] at hlt
            by_cases hjk' : j = k
            · have HW : Hid (Which (d :: t) d k (X : Int) true) := by
                refine .inl ⟨rfl, u, ?_, ?_, ?_⟩
                · have := HU.out; rwa [hjk'] at this
                · rw [← hjk', ← HD.out, HTT.out]
                · rw [HX.out, ← HY.out, hjk', Nat.sub_self, Nat.pow_zero, Nat.mul_one]
              obtain rfl : Y = 1 := by rw [← HY.out, hjk', Nat.sub_self]
              clear hjk' hjT
              go_wp2
              go_ret2
              exact ⟨_, rfl, ⟨_, _, rfl, HW.out, (fun _ => ⟨by omega, by omega⟩)⟩, rfl⟩
            · have hY1 : ((Y : Int) == 1) = false := by
                have h2 : 15 ≤ Y := by
                  rw [← HY.out, show k - j = k - (j + 1) + 1 from by omega, Nat.pow_succ]
                  have := Nat.pow_pos (n := k - (j + 1)) (show 0 < 15 by omega)
                  omega
                simp; omega
              have HF : Hid (∀ v, v < 15 ^ k → d :: t ≠ d :: dig k v) := fun v _ h => by
                injection h with _ h
                have h1 := dig_length k v
                rw [← h] at h1
                omega
              clear hjk' hjT
              go_wp2
              go_ret2
              exact ⟨_, rfl, ⟨_, _, rfl, .inr ⟨rfl, HF.out⟩, (fun h => by cases h)⟩, rfl⟩
    · have hne : (d != a) = true := by simp [hda]
      have HF : Hid (∀ v, v < 15 ^ k → d :: t ≠ a :: dig k v) := fun v _ h => by injection h with h; exact hda h
      go_enter Tryd.func15, Tryd.ntmps15
      go_wp2
      go_ret2
      exact ⟨_, rfl, ⟨_, _, rfl, .inr ⟨rfl, HF.out⟩, (fun h => by cases h)⟩, rfl⟩
end Go.Proofs.YtnipfonglheofaaDoor
