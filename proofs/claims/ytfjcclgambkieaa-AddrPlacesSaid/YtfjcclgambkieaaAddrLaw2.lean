/-
  What the document's Of, Where and Tier of layer 3 are, one contract each.
-/
import Derived.Test.YtfjcclgambkieaaAddrLaw
namespace Go.Proofs.Ytfjcclgambkieaa
open Go.RowKit
set_option linter.unusedVariables false

set_option maxHeartbeats 2000000 in
theorem refOf_no (D L V S v s o : Int) (w : World) (h : mayB D L V S = true) (ht : placeB D V S v s o = false) :
    Calls Try.prog 17 #[.agg #[.int .i64 D, .int .i64 L, .int .i64 V, .int .i64 S], .agg #[.int .i64 v, .int .i64 s, .int .i64 o]] w fun e w' => e = .returned (.int .i64 0) ∧ Below w.heap.size w w' := by
  obtain ⟨m1, m2, m3, m4, m5, m6, m7, m8⟩ := mayB_yes h
  have hc : decide (v < -1) = true ∨ (decide (v < -1) = false ∧ decide (V ≤ v) = true) ∨ (decide (v < -1) = false ∧ decide (V ≤ v) = false ∧ decide (s < 0) = true) ∨ (decide (v < -1) = false ∧ decide (V ≤ v) = false ∧ decide (s < 0) = false ∧ decide (o < 0) = true)
      ∨ (decide (v < -1) = false ∧ decide (V ≤ v) = false ∧ decide (s < 0) = false ∧ decide (o < 0) = false ∧ decide (15 < o) = true)
      ∨ (decide (v < -1) = false ∧ decide (V ≤ v) = false ∧ decide (s < 0) = false ∧ decide (o < 0) = false ∧ decide (15 < o) = false ∧ decide (v < 0) = true ∧ decide (D ≤ s) = true)
      ∨ (decide (v < -1) = false ∧ decide (V ≤ v) = false ∧ decide (s < 0) = false ∧ decide (o < 0) = false ∧ decide (15 < o) = false ∧ decide (v < 0) = false ∧ decide (0 ≤ v) = true ∧ decide (S ≤ s) = true) := by
    have hn : ¬ (-1 ≤ v ∧ v ≤ V - 1 ∧ 0 ≤ s ∧ s ≤ segsOfI D S v - 1 ∧ 0 ≤ o ∧ o ≤ 15) := by
      intro ⟨a, b, c, d, e, f⟩
      rw [placeB, inB_mk a b, inB_mk c d, inB_mk e f] at ht
      cases ht
    unfold segsOfI at hn
    simp only [decide_eq_false_iff_not, decide_eq_true_eq]
    split at hn <;> omega
  clear h ht m1 m2 m3 m4 m5 m6 m7 m8
  rcases hc with h1 | ⟨h1, h2⟩ | ⟨h1, h2, h3⟩ | ⟨h1, h2, h3, h4⟩ | ⟨h1, h2, h3, h4, h5⟩ | ⟨h1, h2, h3, h4, h5, h6, h7⟩ | ⟨h1, h2, h3, h4, h5, h6, h7, h8⟩
  all_goals
    go_enter Try.func17, Try.ntmps17
    go_wp2
    go_ret
    exact ⟨rfl, ((Below.refl _ _).alloc (Nat.le_refl _) _).alloc (by simp) _⟩

set_option maxHeartbeats 1000000 in
theorem refOf_yes (D L V S v s o : Int) (w : World) (h : mayB D L V S = true) (ht : placeB D V S v s o = true) :
    Calls Try.prog 17 #[.agg #[.int .i64 D, .int .i64 L, .int .i64 V, .int .i64 S], .agg #[.int .i64 v, .int .i64 s, .int .i64 o]] w fun e w' => e = .returned (.int .i64 (addrI D S v s o)) ∧ Below w.heap.size w w' := by
  obtain ⟨m1, m2, m3, m4, m5, m6, m7, m8⟩ := mayB_yes h
  have hc : -1 ≤ v ∧ v ≤ V - 1 ∧ 0 ≤ s ∧ s ≤ segsOfI D S v - 1 ∧ 0 ≤ o ∧ o ≤ 15 := by
    rw [placeB, Bool.and_eq_true, Bool.and_eq_true] at ht
    have a := inB_yes ht.1.1
    have b := inB_yes ht.1.2
    have c := inB_yes ht.2
    omega
  obtain ⟨v1, v2, s1, s2, o1, o2⟩ := hc
  clear h ht
  unfold segsOfI at s2
  by_cases hv : v = -1
  · subst hv
    simp only [if_true] at s2
    have HA : Hid (addrI D S (-1) s o = 16 * s + o + 1) := by show _ = _; unfold addrI; rw [firstI_disk]; omega
    have e1 : decide (D ≤ s) = false := by simp <;> omega
    have e2 : decide (o < 0) = false := by simp <;> omega
    have e3 : decide (15 < o) = false := by simp <;> omega
    have e4 : decide (s < 0) = false := by simp <;> omega
    have e5 : decide (V ≤ -1) = false := by simp <;> omega
    have s3 : s ≤ 256 := by omega
    clear s2
    go_enter Try.func17, Try.ntmps17
    go_wp2
    refine wp_loop_rounds 1 ?_
    rw [rounds_succ]
    go_wp2
    go_ret
    exact ⟨ret_int (by rw [HA.out]), ((Below.refl _ _).alloc (Nat.le_refl _) _).alloc (by simp) _⟩
  · rw [if_neg hv] at s2
    obtain ⟨n, rfl⟩ : ∃ n : Nat, v = n := ⟨v.toNat, by omega⟩
    have HA : Hid (addrI D S n s o = 16 * (s + D + n * S) + o + 1) := by show _ = _; unfold addrI; rw [firstI_vol (by omega)]; omega
    have e0 : decide ((n : Int) < -1) = false := by simp <;> omega
    have e1 : decide (S ≤ s) = false := by simp <;> omega
    have e2 : decide (o < 0) = false := by simp <;> omega
    have e3 : decide (15 < o) = false := by simp <;> omega
    have e4 : decide (s < 0) = false := by simp <;> omega
    have e5 : decide (V ≤ (n : Int)) = false := by simp <;> omega
    have e6 : decide ((n : Int) < 0) = false := by simp <;> omega
    have e7 : decide (0 ≤ (n : Int)) = true := by simp
    have s3 : s ≤ 256 := by omega
    have n8 : n ≤ 8 := by omega
    clear s2 hv
    go_enter Try.func17, Try.ntmps17
    go_wp2
    go_loop [5, 6] (fun c i => ∃ k : Nat, k ≤ n ∧ i = .int .i64 k ∧ c = .int .i64 (s + D + k * S)) (fun _ i => n - (intOf i).toNat)
    case atStart => exact ⟨0, Nat.zero_le _, rfl, by simp⟩
    case round =>
      obtain ⟨k, hk, rfl, rfl⟩ := hrel
      have hm := mul_bd (a := (k : Int)) (b := S) (A := 8) (B := 256) (by omega) (by omega) (by omega) m8
      obtain ⟨p, hp⟩ : ∃ p, (k : Int) * S = p := ⟨_, rfl⟩
      have HP := Lib.hid hp
      rw [hp] at hm ⊢
      obtain ⟨p1, p2⟩ := hm
      clear hp
      by_cases hlt : k < n
      · go_wp2
        go_round
        case rel => exact ⟨k + 1, by omega, by go_num, congrArg (Value.int .i64) (by rw [← HP.out]; show _ = s + D + ((k : Int) + 1) * S; rw [Int.add_mul]; omega)⟩
        case measure => simp [intOf]; omega
      · obtain rfl : k = n := by omega
        go_wp2
        go_ret
        exact ⟨ret_int (by rw [HA.out, HP.out]), ((Below.refl _ _).alloc (Nat.le_refl _) _).alloc (by simp) _⟩
end Go.Proofs.Ytfjcclgambkieaa
