/-
  What the document's answers of layer 3 are, one contract each: May, Count, Of, Where, Tier.
-/
import Derived.Test.YtfjcclgambkieaaAddr4
namespace Go.Proofs.Ytfjcclgambkieaa
open Go.RowKit
set_option linter.unusedVariables false

set_option maxHeartbeats 1000000 in
theorem refMay_any (D L V S : Int) (t : Bool) (w : World) (ht : mayB D L V S = t) :
    Calls Try.prog 9 #[.agg #[.int .i64 D, .int .i64 L, .int .i64 V, .int .i64 S]] w fun e w' => e = .returned (.bool t) ∧ Below w.heap.size w w' := by
  cases t
  · have hn : ¬ (8 ≤ D ∧ D ≤ 256 ∧ 1 ≤ L ∧ L ≤ D - 6 ∧ 0 ≤ V ∧ V ≤ 8 ∧ 1 ≤ S ∧ S ≤ 256) := by simpa [mayB] using ht
    have hc : (decide (8 ≤ D) = false) ∨ (8 ≤ D ∧ decide (D ≤ 256) = false) ∨ (8 ≤ D ∧ D ≤ 256 ∧ decide (1 ≤ L) = false) ∨ (8 ≤ D ∧ D ≤ 256 ∧ 1 ≤ L ∧ decide (L ≤ D - 6) = false) ∨ (8 ≤ D ∧ D ≤ 256 ∧ 1 ≤ L ∧ L ≤ D - 6 ∧ decide (0 ≤ V) = false)
        ∨ (8 ≤ D ∧ D ≤ 256 ∧ 1 ≤ L ∧ L ≤ D - 6 ∧ 0 ≤ V ∧ decide (V ≤ 8) = false) ∨ (8 ≤ D ∧ D ≤ 256 ∧ 1 ≤ L ∧ L ≤ D - 6 ∧ 0 ≤ V ∧ V ≤ 8 ∧ decide (1 ≤ S) = false) ∨ (8 ≤ D ∧ D ≤ 256 ∧ 1 ≤ L ∧ L ≤ D - 6 ∧ 0 ≤ V ∧ V ≤ 8 ∧ 1 ≤ S ∧ decide (S ≤ 256) = false) := by
      simp only [decide_eq_false_iff_not]
      omega
    clear hn ht
    rcases hc with h1 | ⟨h1, h2⟩ | ⟨h1, h2, h3⟩ | ⟨h1, h2, h3, h4⟩ | ⟨h1, h2, h3, h4, h5⟩ | ⟨h1, h2, h3, h4, h5, h6⟩ | ⟨h1, h2, h3, h4, h5, h6, h7⟩ | ⟨h1, h2, h3, h4, h5, h6, h7, h8⟩
    all_goals
      go_enter Try.func9, Try.ntmps9
      go_wp2
      go_ret
      exact ⟨rfl, (Below.refl _ _).alloc (Nat.le_refl _) _⟩
  · obtain ⟨h1, h2, h3, h4, h5, h6, h7, h8⟩ := mayB_yes ht
    clear ht
    go_enter Try.func9, Try.ntmps9
    go_wp2
    go_ret
    exact ⟨rfl, (Below.refl _ _).alloc (Nat.le_refl _) _⟩

set_option maxHeartbeats 400000 in
theorem Count_any (D L V S : Int) (w : World) (h : mayB D L V S = true) :
    Calls Try.prog 10 #[.agg #[.int .i64 D, .int .i64 L, .int .i64 V, .int .i64 S]] w fun e w' => e = .returned (.int .i64 (segsN D V S)) ∧ Below w.heap.size w w' := by
  obtain ⟨m1, m2, m3, m4, m5, m6, m7, m8⟩ := mayB_yes h
  clear h
  obtain ⟨n, rfl⟩ : ∃ n : Nat, V = n := ⟨V.toNat, by omega⟩
  go_enter Try.func10, Try.ntmps10
  go_wp2
  go_loop [3, 4] (fun c i => ∃ k : Nat, k ≤ n ∧ i = .int .i64 k ∧ c = .int .i64 (D + k * S)) (fun _ i => n - (intOf i).toNat)
  case atStart => exact ⟨0, Nat.zero_le _, rfl, by simp⟩
  case round =>
    obtain ⟨k, hk, rfl, rfl⟩ := hrel
    have hm := mul_bd (a := (k : Int)) (b := S) (A := 8) (B := 256) (by omega) (by omega) (by omega) m8
    obtain ⟨p, hp⟩ : ∃ p, (k : Int) * S = p := ⟨_, rfl⟩
    have HP := Lib.hid hp
    rw [hp] at hm ⊢
    obtain ⟨p1, p2⟩ := hm
    clear hp
    by_cases hlt : k < n
    · go_wp2
      go_round
      case rel => exact ⟨k + 1, by omega, by go_num, congrArg (Value.int .i64) (by rw [← HP.out]; show _ = D + ((k : Int) + 1) * S; rw [Int.add_mul]; omega)⟩
      case measure => simp [intOf]; omega
    · obtain rfl : k = n := by omega
      go_wp2
      go_ret
      exact ⟨ret_int (by unfold segsN; rw [HP.out]), (Below.refl _ _).alloc (Nat.le_refl _) _⟩
end Go.Proofs.Ytfjcclgambkieaa
