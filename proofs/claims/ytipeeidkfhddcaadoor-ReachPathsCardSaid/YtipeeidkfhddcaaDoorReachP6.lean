/-
  The landed reach: Count and Size.
-/
import Derived.Test.YtipeeidkfhddcaaDoorReachP3
namespace Go.Proofs.YtipeeidkfhddcaaDoor
open Go.RowKit
set_option maxRecDepth 100000
set_option linter.unusedVariables false

set_option maxHeartbeats 4000000 in
theorem count_any (n : Int) (w : World) (ht : RTab w) (hn : -9223372036854775808 ≤ n ∧ n ≤ 9223372036854775807) :
    Calls Tryd.prog 23 #[.int .i64 n] w fun e w' => e = .returned (.int .i64 (ndsI n : Int)) ∧ w = w' := by
  have HT := Lib.hid ht
  have HE : Hid (ndsI n = cntN n.toNat 9) := (cnt_nds9 n.toNat).symm
  clear ht
  obtain ⟨D, hD⟩ : ∃ D, ndsI n = D := ⟨_, rfl⟩
  rw [hD] at HE ⊢
  clear hD
  obtain ⟨X, hXe⟩ : ∃ X, n.toNat = X := ⟨_, rfl⟩
  rw [hXe] at HE
  have HXE := Lib.hid hXe
  have hXb : X ≤ 9223372036854775807 := by omega
  clear hXe
  rcases (show n < 0 ∨ (¬ n < 0) by omega) with hneg | hneg
  all_goals
    go_enter Tryd.func23, Tryd.ntmps23
    go_wp2_with (refine wpList_load_rch rfl _ rfl rfl HT.out ?_)
    go_loop [3, 4, 12] (fun s x i => ∃ (j c V : Nat), j ≤ 9 ∧ i = .int .i64 (j : Int) ∧ x = .int .i64 (V : Int) ∧ Hid (V = X - bR j) ∧ V ≤ 9223372036854775807 ∧ s = .int .i64 (c : Int) ∧ Hid (c = cntN X j)) (fun _ _ i => 9 - (intOf i).toNat)
    case atStart => exact ⟨0, 0, X, by omega, rfl, by have := HXE.out; go_num, rfl, hXb, rfl, rfl⟩
    case round =>
      obtain ⟨j, c, V, hj, rfl, rfl, HV, hVb, rfl, HC⟩ := hrel
      by_cases hlt : j < 9
      · obtain ⟨S, hS⟩ : ∃ S, 15 ^ kR j = S := ⟨_, rfl⟩
        have hidx := index_rch j S hlt hS
        have hs1 := sR_le j hlt
        have hcb := cnt_le X (j + 1) (by omega)
        rw [hS] at hs1
        obtain ⟨B, hB⟩ : ∃ B, min V S = B := ⟨_, rfl⟩
        obtain ⟨T, hT⟩ : ∃ T, cntN X (j + 1) = T := ⟨_, rfl⟩
        have HTT : Hid (T = c + upN B (kR j)) := by
          show _ = _
          rw [← hT, HC.out, ← hB, HV.out, ← hS]; rfl
        rw [hT] at hcb
        have hTb : T ≤ 91125 := by omega
        have HS := Lib.hid hS
        have HBB := Lib.hid hB
        have HTC := Lib.hid hT
        have hBb : B ≤ 3375 := by omega
        have HSC := Lib.hid (bR_succ j hlt)
        rcases (by omega : (V < S ∧ B = V) ∨ (V = S ∧ B = V) ∨ (S < V ∧ B = S)) with ⟨h, rfl⟩ | ⟨rfl, rfl⟩ | ⟨h, rfl⟩
        all_goals
          clear hB hS hT
          go_wp2
          go_loop [3, 8] (fun s x => ∃ (r d Y : Nat), r ≤ kR j ∧ x = .int .i64 (Y : Int) ∧ Hid (15 ^ r = Y) ∧ s = .int .i64 (d : Int) ∧ Hid (d + upN B r = T)) (fun _ x => (intOf x).toNat)
          case atStart => exact ⟨kR j, c, _, Nat.le_refl _, rfl, HS.out, rfl, HTT.out.symm⟩
          case round =>
            obtain ⟨r, d, Y, hr, rfl, HY, rfl, HD⟩ := hrel
            have hY1 : 1 ≤ Y := by rw [← HY.out]; exact Nat.pow_pos (by omega)
            have hYb : Y ≤ 3375 := by
              have := kR_le hlt
              rw [← HY.out]; exact Nat.pow_le_pow_right (by omega) (show r ≤ 3 by omega)
            cases r with
            | zero =>
              obtain rfl : Y = 1 := HY.out.symm
              have hd : d = T := HD.out
              subst hd
              go_wp2
              go_round
              case rel =>
                have h1 := HV.out
                have h2 := HSC.out
                have h3 := HS.out
                have h4 := HBB.out
                rw [h3] at h2
                exact ⟨j + 1, d, X - bR (j + 1), by omega, by go_num, by go_num, rfl, by omega, rfl, HTC.out.symm⟩
              case measure => simp [intOf]; omega
            | succ r =>
              obtain ⟨Y', hY'⟩ : ∃ Y', 15 ^ r = Y' := ⟨_, rfl⟩
              have hYY : Y = 15 * Y' := by rw [← HY.out, Nat.pow_succ, hY', Nat.mul_comm]
              have hYp : 1 ≤ Y' := by rw [← hY']; exact Nat.pow_pos (by omega)
              have q1 : (Y : Int).tdiv 15 = (Y' : Int) := by rw [Int.tdiv_eq_ediv_of_nonneg (by omega)]; omega
              obtain ⟨C, hC⟩ : ∃ C, ceilN B Y = C := ⟨_, rfl⟩
              have HP := Lib.hid (parts_any B Y C w (by omega) hY1 (by omega) hC)
              have hsum : d + C + upN B r = T := by
                rw [← HD.out, upN, HY.out, hC]; omega
              have HSUM := Lib.hid hsum
              have hdc : d + C ≤ 91125 := by omega
              have hgt : (1 : Int) < (Y : Int) := by omega
              have HY' := Lib.hid hY'
              have hYl : Y' < Y := by omega
              clear hC hsum hY' hYY
              go_wp2_with fail
              refine HP.out.mono ?_
              rintro e w1 ⟨rfl, rfl⟩
              clear HP
              go_wp2
              go_round
              case rel => exact ⟨r, d + C, Y', by omega, by go_num, HY'.out, by go_num, HSUM.out⟩
              case measure => simp [intOf]; omega
      · obtain rfl : j = 9 := by omega
        go_wp2
        go_ret
        exact ⟨ret_int (by rw [HC.out, HE.out]), rfl⟩
theorem countC {w0 : World} (ht : RTab w0) : CountC w0 := ⟨fun n x w hx hB hn => by
  subst hx
  exact (count_any n w (ht.up hB) hn).mono fun e w' ⟨h1, h2⟩ => ⟨h1, by subst h2; exact Below.refl _ _⟩⟩

set_option maxHeartbeats 1000000 in
theorem size_any (n : Int) (w : World) (hn : -9223372036854775808 ≤ n) (hn' : n ≤ 9223372036854775807) :
    Calls Tryd.prog 25 #[.int .i64 n] w fun e w' => e = .returned (.int .i64 (if 0 < n then (n + 127) / 128 else 0)) ∧ w = w' := by
  obtain ⟨D, hD⟩ : ∃ D, (if 0 < n then (n + 127) / 128 else 0) = D := ⟨_, rfl⟩
  rw [hD]
  have HD := Lib.hid hD
  clear hD
  rcases (show n < 0 ∨ (¬ n < 0) by omega) with hneg | hneg
  · have HP := Lib.hid (parts_any 0 128 0 w (by omega) (by omega) (by omega) rfl)
    obtain rfl : D = 0 := by rw [← HD.out, if_neg (by omega)]
    go_enter Tryd.func25, Tryd.ntmps25
    go_wp2_with fail
    refine HP.out.mono ?_
    rintro e w1 ⟨rfl, rfl⟩
    go_wp2
    go_ret
    exact ⟨rfl, rfl⟩
  · obtain ⟨N, rfl⟩ : ∃ N : Nat, n = (N : Int) := ⟨n.toNat, by omega⟩
    have HP := Lib.hid (parts_any N 128 _ w (by omega) (by omega) (by omega) rfl)
    have HE : Hid ((ceilN N 128 : Int) = D) := by
      show _ = _
      rw [← HD.out, ceilN]
      by_cases h : 0 < (N : Int)
      · rw [if_pos h]; omega
      · rw [if_neg h]; omega
    go_enter Tryd.func25, Tryd.ntmps25
    go_wp2_with fail
    refine HP.out.mono ?_
    rintro e w1 ⟨rfl, rfl⟩
    go_wp2
    go_ret
    exact ⟨ret_int HE.out, rfl⟩
theorem sizeC {w0 : World} : SizeC w0 := ⟨fun n w h1 h2 => (size_any n w h1 h2).mono fun e w' ⟨h1, h2⟩ => ⟨h1, by subst h2; exact Below.refl _ _⟩⟩
end Go.Proofs.YtipeeidkfhddcaaDoor
