/-
  The landed reach: Path and Block.
-/
import Derived.Test.YtnipfonglheofaaDoorReachP2
import Derived.Test.YtnipfonglheofaaDoorReachC
import Derived.WalkMore
namespace Go.Proofs.YtnipfonglheofaaDoor
open Go.RowKit
set_option maxRecDepth 100000
set_option linter.unusedVariables false

set_option maxHeartbeats 2000000 in
theorem path_any (n : Int) (w : World) (ht : RTab w) (hn : -9223372036854775808 ≤ n ∧ n ≤ 9223372036854775807) :
    Calls Tryd.prog 10 #[.int .i64 n] w fun e w' => ∃ A k c, e = .returned (.tuple #[.slice A k c, .int .i64 (errP n)]) ∧ (refP n).length = k ∧ k ≤ c ∧ c ≤ maxLen ∧ Rd w' w'.heap.size A ((refP n).map iv) ∧ Below w.heap.size w w' := by
  have HT := Lib.hid ht
  clear ht
  go_enter Tryd.func10, Tryd.ntmps10
  go_wp2
  go_step3
  go_wp2
  go_step3
  go_wp2_with (refine wpList_load_rch rfl _ rfl rfl HT.out ?_)
  go_loop [0, 7] (fun x i => ∃ (j : Nat) (X : Int), j ≤ 9 ∧ i = .int .i64 (j : Int) ∧ x = .int .i64 X ∧ Hid (X = n - (bR j : Int)) ∧ Hid (j = 0 ∨ 0 ≤ X) ∧ -9223372036854775808 ≤ X ∧ X ≤ 9223372036854775807) (fun _ i => 9 - (intOf i).toNat)
  case atStart => exact ⟨0, n, by omega, rfl, rfl, by show n = n - ((0 : Nat) : Int); omega, .inl rfl, hn.1, hn.2⟩
  case round =>
    obtain ⟨j, X, hj, rfl, rfl, HX, HJ, hX0, hX1⟩ := hrel
    by_cases hlt : j < 9
    · obtain ⟨S, hS⟩ : ∃ S, 15 ^ kR j = S := ⟨_, rfl⟩
      have hidx := index_rch j S hlt hS
      have hs1 := sR_le j hlt
      have hsc := bR_succ j hlt
      have hle := bR_le j hlt
      rw [hS] at hs1 hsc
      have HS := Lib.hid hS
      have HSC := Lib.hid hsc
      have HLE := Lib.hid hle
      clear hS hsc hle
      by_cases hneg : X < 0
      · have HE : Hid (refP n = [] ∧ errP n = 4) := by
          have h0 : j = 0 := by rcases HJ.out with h | h; exact h; omega
          subst h0
          have h1 := HX.out
          have h2 : bR 0 = 0 := rfl
          rw [h2] at h1
          show _ ∧ _
          unfold refP errP
          rw [if_neg (by omega), if_neg (by omega)]
          exact ⟨rfl, rfl⟩
        go_wp2
        go_ret2
        rw [HE.out.1, HE.out.2]
        exact ⟨none, 0, 0, rfl, rfl, Nat.le_refl _, by simp [maxLen], Rd.nil_, Below.refl _ _⟩
      · by_cases hlt2 : X < S
        · obtain ⟨v, rfl⟩ : ∃ v : Nat, X = (v : Int) := ⟨X.toNat, by omega⟩
          have hv : v < S := by omega
          have HE : Hid (refP n = (j : Int) :: dig (kR j) v ∧ errP n = 0) := by
            have h1 := HX.out
            have h2 := HSC.out
            have h3 := HLE.out
            have e : n = ((bR j + v : Nat) : Int) := by omega
            show _ ∧ _
            unfold refP errP
            rw [if_pos (by omega), if_pos (by omega), ← path_at j v hlt (by rw [HS.out]; exact hv), e]
            exact ⟨rfl, rfl⟩
          have HW := Lib.hid (way_any (j : Int) (kR j) v S w (kR_le hlt) (by rw [HS.out]; exact hv) HS.out)
          go_wp2_with fail
          refine HW.out.mono ?_
          rintro e w1 ⟨r, rfl, ⟨A, m, c, rfl, h1, h2, h3, h4⟩, hb⟩
          have HR := Lib.hid h4
          have HB := Lib.hid hb
          have HL := Lib.hid h1
          clear h4 hb HW h1
          go_wp2
          rw [Exit.noGoto_ret]
          go_ret2
          rw [HE.out.1, HE.out.2]
          exact ⟨A, m, c, rfl, HL.out, h2, h3, HR.out, HB.out⟩
        · have hlt3 : ¬ X < (S : Int) := hlt2
          go_wp2
          go_round
          case rel =>
            have h1 := HX.out
            have h2 := HSC.out
            refine ⟨j + 1, X - S, by omega, by go_num, rfl, by show _ = _; omega, .inr (by omega), by omega, by omega⟩
          case measure => simp [intOf]; omega
    · obtain rfl : j = 9 := by omega
      have HE : Hid (refP n = [] ∧ errP n = 4) := by
        have h1 := HX.out
        have h2 : bR 9 = 3621 := rfl
        have h3 : 0 ≤ X := by rcases HJ.out with h | h; omega; exact h
        rw [h2] at h1
        show _ ∧ _
        unfold refP errP
        rw [if_neg (by omega), if_neg (by omega)]
        exact ⟨rfl, rfl⟩
      go_wp2
      go_ret2
      rw [HE.out.1, HE.out.2]
      exact ⟨none, 0, 0, rfl, rfl, Nat.le_refl _, by simp [maxLen], Rd.nil_, Below.refl _ _⟩
theorem pathC {w0 : World} (ht : RTab w0) : PathC w0 := ⟨fun n l q w hl hq hB hn => by
  subst hl
  subst hq
  exact path_any n w (ht.up hB) hn⟩

set_option maxHeartbeats 2000000 in
theorem block_any (A : Option Addr) (m c : Nat) (l : List Int) (r : Int) (w : World) (hl : l.length = m) (hc : m ≤ c) (hm : c ≤ maxLen) (hr : Rd w w.heap.size A (l.map iv)) (hi : IsBlk l r) (ht : RTab w) :
    Calls Tryd.prog 6 #[.slice A m c] w fun e w' => e = .returned (.tuple #[.int .i64 (valR r), .int .i64 (errR r)]) ∧ Below w.heap.size w w' := by
  have HT := Lib.hid ht
  have HI := Lib.hid hi
  unfold maxLen at hm
  have HW := Lib.hid fun (i S : Nat) (h : i < 9) (hS : 15 ^ kR i = S) => which_any w.heap.size A m c l (i : Int) (kR i) S w hl hc hm hr (kR_le h) hS
  clear ht hi hl hr
  go_enter Tryd.func6, Tryd.ntmps6
  go_wp2_with (refine wpList_load_rch rfl _ rfl rfl HT.out ?_)
  go_loop [4, 10] (fun x i => ∃ (j : Nat), j ≤ 9 ∧ i = .int .i64 (j : Int) ∧ x = .int .i64 (bR j : Int) ∧ Hid (∀ i v, i < j → v < 15 ^ kR i → l ≠ (i : Int) :: dig (kR i) v)) (fun _ i => 9 - (intOf i).toNat)
  case atStart => exact ⟨0, by omega, rfl, rfl, fun i v h => absurd h (by omega)⟩
  case round =>
    obtain ⟨j, hj, rfl, rfl, HALL⟩ := hrel
    by_cases hlt : j < 9
    · obtain ⟨S, hS⟩ : ∃ S, 15 ^ kR j = S := ⟨_, rfl⟩
      have hidx := index_rch j S hlt hS
      have hs1 := sR_le j hlt
      have hsc := bR_succ j hlt
      have hle := bR_le j hlt
      rw [hS] at hs1 hsc
      obtain ⟨bb, hbb⟩ : ∃ bb, bR j = bb := ⟨_, rfl⟩
      have HBB := Lib.hid hbb
      have HS := Lib.hid hS
      have HSC := Lib.hid hsc
      have hbs : bb + S ≤ 3621 := by omega
      have HWJ := Lib.hid (HW.out j S hlt hS)
      rw [hbb]
      clear hS hsc hle hbb
      go_wp2_with fail
      refine HWJ.out.mono ?_
      rintro e w1 ⟨v, rfl, ⟨n, ok, rfl, hwh, hnb⟩, rfl⟩
      rcases hwh with ⟨rfl, v, hv, hlv, rfl⟩ | ⟨rfl, hno⟩
      · have HE : Hid (valR r = ((bb + v : Nat) : Int) ∧ errR r = 0) := by
          have hp := path_at j v hlt hv
          rw [HBB.out] at hp
          have hv' := hv
          rw [HS.out] at hv'
          have hlt3 : bb + v < 3621 := by omega
          have : r = ((bb + v : Nat) : Int) := by
            rcases HI.out with ⟨k, hk, hk2, rfl⟩ | ⟨h, _⟩
            · rw [path_inj hk hlt3 (hk2.trans (hlv.trans hp.symm))]
            · exact absurd (hp.trans hlv.symm) (h _ hlt3)
          show _ ∧ _
          rw [this]
          unfold valR errR
          rw [if_neg (by omega), if_neg (by omega)]
          exact ⟨rfl, rfl⟩
        have hv2 : v < S := by have := (hnb rfl).2; omega
        clear hv hlv hnb HWJ
        go_wp2
        go_ret2
        rw [HE.out.1, HE.out.2]
        exact ⟨rfl, Below.refl _ _⟩
      · have HNO := Lib.hid hno
        clear hno hnb HWJ
        go_wp2
        go_round
        case rel =>
          refine ⟨j + 1, by omega, by go_num, by rw [HSC.out, HBB.out]; go_num, fun i v hi hv => ?_⟩
          rcases (by omega : i < j ∨ i = j) with h | rfl
          · exact HALL.out i v h hv
          · exact HNO.out v hv
        case measure => simp [intOf]; omega
    · obtain rfl : j = 9 := by omega
      have HE : Hid (valR r = 0 ∧ errR r = 4) := by
        have : r = -1 := by
          rcases HI.out with ⟨k, hk, hk2, rfl⟩ | ⟨_, h⟩
          · obtain ⟨i, v, h1, h2, rfl⟩ := path_ex k hk
            rw [path_at i v h1 h2] at hk2
            exact absurd hk2.symm (HALL.out i v h1 h2)
          · exact h
        subst this
        exact ⟨rfl, rfl⟩
      go_wp2
      go_ret2
      rw [HE.out.1, HE.out.2]
      exact ⟨rfl, Below.refl _ _⟩
theorem blockC {w0 : World} (ht : RTab w0) : BlockC w0 := ⟨fun A m c l r x q w hl hc hm hr hi hx hq hB => by
  subst hx
  subst hq
  exact block_any A m c l r w hl hc hm hr hi (ht.up hB)⟩
end Go.Proofs.YtnipfonglheofaaDoor
