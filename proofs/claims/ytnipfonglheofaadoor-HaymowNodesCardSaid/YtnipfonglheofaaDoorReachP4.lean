/-
  The landed reach: Number and Node.
-/
import Derived.Test.YtnipfonglheofaaDoorReachP3
namespace Go.Proofs.YtnipfonglheofaaDoor
open Go.RowKit
set_option maxRecDepth 100000
set_option linter.unusedVariables false

set_option maxHeartbeats 4000000 in
theorem rnumber_any (A : Option Addr) (m c : Nat) (l : List Int) (r : Int) (w : World) (hl : l.length = m) (hc : m ≤ c) (hm : c ≤ maxLen) (hr : Rd w w.heap.size A (l.map iv)) (hi : IsNum l r) (ht : RTab w) :
    Calls Tryd.prog 7 #[.slice A m c] w fun e w' => e = .returned (.tuple #[.int .i64 (valR r), .int .i64 (errR r)]) ∧ Below w.heap.size w w' := by
  have HT := Lib.hid ht
  have HI := Lib.hid hi
  unfold maxLen at hm
  have HW := Lib.hid fun (i S : Nat) (w' : World) (hb : Below w.heap.size w w') (h : i < 6) (hS : 15 ^ kG i = S) => which_any w.heap.size A m c l (fG i : Int) (kG i) S w' hl hc hm (hr.below hb) (kG_le i) hS
  clear ht hi hl hr
  go_enter Tryd.func7, Tryd.ntmps7
  go_wp2_with (refine wpList_load_grp rfl _ rfl rfl HT.out ?_)
  go_loopw [4, 10] (fun x i wr => ∃ (j : Nat), j ≤ 6 ∧ i = .int .i64 (j : Int) ∧ x = .int .i64 (bG j : Int) ∧ Hid (∀ i v, i < j → v < 15 ^ kG i → l ≠ (fG i : Int) :: dig (kG i) v) ∧ Hid (Below w.heap.size w wr)) (fun _ i _ => 6 - (intOf i).toNat)
  case atStart => exact ⟨0, by omega, rfl, rfl, fun i v h => absurd h (by omega), Below.refl _ _⟩
  case round =>
    obtain ⟨j, hj, rfl, rfl, HALL, HB⟩ := hrel
    by_cases hlt : j < 6
    · obtain ⟨S, hS⟩ : ∃ S, 15 ^ kG j = S := ⟨_, rfl⟩
      obtain ⟨f, hf⟩ : ∃ f, fG j = f := ⟨_, rfl⟩
      have hidx := index_grp j f S hlt hf hS
      have hs1 := sG_le j hlt
      have hsc := bG_succ j hlt
      have hle := bG_le j hlt
      rw [hS] at hs1 hsc
      obtain ⟨bb, hbb⟩ : ∃ bb, bG j = bb := ⟨_, rfl⟩
      have HBB := Lib.hid hbb
      have HS := Lib.hid hS
      have HF := Lib.hid hf
      have HSC := Lib.hid hsc
      have hbs : bb + S ≤ 258 := by omega
      have HWJ := Lib.hid fun w' hb => HW.out j S w' hb hlt hS
      rw [hf] at HWJ
      rw [hbb]
      clear hS hsc hle hbb hf
      go_wp2_with fail
      refine (HWJ.out _ (HB.out.alloc HB.out.size _)).mono ?_
      rintro e w1 ⟨v, rfl, ⟨n, ok, rfl, hwh, hnb⟩, rfl⟩
      have HB2 := Lib.hid (HB.out.alloc HB.out.size (.cells #[.int .i64 (f : Int), .int .i64 (S : Int)] 50))
      rcases hwh with ⟨rfl, v, hv, hlv, rfl⟩ | ⟨rfl, hno⟩
      · have HE : Hid (valR r = ((bb + v : Nat) : Int) ∧ errR r = 0) := by
          have hp := nod_at j v hlt hv
          rw [HBB.out, HF.out] at hp
          have hv' := hv
          rw [HS.out] at hv'
          have hlt3 : bb + v < 258 := by omega
          have : r = ((bb + v : Nat) : Int) := by
            rcases HI.out with ⟨k, hk, hk2, rfl⟩ | ⟨h, _⟩
            · rw [nod_inj (hk2.trans (hlv.trans hp.symm))]
            · exact absurd (hp.trans hlv.symm) (h _ hlt3)
          show _ ∧ _
          rw [this]
          unfold valR errR
          rw [if_neg (by omega), if_neg (by omega)]
          exact ⟨rfl, rfl⟩
        have hv2 : v < S := by have := (hnb rfl).2; omega
        clear hv hlv hnb HWJ
        go_wp2
        go_ret2
        rw [HE.out.1, HE.out.2]
        exact ⟨rfl, HB2.out⟩
      · have HNO := Lib.hid hno
        clear hno hnb HWJ
        go_wp2
        go_roundw
        case rel =>
          refine ⟨j + 1, by omega, by go_num, by rw [HSC.out, HBB.out]; go_num, fun i v hi hv => ?_, HB2.out⟩
          rcases (by omega : i < j ∨ i = j) with h | rfl
          · exact HALL.out i v h hv
          · rw [HF.out]; exact HNO.out v hv
        case measure => simp [intOf]; omega
    · obtain rfl : j = 6 := by omega
      have HE : Hid (valR r = 0 ∧ errR r = 4) := by
        have : r = -1 := by
          rcases HI.out with ⟨k, hk, hk2, rfl⟩ | ⟨_, h⟩
          · obtain ⟨i, v, h1, h2, rfl⟩ := nod_ex k hk
            rw [nod_at i v h1 h2] at hk2
            exact absurd hk2.symm (HALL.out i v h1 h2)
          · exact h
        subst this
        exact ⟨rfl, rfl⟩
      go_wp2
      go_ret2
      rw [HE.out.1, HE.out.2]
      exact ⟨rfl, HB.out⟩
theorem numberC {w0 : World} (ht : RTab w0) : NumberC w0 := ⟨fun A m c l r x q w hl hc hm hr hi hx hq hB => by
  subst hx
  subst hq
  exact rnumber_any A m c l r w hl hc hm hr hi (ht.up hB)⟩

set_option maxHeartbeats 4000000 in
theorem node_any (n : Int) (w : World) (ht : RTab w) (hn : -9223372036854775808 ≤ n ∧ n ≤ 9223372036854775807) :
    Calls Tryd.prog 5 #[.int .i64 n] w fun e w' => ∃ A k c, e = .returned (.tuple #[.slice A k c, .int .i64 (errN n)]) ∧ (refN n).length = k ∧ k ≤ c ∧ c ≤ maxLen ∧ Rd w' w'.heap.size A ((refN n).map iv) ∧ Below w.heap.size w w' := by
  have HT := Lib.hid ht
  clear ht
  by_cases hneg : n < 0
  · have HE : Hid (refN n = [] ∧ errN n = 4) := by
      show _ ∧ _
      unfold refN errN
      rw [if_neg (by omega), if_neg (by omega)]
      exact ⟨rfl, rfl⟩
    go_enter Tryd.func5, Tryd.ntmps5
    go_wp2
    go_ret2
    rw [HE.out.1, HE.out.2]
    exact ⟨none, 0, 0, rfl, rfl, Nat.le_refl _, by simp [maxLen], Rd.nil_, Below.refl _ _⟩
  · go_enter Tryd.func5, Tryd.ntmps5
    go_wp2_with (refine wpList_load_grp rfl _ rfl rfl HT.out ?_)
    go_loopw [0, 9] (fun x i wr => ∃ (j : Nat) (X : Nat), j ≤ 6 ∧ i = .int .i64 (j : Int) ∧ x = .int .i64 (X : Int) ∧ Hid ((X : Int) = n - (bG j : Int)) ∧ X ≤ 9223372036854775807 ∧ Hid (Below w.heap.size w wr)) (fun _ i _ => 6 - (intOf i).toNat)
    case atStart => exact ⟨0, n.toNat, by omega, rfl, by go_num, by show _ = n - ((0 : Nat) : Int); omega, by omega, Below.refl _ _⟩
    case round =>
      obtain ⟨j, X, hj, rfl, rfl, HX, hX1, HB⟩ := hrel
      by_cases hlt : j < 6
      · obtain ⟨S, hS⟩ : ∃ S, 15 ^ kG j = S := ⟨_, rfl⟩
        obtain ⟨f, hf⟩ : ∃ f, fG j = f := ⟨_, rfl⟩
        have hidx := index_grp j f S hlt hf hS
        have hs1 := sG_le j hlt
        have hsc := bG_succ j hlt
        have hle := bG_le j hlt
        rw [hS] at hs1 hsc
        have HS := Lib.hid hS
        have HF := Lib.hid hf
        have HSC := Lib.hid hsc
        have HLE := Lib.hid hle
        have HB2 := Lib.hid (HB.out.alloc HB.out.size (.cells #[.int .i64 (f : Int), .int .i64 (S : Int)] 50))
        clear hS hsc hle hf
        by_cases hlt2 : X < S
        · have hlt3 : (X : Int) < (S : Int) := by omega
          have HE : Hid (refN n = (f : Int) :: dig (kG j) X ∧ errN n = 0) := by
            have h1 := HX.out
            have h2 := HSC.out
            have h3 := HLE.out
            have e : n = ((bG j + X : Nat) : Int) := by omega
            show _ ∧ _
            unfold refN errN
            rw [if_pos (by omega), if_pos (by omega), ← HF.out, ← nod_at j X hlt (by rw [HS.out]; exact hlt2), e]
            exact ⟨rfl, rfl⟩
          have HW := Lib.hid (way_any (f : Int) (kG j) X S (wr.alloc (.cells #[.int .i64 (f : Int), .int .i64 (S : Int)] 50)) (kG_le j) (by rw [HS.out]; exact hlt2) HS.out)
          go_wp2_with fail
          refine HW.out.mono ?_
          rintro e w1 ⟨r, rfl, ⟨A, m, c, rfl, h1, h2, h3, h4⟩, hb⟩
          have HR := Lib.hid h4
          have HB3 := Lib.hid (HB2.out.trans (hb.mono HB2.out.size))
          have HL := Lib.hid h1
          clear h4 hb HW h1
          go_wp2
          go_ret2
          rw [HE.out.1, HE.out.2]
          exact ⟨A, m, c, rfl, HL.out, h2, h3, HR.out, HB3.out⟩
        · have hlt3 : ¬ (X : Int) < (S : Int) := by omega
          have hsub : (X : Int) - (S : Int) = ((X - S : Nat) : Int) := by omega
          go_wp2
          go_roundw
          case rel =>
            have h1 := HX.out
            have h2 := HSC.out
            refine ⟨j + 1, X - S, by omega, by go_num, by go_num, by show _ = _; omega, by omega, HB2.out⟩
          case measure => simp [intOf]; omega
      · obtain rfl : j = 6 := by omega
        have HE : Hid (refN n = [] ∧ errN n = 4) := by
          have h1 := HX.out
          have h2 : bG 6 = 258 := rfl
          rw [h2] at h1
          show _ ∧ _
          unfold refN errN
          rw [if_neg (by omega), if_neg (by omega)]
          exact ⟨rfl, rfl⟩
        go_wp2
        go_ret2
        rw [HE.out.1, HE.out.2]
        exact ⟨none, 0, 0, rfl, rfl, Nat.le_refl _, by simp [maxLen], Rd.nil_, HB.out⟩
theorem nodeC {w0 : World} (ht : RTab w0) : NodeC w0 := ⟨fun n l q w hl hq hB hn => by
  subst hl
  subst hq
  exact node_any n w (ht.up hB) hn⟩
end Go.Proofs.YtnipfonglheofaaDoor
