/-
  What the functions of package pack do, one contract each: isWidth, fits, appendNum, number.
-/
import Derived.Test.YtgboccepgbeihaaMem
import Derived.Test.YtgboccepgbeihaaMath
import Derived.Outline
import Derived.Laws.BitsAllLaws
namespace Go.Proofs.Ytgboccepgbeihaa
open Go.RowKit
set_option maxRecDepth 100000
set_option linter.unusedVariables false

theorem info_u8 : (Try.prog.info? 5).map (fun i => (i.zero, i.size, i.bytes)) = some (some (.int .u8 0), 1, 1) := by kernel_rfl

theorem isWidth_yes (n : Int) (w : World) (h1 : 1 ≤ n) (h2 : n ≤ 8) :
    Calls Try.prog 36 #[.int .i64 n] w fun e w' => e = .returned (.bool true) ∧ w = w' := by
  go_enter Try.func36, Try.ntmps36
  go_wp2
  go_ret
  exact ⟨rfl, rfl⟩
theorem isWidth_no (n : Int) (w : World) (h : n < 1 ∨ 8 < n) :
    Calls Try.prog 36 #[.int .i64 n] w fun e w' => e = .returned (.bool false) ∧ w = w' := by
  by_cases h1 : 1 ≤ n
  · have h2 : decide (n ≤ 8) = false := by simp; omega
    go_enter Try.func36, Try.ntmps36
    go_wp2
    go_ret
    exact ⟨rfl, rfl⟩
  · have h2 : n < 1 := by omega
    clear h h1
    go_enter Try.func36, Try.ntmps36
    go_wp2
    go_ret
    exact ⟨rfl, rfl⟩

theorem fits_any (n v : Int) (b : Bool) (w : World) (h1 : 1 ≤ n) (h2 : n ≤ 8) (h3 : 0 ≤ v) (h4 : v < 18446744073709551616) (hb : decide (v.toNat < 256 ^ n.toNat) = b) :
    Calls Try.prog 43 #[.agg #[.int .i64 n, .int .u64 v]] w fun e w' => e = .returned (.bool b) ∧ w' = w.alloc (.cells #[.int .i64 n, .int .u64 v] 60) := by
  have hf := Lib.hid (fits_iff v n h3 h1)
  have HB := Lib.hid hb
  clear hb
  go_enter Try.func43, Try.ntmps43
  go_wp2
  go_ret
  exact ⟨by rw [hf.out, HB.out]; rfl, rfl⟩

set_option maxRecDepth 100000 in
set_option maxHeartbeats 400000 in
theorem appendNum_any (base : Nat) (r : Value) (m : Nat) (xs : List UInt8) (n v : Int) (w : World) (hown : w.ownsRow base 5 1 r m (xs.map bv)) (hbase : base ≤ w.heap.size) (hm : m ≤ 70368744177664) (h1 : 1 ≤ n) (h2 : n ≤ 8) (h3 : 0 ≤ v) (h4 : v < 18446744073709551616) :
    Calls Try.prog 44 #[r, .agg #[.int .i64 n, .int .u64 v]] w fun e w' => ∃ r', e = .returned r' ∧ w'.ownsRow base 5 1 r' (m + n.toNat) ((xs ++ be n.toNat v.toNat).map bv) ∧ Below base w w' := by
  obtain ⟨i0, hi, hz0, hz1, hz2⟩ := info_parts info_u8
  have hi := Lib.hid hi
  have hz0 := Lib.hid hz0
  have hz1 := Lib.hid hz1
  have hz2 := Lib.hid hz2
  go_enter Try.func44, Try.ntmps44
  go_wp2
  go_loopw [0, 8] (fun r i wr => ∃ k : Nat, k ≤ n.toNat ∧ i = .int .i64 k ∧ wr.ownsRow base 5 1 r (m + k) ((xs ++ (be n.toNat v.toNat).take k).map bv) ∧ Bk wr w.heap.size 60 #[.int .i64 n, .int .u64 v] ∧ Below base (w.alloc (.cells #[.int .i64 n, .int .u64 v] 60)) wr) (fun _ i _ => n.toNat - (intOf i).toNat)
  case atStart => exact ⟨0, Nat.zero_le _, rfl, by simpa using hown.alloc _, Bk.new _ _ _, Below.refl _ _⟩
  case round =>
    obtain ⟨k, hk, rfl, hown', hbk, hb⟩ := hrel
    have hc0 := hbk.cell 0
    have hc1 := hbk.cell 1
    have hsz := hb.size
    simp at hsz
    by_cases hlt : k < n.toNat
    · have hlt' : (k : Int) < n := by omega
      have hby := Lib.hid (byte_at v n k h3 hlt')
      go_wp2_with (at_builtin; refine wpList_append_own _ rfl _ _ 23 rfl base 5 i0 (.int .u8 0) 1 1 Try.underlying23 hi.out hz0.out hz1.out hz2.out rfl (by decide) _ _ _ rfl (hown'.alloc _) ⟨wr.heap.size, 0, none⟩ 1 1 [bv (UInt8.ofNat (v.toNat / 256 ^ (n.toNat - 1 - k)))] rfl rfl ?c1 ?c2 ?c3 ?c4 ?c5 ?_)
      case c1 =>
        intro j u hj
        match j, hj with
        | 0, hj => simp at hj; subst hj; simp [Addr.add, hby.out, bv]
      case c2 => intro u hu; simp at hu; subst hu; rfl
      case c3 => unfold maxLen; omega
      case c4 => omega
      case c5 => simp; omega
      intro r' w1 hown1 hgrow _
      have hown2 : w1.ownsRow base 5 1 r' (m + (k + 1)) ((xs ++ (be n.toNat v.toNat).take (k + 1)).map bv) := by
        rw [be_take _ _ _ hlt]; simpa [Nat.add_assoc] using hown1
      have hbk2 := (hbk.alloc _).grown hgrow (hbk.ne_own hown' (by decide))
      have hb2 := (hb.alloc (by omega) _).grown hgrow (by simp; omega) (fun g hg => (hown'.lt g hg).1)
      clear hown1 hgrow hown' hbk hb hc0 hc1
      go_wp2
      go_roundw
      case rel => exact ⟨k + 1, by omega, by go_num, hown2, hbk2, hb2⟩
      case measure => simp [intOf]; omega
    · obtain rfl : k = n.toNat := by omega
      have hge : n ≤ (n.toNat : Int) := by omega
      go_wp2
      go_ret
      refine ⟨_, rfl, by rw [List.take_of_length_le (by rw [be_length]; exact Nat.le_refl _)] at hown'; exact hown', (((Below.refl _ _).alloc hbase _).trans hb)⟩

theorem or_step (v b : Nat) (hv : v < 72057594037927936) (hb : b < 256) : bits .or .u64 ((v : Int) * 256) (b : Int) = ((v * 256 + b : Nat) : Int) := by
  rw [show (v : Int) * 256 = ((v * 256 : Nat) : Int) from by simp, u64_or_nat _ _ (by omega) (by omega)]
  have := Nat.shiftLeft_add_eq_or_of_lt (a := v) (b := b) (i := 8) (by omega)
  rw [Nat.shiftLeft_eq] at this
  rw [this]
set_option maxHeartbeats 400000 in
theorem number_any (B : Nat) (A : Option Addr) (n c : Nat) (bs : List UInt8) (w : World) (hn : n ≤ 8) (hl : bs.length = n) (hr : Rd w B A (bs.map bv)) :
    Calls Try.prog 37 #[.slice A n c] w fun e w' => e = .returned (.int .u64 (valB bs : Int)) ∧ w = w' := by
  have HL := Lib.hid hl
  clear hl
  go_enter Try.func37, Try.ntmps37
  go_wp2
  go_loop [3, 7] (fun v i => ∃ k : Nat, k ≤ n ∧ i = .int .i64 k ∧ v = .int .u64 (valB (bs.take k) : Int)) (fun _ i => n - (intOf i).toNat)
  case atStart => exact ⟨0, Nat.zero_le _, rfl, rfl⟩
  case round =>
    obtain ⟨k, hk, rfl, rfl⟩ := hrel
    by_cases hlt : k < n
    · have hlk : k < bs.length := by rw [HL.out]; exact hlt
      obtain ⟨ad, rfl, _, hc⟩ := hr k (bv bs[k]) (by simp [hlk])
      have hvk : valB (bs.take k) < 72057594037927936 :=
        Nat.lt_of_lt_of_le (valB_lt _) (Nat.le_trans (pow256_le (b := 7) (by simp; omega)) (by decide))
      have hst := Lib.hid (or_step (valB (bs.take k)) bs[k].toNat hvk bs[k].toNat_lt)
      have hbk := bs[k].toNat_lt
      unfold bv at hc
      clear hr
      go_wp2
      go_round
      case rel => exact ⟨k + 1, by omega, by go_num, by rw [List.take_succ_eq_append_getElem hlk, valB_snoc, hst.out]⟩
      case measure => simp [intOf]; omega
    · go_wp2
      go_ret
      refine ⟨?_, rfl⟩
      rw [List.take_of_length_le (by rw [HL.out]; omega)]
      rfl
end Go.Proofs.Ytgboccepgbeihaa
