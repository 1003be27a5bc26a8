/-
  What the document's answers of layer 1 are, one contract each: Get, Put, Of.
-/
import Derived.Test.YtjhnabhieihifaaDoorMem2
import Derived.Test.YtjhnabhieihifaaDoorMath
namespace Go.Proofs.YtjhnabhieihifaaDoor
open Go.RowKit
set_option maxRecDepth 100000
set_option linter.unusedVariables false

theorem under_str1 : Tryd.prog.underlying 9 = some .string := by kernel_rfl

set_option maxHeartbeats 400000 in
theorem Get_any (bs : List UInt8) (t n : Nat) (w : World) (ht : t + n ≤ bs.length) (hn : n ≤ 8) (hl : bs.length ≤ 9223372036854775807) :
    Calls Tryd.prog 39 #[.string (str bs), .int .i64 t, .int .i64 n] w fun e w' => e = .returned (.int .u64 (valB ((bs.drop t).take n) : Int)) ∧ w = w' := by
  have hsz := str_size bs
  have HSZ := Lib.hid hsz
  have hsz' : t + n ≤ (str bs).size := by omega
  have hsz2 : (str bs).size ≤ 9223372036854775807 := by omega
  clear hsz
  go_enter Tryd.func39, Tryd.ntmps39
  go_wp2
  go_loop [7, 8] (fun v i => ∃ k : Nat, k ≤ n ∧ i = .int .i64 k ∧ v = .int .u64 (valB ((bs.drop t).take k) : Int)) (fun _ i => n - (intOf i).toNat)
  case atStart => exact ⟨0, Nat.zero_le _, rfl, rfl⟩
  case round =>
    obtain ⟨k, hk, rfl, rfl⟩ := hrel
    by_cases hlt : k < n
    · have htk : t + k < bs.length := by omega
      have hvk : valB ((bs.drop t).take k) < 72057594037927936 :=
        Nat.lt_of_lt_of_le (valB_lt _) (Nat.le_trans (pow256_le (b := 7) (by simp; omega)) (by decide))
      have hbk := ((str bs)[t + k]'(by omega)).toNat_lt
      have hsn : (bs.drop t).take (k + 1) = (bs.drop t).take k ++ [bs[t + k]] := by
        rw [List.take_add_one, List.getElem?_drop, List.getElem?_eq_getElem htk]; rfl
      have HSN := Lib.hid hsn
      clear hsn
      go_wp2
      go_round
      case rel =>
        refine ⟨k + 1, by omega, by go_num, ?_⟩
        rw [HSN.out, valB_snoc]
        rfl
      case measure => simp [intOf]; omega
    · obtain rfl : k = n := by omega
      go_wp2
      go_ret
      exact ⟨rfl, rfl⟩

theorem one_str (w : World) (b : UInt8) (x : Int) (hx : x = (b.toNat : Int)) : (convert 28 9 (.slice (some ⟨w.heap.size, 0, none⟩) 1 1)).run Tryd.prog (w.alloc (.cells #[.int .u8 x] 5)) = .ok (.string (str [b])) (w.alloc (.cells #[.int .u8 x] 5)) := by
  subst hx
  refine run_conv 28 5 9 Tryd.underlying28 Tryd.underlying5 under_str1 1 1 rfl (B := w.heap.size + 1) ?_
  have := Rd.bk (Bk.new w 5 #[bv b])
  rw [World.alloc_size'] at this
  exact this

set_option maxRecDepth 100000 in
set_option maxHeartbeats 1000000 in
theorem Put_any (x n : Nat) (t : Bool) (w : World) (hn : n ≤ 8) (hx : x < 18446744073709551616) (ht : decide (x < 256 ^ n) = t) :
    Calls Tryd.prog 48 #[.int .u64 (x : Int), .int .i64 (n : Int)] w fun e w' => e = .returned (.tuple #[.string (str (be n x)), .bool t]) ∧ Below w.heap.size w w' := by
  have HT := Lib.hid ht
  have HX := Lib.hid hx
  clear ht hx
  go_enter Tryd.func48, Tryd.ntmps48
  go_wp2
  go_loopw [0, 6, 7] (fun v s i wr => ∃ k : Nat, k ≤ n ∧ i = .int .i64 k ∧ v = .int .u64 ((x / 256 ^ k : Nat) : Int) ∧ s = .string (str (be k x)) ∧ Hid (Below w.heap.size w wr)) (fun _ _ i _ => n - (intOf i).toNat)
  case atStart => exact ⟨0, Nat.zero_le _, rfl, by simp, rfl, Below.refl _ _⟩
  case round =>
    obtain ⟨k, hk, rfl, rfl, rfl, HB⟩ := hrel
    obtain ⟨q, hq⟩ : ∃ q, x / 256 ^ k = q := ⟨_, rfl⟩
    rw [hq]
    have hql : (q : Int) < 18446744073709551616 := by have := HX.out; have := Nat.div_le_self x (256 ^ k); omega
    by_cases hlt : k < n
    · have hone := one_str wr (UInt8.ofNat q) ((q : Int) % 256) (by simp)
      have HSTEP : Hid (str [UInt8.ofNat q] ++ str (be k x) = str (be (k + 1) x)) := by rw [str_append, ← hq]; exact rfl
      have HDIV : Hid (q / 256 = x / 256 ^ (k + 1)) := by rw [← hq, Nat.div_div_eq_div_mul, Nat.pow_succ]; exact rfl
      have z1 : (str [UInt8.ofNat q]).size ≤ 1 := by rw [str_size]; simp
      have z2 : (str (be k x)).size ≤ 8 := by rw [str_size, be_length]; omega
      have hsz := HB.out.size
      clear hq
      go_wp2
      go_roundw
      case rel => exact ⟨k + 1, by omega, by go_num, by rw [← HDIV.out]; go_num, by rw [← HSTEP.out], HB.out.alloc hsz _⟩
      case measure => simp [intOf]; omega
    · obtain rfl : k = n := by omega
      have HE : Hid (((q : Int) == 0) = t) := by
        show _ = _
        rw [← HT.out, ← hq, Bool.eq_iff_iff, beq_iff_eq, decide_eq_true_iff]
        have hp : 0 < 256 ^ k := Nat.pow_pos (by omega)
        have := Nat.div_eq_zero_iff (a := x) (b := 256 ^ k)
        omega
      clear hq
      go_wp2
      go_ret2
      exact ⟨by rw [HE.out]; exact rfl, HB.out⟩
theorem Of_any (x n : Nat) (w : World) (hn : n ≤ 8) (hx : x < 18446744073709551616) :
    Calls Tryd.prog 35 #[.int .u64 (x : Int), .int .i64 (n : Int)] w fun e w' => e = .returned (.string (str (be n x))) ∧ Below w.heap.size w w' := by
  have HX := Lib.hid hx
  clear hx
  go_enter Tryd.func35, Tryd.ntmps35
  go_wp2_with fail
  refine (Put_any x n _ _ hn HX.out rfl).mono ?_
  rintro e w1 ⟨rfl, hb⟩
  have HB := Lib.hid hb
  clear hb
  go_wp2
  go_ret
  exact ⟨rfl, HB.out⟩
end Go.Proofs.YtjhnabhieihifaaDoor
