/-
  What the statements' own helpers do: few, and the document's answers (Steps, Sum, Seal, Held); the examples.
-/
import Derived.Test.YtjhnabhieihifaaDoorCrcSeal
import Derived.Deep.QuietTactic
namespace Go.Proofs.YtjhnabhieihifaaDoor
open Go.RowKit
set_option maxRecDepth 100000
set_option linter.unusedVariables false

theorem under_str : Tryd.prog.underlying 9 = some .string := by kernel_rfl
theorem step1_odd (x : Nat) (h : x % 2 = 1) : step1 x = (x / 2) ^^^ 2197175160 := by unfold step1; rw [if_pos h]
theorem step1_even (x : Nat) (h : x % 2 ≠ 1) : step1 x = x / 2 := by unfold step1; rw [if_neg h]
set_option maxHeartbeats 400000 in
theorem Steps_any (x n : Nat) (w : World) (hx : x < 4294967296) (hn : n ≤ 1000) :
    Calls Tryd.prog 41 #[.int .u32 (x : Int), .int .i64 (n : Int)] w fun e w' => e = .returned (.int .u32 (stepN n x : Int)) ∧ w = w' := by
  go_enter Tryd.func41, Tryd.ntmps41
  go_wp2
  go_loop [0, 5] (fun v i => ∃ k : Nat, k ≤ n ∧ i = .int .i64 k ∧ v = .int .u32 (stepN k x : Int)) (fun _ i => n - (intOf i).toNat)
  case atStart => exact ⟨0, Nat.zero_le _, rfl, rfl⟩
  case round =>
    obtain ⟨k, hk, rfl, rfl⟩ := hrel
    have hl := stepN_lt k hx
    have hs := stepN_succ k x
    by_cases hlt : k < n
    · obtain ⟨y, hy⟩ : ∃ y, y = stepN k x := ⟨_, rfl⟩
      rw [← hy] at hl hs ⊢
      by_cases hodd : y % 2 = 1
      · have HS : Hid (stepN (k + 1) x = (y / 2) ^^^ 2197175160) := by rw [hs]; exact step1_odd y hodd
        have HX := Lib.hid (u32_xor_nat (y / 2) 2197175160 (by omega) (by decide))
        have h1 : ((y : Int) % 2 == 1) = true := by simp; omega
        have HY := Lib.hid hy
        have HO := Lib.hid hodd
        clear hs hy hodd
        go_wp2
        go_round
        case rel => exact ⟨k + 1, by omega, by go_num, by rw [HS.out, ← HX.out]; simp⟩
        case measure => simp [intOf]; omega
      · have HS : Hid (stepN (k + 1) x = y / 2) := by rw [hs]; exact step1_even y hodd
        have h1 : ((y : Int) % 2 == 1) = false := by simp; omega
        have HY := Lib.hid hy
        have HO := Lib.hid hodd
        clear hs hy hodd
        go_wp2
        go_round
        case rel => exact ⟨k + 1, by omega, by go_num, by rw [HS.out]; simp⟩
        case measure => simp [intOf]; omega
    · obtain rfl : k = n := by omega
      clear hs
      go_wp2
      go_ret
      exact ⟨rfl, rfl⟩
theorem Steps_at (v m : Int) (x n : Nat) (w : World) (hv : v = (x : Int)) (hm : m = (n : Int)) (hx : x < 4294967296) (hn : n ≤ 1000) :
    Calls Tryd.prog 41 #[.int .u32 v, .int .i64 m] w fun e w' => e = .returned (.int .u32 (stepN n x : Int)) ∧ w = w' := by
  subst hv hm; exact Steps_any x n w hx hn

theorem word_sub (r : Nat) (hr : r < 4294967296) : 4294967295 - (r : Int) = ((4294967295 - r : Nat) : Int) := by omega
set_option maxHeartbeats 400000 in
theorem refSum_any (bs : List UInt8) (s : Nat) (w : World) (hl : bs.length ≤ 9223372036854775807) (hs : sumN bs = s) :
    Calls Tryd.prog 23 #[.string (str bs)] w fun e w' => e = .returned (.int .u32 (s : Int)) ∧ w = w' := by
  have hsz := str_size bs
  have hsn : (str bs).size ≤ 9223372036854775807 := by omega
  have HSZ := Lib.hid hsz
  have HS := Lib.hid hs
  clear hsz hs
  go_enter Tryd.func23, Tryd.ntmps23
  go_wp2
  go_loop [3, 4] (fun v i => ∃ k : Nat, k ≤ (str bs).size ∧ i = .int .i64 k ∧ v = .int .u32 (regN 4294967295 (bs.take k) : Int)) (fun _ i => (str bs).size - (intOf i).toNat)
  case atStart => exact ⟨0, Nat.zero_le _, rfl, rfl⟩
  case round =>
    obtain ⟨k, hk, rfl, rfl⟩ := hrel
    have hrj := regN_lt (w := 4294967295) (bs.take k) (by omega)
    by_cases hlt : k < (str bs).size
    · have hlb : k < bs.length := by rw [← HSZ.out]; exact hlt
      have hb8 := (str bs)[k].toNat_lt
      have hst : Hid (stepN 8 (regN 4294967295 (bs.take k) ^^^ (str bs)[k].toNat) = regN 4294967295 (bs.take (k + 1))) := by
        rw [take_snoc' bs k hlb, regN_snoc]; exact rfl
      have hx := Lib.hid (xor_byte _ (str bs)[k] hrj)
      have hxl := xor_lt32 hrj (show (str bs)[k].toNat < 4294967296 by omega)
      go_wp2_with fail
      refine (Steps_at _ 8 _ 8 _ hx.out rfl hxl (by omega)).mono ?_
      rintro e w1 ⟨rfl, rfl⟩
      rw [hst.out]
      go_wp2
      go_round
      case rel => exact ⟨k + 1, by omega, by go_num, rfl⟩
      case measure => simp [intOf]; omega
    · obtain rfl : k = (str bs).size := by omega
      have HT : Hid (bs.take (str bs).size = bs) := by rw [HSZ.out]; simp [Hid]
      have HN := Lib.hid (word_sub _ hrj)
      go_wp2
      go_ret
      exact ⟨ret_u32 (by rw [HN.out, HT.out, ← HS.out]; rfl), rfl⟩

theorem pad_step (bs : List UInt8) (k : Nat) : str (bs ++ List.replicate k 0) ++ ⟨#[0]⟩ = str (bs ++ List.replicate (k + 1) 0) := by
  rw [show (⟨#[0]⟩ : ByteArray) = str [0] from rfl, str_append, List.append_assoc, List.replicate_succ']
def leftOf : Value → Nat | .string x => 124 - x.size | _ => 0
set_option maxRecDepth 100000 in
theorem refSeal_any (bs : List UInt8) (w : World) (hl : bs.length ≤ 124) :
    Calls Tryd.prog 37 #[.string (str bs)] w fun e w' => e = .returned (.string (str (sealB bs))) ∧ Below w.heap.size w w' := by
  go_enter Tryd.func37, Tryd.ntmps37
  go_wp2
  go_loop [0] (fun s => ∃ k : Nat, k + bs.length ≤ 124 ∧ s = .string (str (bs ++ List.replicate k 0))) (fun s => leftOf s)
  case atStart => exact ⟨0, by omega, by simp⟩
  case round =>
    obtain ⟨k, hk, rfl⟩ := hrel
    obtain ⟨s, hs⟩ : ∃ s, s = str (bs ++ List.replicate k 0) := ⟨_, rfl⟩
    have hsz : s.size = k + bs.length := by rw [hs, str_size]; simp; omega
    have hst := pad_step bs k
    rw [← hs] at hst ⊢
    by_cases hlt : s.size < 124
    · have HS := Lib.hid hsz
      have HST := Lib.hid hst
      clear hs hsz hst
      go_wp2
      go_round
      case rel => exact ⟨k + 1, by have := HS.out; omega, by rw [HST.out]⟩
      case measure => rw [HST.out]; simp only [leftOf, str_size, List.length_append, List.length_replicate]; have := HS.out; omega
    · have hr : bs ++ List.replicate k 0 = padB bs := by
        rw [padB, show k = 124 - bs.length from by omega]
      have HSF : Hid (s = str (padB bs)) := by rw [← hr]; exact hs
      have HPL := padB_length bs hl
      obtain ⟨q, hq⟩ : ∃ q, sumN (padB bs) = q := ⟨_, rfl⟩
      have hql : q < 4294967296 := by rw [← hq]; exact sumN_lt _
      have hsl : (padB bs).length ≤ 9223372036854775807 := by omega
      have HQ := Lib.hid hq
      rw [HSF.out] at hlt
      clear hs hsz hst hq HPL
      rw [HSF.out]
      go_wp2_with fail
      refine (refSum_any (padB bs) q _ hsl HQ.out).mono ?_
      rintro e w1 ⟨rfl, rfl⟩
      have hcv : (convert 28 9 (.slice (some ⟨w.heap.size, 0, none⟩) 4 4)).run Tryd.prog (w.alloc (.cells #[.int .u8 ((q : Int) % 256), .int .u8 ((q : Int) / 256 % 256), .int .u8 ((q : Int) / 65536 % 256), .int .u8 ((q : Int) / 16777216)] 5)) = .ok (.string (str (le4 q))) (w.alloc (.cells #[.int .u8 ((q : Int) % 256), .int .u8 ((q : Int) / 256 % 256), .int .u8 ((q : Int) / 65536 % 256), .int .u8 ((q : Int) / 16777216)] 5)) := by
        refine run_conv 28 5 9 Tryd.underlying28 Tryd.underlying5 under_str 4 4 rfl (B := w.heap.size + 1) ?_
        have := Rd.bk (Bk.new w 5 #[.int .u8 ((q : Int) % 256), .int .u8 ((q : Int) / 256 % 256), .int .u8 ((q : Int) / 65536 % 256), .int .u8 ((q : Int) / 16777216)])
        rw [World.alloc_size'] at this
        rwa [show (le4 q).map bv = [.int .u8 ((q : Int) % 256), .int .u8 ((q : Int) / 256 % 256), .int .u8 ((q : Int) / 65536 % 256), .int .u8 ((q : Int) / 16777216)] by simp [le4, bv]; omega]
      have HSE : Hid (str (padB bs) ++ str (le4 q) = str (sealB bs)) := by rw [str_append, sealB, HQ.out]; exact rfl
      have z1 : (str (padB bs)).size ≤ 124 := by rw [str_size, padB_length bs hl]; omega
      have z2 : (str (le4 q)).size ≤ 4 := by rw [str_size]; simp [le4]
      go_wp2
      go_ret
      exact ⟨by rw [← HSE.out]; rfl, (Below.refl _ _).alloc (Nat.le_refl _) _⟩

theorem take_str (bs : List UInt8) (n : Nat) (h : n ≤ bs.length) : (str bs).extract 0 n = str (bs.take n) := by
  simp [str, ByteArray.extract, ByteArray.copySlice]
theorem heldB_str (bs : List UInt8) (h : bs.length = 128) : heldB bs = (sealB (bs.take 124) == bs) := by
  have hl : (bs.take 124).length = 124 := by simp [h]
  rw [heldB, h, sealB, padB, hl]
  simp only [Nat.sub_self, List.replicate_zero, List.append_nil, decide_true, Bool.true_and]
  rw [Bool.eq_iff_iff, beq_iff_eq, beq_iff_eq]
  constructor
  · intro e; rw [← e]; exact List.take_append_drop _ _
  · intro e
    have := congrArg (List.drop 124) e
    rw [List.drop_append, hl] at this
    simpa [h] using this.symm
set_option maxRecDepth 100000 in
theorem refHeld_any (bs : List UInt8) (q : Bool) (w : World) (hl : bs.length ≤ 9223372036854775807) (hq : heldB bs = q) :
    Calls Tryd.prog 38 #[.string (str bs)] w fun e w' => e = .returned (.bool q) ∧ Below w.heap.size w w' := by
  have hsz := str_size bs
  by_cases h : bs.length = 128
  · have h1 : (((str bs).size : Int) == 128) = true := by rw [hsz, h]; rfl
    have h2 : (str bs).size = 128 := by omega
    have HB := Lib.hid (heldB_str bs h)
    have hl2 : (bs.take 124).length ≤ 124 := by simp; omega
    have HQ := Lib.hid hq
    clear hq h hsz hl
    go_enter Tryd.func38, Tryd.ntmps38
    go_wp2_with fail
    rw [take_str bs 124 (by rw [← str_size]; omega)]
    refine (refSeal_any (bs.take 124) _ hl2).mono ?_
    rintro e w1 ⟨rfl, hb⟩
    have HE : Hid (((str (sealB (bs.take 124))).toList == (str bs).toList) = q) := by rw [str_toList, str_toList, ← HB.out, HQ.out]; exact rfl
    have HBW := Lib.hid hb
    clear hb
    go_wp2
    go_ret
    exact ⟨ret_bool HE.out, HBW.out⟩
  · have hf : heldB bs = false := by simp [heldB, h]
    have h1 : (((str bs).size : Int) == 128) = false := by simp; omega
    obtain rfl : false = q := by rw [← hq, hf]
    clear hq hf h hsz hl
    go_enter Tryd.func38, Tryd.ntmps38
    go_wp2
    go_ret
    exact ⟨rfl, Below.refl _ _⟩
end Go.Proofs.YtjhnabhieihifaaDoor
