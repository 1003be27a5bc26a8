/-
  What the functions of package crc do, one contract each: fourSteps, Half, Sum, split, sumByte.
-/
import Derived.Test.YtnipfonglheofaaDoorMem
import Derived.Test.YtnipfonglheofaaDoorCrcMath
import Derived.Outline
import Derived.Laws.BitsAllLaws
import Derived.BigQuiet
namespace Go.Proofs.YtnipfonglheofaaDoor
open Go.RowKit
set_option maxRecDepth 100000
set_option linter.unusedVariables false

/-- the table of package crc lies as its text lays it -/
def Tab (w : World) : Prop := ∀ i, i < 16 → w.cell? ⟨2, i, none⟩ = some (.int .u32 (stepN 4 i : Int))
theorem Tab.keep {w w' : World} (h : Tab w) (hk : ∀ p : Addr, p.block = 2 → w'.cell? p = w.cell? p) : Tab w' := fun i hi => (hk _ rfl).trans (h i hi)
theorem Tab.below {w w' : World} {B : Nat} (h : Tab w) (hb : Below B w w') (hB : 2 < B) : Tab w' := h.keep fun p hp => hb.cell (by omega)
theorem Tab.lt {w : World} (h : Tab w) : 2 < w.heap.size := World.block_lt_of_cell? w _ (h 0 (by omega))
theorem Tab.up {w w' : World} (h : Tab w) (hb : Below w.heap.size w w') : Tab w' := h.below hb h.lt
theorem Tab.drew {w : World} (h : Tab w) : Tab w.drew := h
theorem Tab.drewN {w : World} (h : Tab w) (n : Nat) : Tab (w.drewN n) := h
theorem Tab.alloc {w : World} (h : Tab w) (o : Obj) : Tab (w.alloc o) := h.up ((Below.refl _ _).alloc (Nat.le_refl _) o)

theorem ret_u32 {a b : Int} (h : a = b) : Ending.returned (.int .u32 a) = .returned (.int .u32 b) := by rw [h]
theorem ret_u8 {a b : Int} (h : a = b) : Ending.returned (.int .u8 a) = .returned (.int .u8 b) := by rw [h]

theorem fourSteps_any (x : Nat) (w : World) (hx : x < 4294967296) (ht : Tab w) :
    Calls Tryd.prog 30 #[.int .u32 (x : Int)] w fun e w' => e = .returned (.int .u32 (stepN 4 x : Int)) ∧ w = w' := by
  have hc := ht (x % 16) (Nat.mod_lt _ (by decide))
  have h4 := four_steps x
  have hm : bits .and .u32 (x : Int) 15 = ((x % 16 : Nat) : Int) := by
    rw [← nat_mask4]; exact u32_and_nat x 15 hx (by decide)
  have hl := stepN_lt 4 (w := x % 16) (by omega)
  generalize stepN 4 (x % 16) = q at *
  have hxr := Lib.hid (u32_xor_nat (x / 16) q (by omega) hl)
  have H4 := Lib.hid h4
  clear h4
  have hq : (0 : Int) ≤ q := by omega
  have hm1 : x % 16 < 16 := Nat.mod_lt _ (by decide)
  go_enter Tryd.func30, Tryd.ntmps30
  go_wp2
  go_ret
  exact ⟨ret_u32 (by rw [← H4.out, ← hxr.out]; simp), rfl⟩
theorem fourSteps_at (y : Int) (x : Nat) (w : World) (hy : y = (x : Int)) (hx : x < 4294967296) (ht : Tab w) :
    Calls Tryd.prog 30 #[.int .u32 y] w fun e w' => e = .returned (.int .u32 (stepN 4 x : Int)) ∧ w = w' := by
  subst hy; exact fourSteps_any x w hx ht

/-- a byte of a checksum -/
theorem byte_of (s k : Nat) : (s : Int) / 2 ^ (8 * (k : Int)).toNat % 256 = ((UInt8.ofNat (s / 256 ^ k)).toNat : Int) := by
  rw [show (8 * (k : Int)).toNat = 8 * k from by omega, Int.pow_mul, UInt8.toNat_ofNat']
  simp
theorem sumByte_any (s k : Nat) (w : World) (hs : s < 4294967296) (hk : k < 4) :
    Calls Tryd.prog 32 #[.int .u32 (s : Int), .int .i64 (k : Int)] w fun e w' => e = .returned (bv (UInt8.ofNat (s / 256 ^ k))) ∧ w = w' := by
  have hb := Lib.hid (byte_of s k)
  go_enter Tryd.func32, Tryd.ntmps32
  go_wp2
  go_ret
  exact ⟨by unfold bv; rw [← hb.out, show (8 * (k : Int)).toNat = 8 * k from by omega]; rfl, rfl⟩

theorem split_any (b o c : Nat) (w : World) (hc : 128 ≤ c) :
    Calls Tryd.prog 31 #[.slice (some ⟨b, o, none⟩) 128 c] w fun e w' => e = .returned (.tuple #[.slice (some ⟨b, o, none⟩) 124 c, .slice (some ⟨b, o + 124, none⟩) 4 (c - 124)]) ∧ ∃ n, w' = w.drewN n := by
  go_enter Tryd.func31, Tryd.ntmps31
  go_wp2
  go_quiet (fail)
  go_wp2
  go_ret2
  exact ⟨rfl, _, rfl⟩

/-- parts: slices of bytes, one behind the other -/
abbrev Part := Option Addr × Nat × List UInt8
def partV (p : Part) : Value := .slice p.1 p.2.2.length p.2.1
def allB (ps : List Part) : List UInt8 := ps.flatMap (·.2.2)
def Parts (w : World) (B : Nat) (A : Option Addr) (ps : List Part) : Prop :=
  Rd w B A (ps.map partV) ∧ ∀ p ∈ ps, Rd w B p.1 (p.2.2.map bv) ∧ p.2.2.length ≤ 9223372036854775807
theorem allB_snoc (ps : List Part) (k : Nat) (p : Part) (h : ps[k]? = some p) : allB (ps.take (k + 1)) = allB (ps.take k) ++ p.2.2 := by
  rw [List.take_add_one, h]; simp [allB]
theorem take_snoc' (l : List UInt8) (k : Nat) (h : k < l.length) : l.take (k + 1) = l.take k ++ [l[k]] := List.take_succ_eq_append_getElem h

theorem xor_byte (r : Nat) (c : UInt8) (hr : r < 4294967296) : bits .xor .u32 (r : Int) (c.toNat : Int) = ((r ^^^ c.toNat : Nat) : Int) := u32_xor_nat _ _ hr (by have := c.toNat_lt; omega)
theorem not_word (r : Nat) (hr : r < 4294967296) : bits .xor .u32 IntKind.u32.max (r : Int) = ((4294967295 - r : Nat) : Int) := by
  rw [sub_xor hr]; exact u32_xor_nat 4294967295 r (by decide) hr

set_option maxHeartbeats 400000 in
theorem Sum_any (B : Nat) (A : Option Addr) (c : Nat) (ps : List Part) (w : World) (hp : Parts w B A ps) (hl : ps.length ≤ 9223372036854775807) (ht : Tab w) :
    Calls Tryd.prog 20 #[.slice A ps.length c] w fun e w' => e = .returned (.int .u32 (sumN (allB ps) : Int)) ∧ w = w' := by
  obtain ⟨hr, hps⟩ := hp
  have HPS := Lib.hid hps
  have HR := Lib.hid hr
  have HT := Lib.hid ht
  clear hps hr ht
  go_enter Tryd.func20, Tryd.ntmps20
  go_wp2
  go_loop [3, 10] (fun v i => ∃ k : Nat, k ≤ ps.length ∧ i = .int .i64 k ∧ v = .int .u32 (regN 4294967295 (allB (ps.take k)) : Int)) (fun _ i => ps.length - (intOf i).toNat)
  case atStart => exact ⟨0, Nat.zero_le _, rfl, rfl⟩
  case round =>
    obtain ⟨k, hk, rfl, rfl⟩ := hrel
    have hreg := regN_lt (w := 4294967295) (allB (ps.take k)) (by omega)
    by_cases hlt : k < ps.length
    · obtain ⟨p, hp⟩ : ∃ p, ps[k]? = some p := ⟨_, List.getElem?_eq_getElem hlt⟩
      have hpm := HPS.out p (List.mem_of_getElem? hp)
      obtain ⟨ad, rfl, _, hc⟩ := HR.out k (partV p) (by simp [hp])
      have hsn := Lib.hid (allB_snoc ps k p hp)
      obtain ⟨A', c', bs⟩ := p
      simp only [partV] at hc
      simp only at hpm hsn
      obtain ⟨hrd, hbl⟩ := hpm
      have HRD := Lib.hid hrd
      obtain ⟨R, hR⟩ : ∃ R, R = regN 4294967295 (allB (ps.take k)) := ⟨_, rfl⟩
      rw [← hR] at hreg ⊢
      have HRE : Hid (regN R bs = regN 4294967295 (allB (ps.take (k + 1)))) := by rw [hsn.out, regN_append, hR]; exact rfl
      clear hrd hp hR hsn
      go_wp2
      go_loop [3, 16] (fun v i => ∃ j : Nat, j ≤ bs.length ∧ i = .int .i64 j ∧ v = .int .u32 (regN R (bs.take j) : Int)) (fun _ i => bs.length - (intOf i).toNat)
      case atStart => exact ⟨0, Nat.zero_le _, rfl, rfl⟩
      case round =>
        obtain ⟨j, hj, rfl, rfl⟩ := hrel
        have hrj := regN_lt (bs.take j) hreg
        by_cases hjlt : j < bs.length
        · obtain ⟨ad', rfl, _, hcj⟩ := HRD.out j (bv bs[j]) (by simp [hjlt])
          have hb8 := bs[j].toNat_lt
          have hst : Hid (stepN 4 (stepN 4 (regN R (bs.take j) ^^^ bs[j].toNat)) = regN R (bs.take (j + 1))) := by
            rw [take_snoc' bs j hjlt, regN_snoc, ← stepN_add 4 4]; exact rfl
          have hx := Lib.hid (xor_byte _ bs[j] hrj)
          have hxl := xor_lt32 hrj (show bs[j].toNat < 4294967296 by omega)
          have hxl4 := stepN_lt 4 hxl
          unfold bv at hcj
          generalize regN R (bs.take j) = r at *
          generalize bs[j].toNat = q at *
          go_wp2_with fail
          refine (fourSteps_at _ (r ^^^ q) _ hx.out hxl HT.out).mono ?_
          rintro e w1 ⟨rfl, rfl⟩
          go_wp2_with fail
          refine (fourSteps_any _ _ hxl4 HT.out).mono ?_
          rintro e w1 ⟨rfl, rfl⟩
          go_wp2
          go_round
          case rel => exact ⟨j + 1, by omega, by go_num, by rw [hst.out]⟩
          case measure => simp [intOf]; omega
        · obtain rfl : j = bs.length := by omega
          have HT2 : Hid (regN R (bs.take bs.length) = regN 4294967295 (allB (ps.take (k + 1)))) := by rw [List.take_of_length_le (Nat.le_refl _)]; exact HRE.out
          go_wp2
          go_round
          case rel => exact ⟨k + 1, by omega, by go_num, by rw [HT2.out]⟩
          case measure => simp [intOf]; omega
    · obtain rfl : k = ps.length := by omega
      have HS : Hid (allB (ps.take ps.length) = allB ps) := by rw [List.take_of_length_le (Nat.le_refl _)]; exact rfl
      have HN := Lib.hid (not_word _ hreg)
      go_wp2
      go_ret
      exact ⟨ret_u32 (by rw [sumN, ← HS.out, ← HN.out]), rfl⟩
end Go.Proofs.YtnipfonglheofaaDoor
