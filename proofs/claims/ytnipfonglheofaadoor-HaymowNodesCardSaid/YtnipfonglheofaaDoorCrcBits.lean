/-
  Plain mathematics: bytes of a block, one of them turned over; no world, no program.
-/
import Derived.Test.YtnipfonglheofaaDoorCrcMath
namespace Go.Proofs.YtnipfonglheofaaDoor

theorem mul_xor (i a b : Nat) : 2 ^ i * (a ^^^ b) = 2 ^ i * a ^^^ 2 ^ i * b := by
  apply Nat.eq_of_testBit_eq
  intro j
  rw [Nat.testBit_xor, Nat.testBit_two_pow_mul, Nat.testBit_two_pow_mul, Nat.testBit_two_pow_mul, Nat.testBit_xor]
  by_cases h : i ≤ j <;> simp [h]
theorem leN_cons_xor (c : UInt8) (l : List UInt8) : leN (c :: l) = c.toNat ^^^ (2 ^ 8 * leN l) := by rw [leN]; exact add_xor 8 _ _ c.toNat_lt
theorem leN_turn : ∀ (l : List UInt8) (j : Nat) (y b : UInt8), l[j]? = some y → leN (l.set j (y ^^^ b)) = leN l ^^^ (2 ^ (8 * j) * b.toNat)
  | [], _, _, _, h => by simp at h
  | c :: l, 0, y, b, h => by
    simp at h
    subst h
    rw [List.set_cons_zero, leN_cons_xor, leN_cons_xor, UInt8.toNat_xor]
    simp only [Nat.mul_zero, Nat.pow_zero, Nat.one_mul]
    ac_rfl
  | c :: l, j + 1, y, b, h => by
    rw [List.set_cons_succ, leN_cons_xor, leN_cons_xor, leN_turn l j y b (by simpa using h), mul_xor, show 8 * (j + 1) = 8 + 8 * j from by omega, Nat.pow_add, Nat.mul_assoc, Nat.xor_assoc]
theorem wide_step (wd i : Nat) : wd % 2 ^ (8 * (i + 1)) = (wd % 2 ^ (8 * i)) ^^^ (2 ^ (8 * i) * (wd / 2 ^ (8 * i) % 256)) := by
  rw [show 8 * (i + 1) = 8 * i + 8 from by omega, Nat.pow_add, Nat.mod_mul, ← add_xor _ _ _ (Nat.mod_lt _ (Nat.pow_pos (by omega)))]
/-- a byte more is turned over -/
theorem turn_step (l : List UInt8) (x0 wd i j : Nat) (y b : UInt8) (hy : l[j + i]? = some y) (hb : b.toNat = wd / 2 ^ (8 * i) % 256) (h : leN l = x0 ^^^ (2 ^ (8 * j) * (wd % 2 ^ (8 * i)))) :
    leN (l.set (j + i) (y ^^^ b)) = x0 ^^^ (2 ^ (8 * j) * (wd % 2 ^ (8 * (i + 1)))) := by
  rw [leN_turn l _ y b hy, h, wide_step, mul_xor, hb, Nat.xor_assoc]
  congr 2
  rw [← Nat.mul_assoc, ← Nat.pow_add, show 8 * (j + i) = 8 * j + 8 * i from by omega]
/-- all that is turned over stands within the block -/
theorem turn_all (turn k i : Nat) (ht : turn < 4294967296) (hk : k ≤ 992) (hi : i = 5 ∨ (k / 8 + i = 128 ∧ i ≤ 5)) : 2 ^ (8 * (k / 8)) * ((turn * 2 ^ (k % 8)) % 2 ^ (8 * i)) = turn * 2 ^ k := by
  have hm : (turn * 2 ^ (k % 8)) % 2 ^ (8 * i) = turn * 2 ^ (k % 8) := by
    refine Nat.mod_eq_of_lt ?_
    rcases hi with rfl | ⟨h1, h2⟩
    · have h8 : k % 8 ≤ 7 := by omega
      have : 2 ^ (k % 8) ≤ 2 ^ 7 := Nat.pow_le_pow_right (by omega) h8
      have h3 : turn * 2 ^ (k % 8) ≤ turn * 2 ^ 7 := Nat.mul_le_mul_left _ this
      have h4 : (2 : Nat) ^ (8 * 5) = 1099511627776 := by decide
      have h5 : (2 : Nat) ^ 7 = 128 := by decide
      omega
    · have hk' : k % 8 = 0 ∧ i = 4 ∨ i = 5 := by omega
      rcases hk' with ⟨h0, rfl⟩ | rfl
      · rw [h0]
        have h4 : (2 : Nat) ^ (8 * 4) = 4294967296 := by decide
        omega
      · have h8 : k % 8 ≤ 7 := by omega
        have : 2 ^ (k % 8) ≤ 2 ^ 7 := Nat.pow_le_pow_right (by omega) h8
        have h3 : turn * 2 ^ (k % 8) ≤ turn * 2 ^ 7 := Nat.mul_le_mul_left _ this
        have h4 : (2 : Nat) ^ (8 * 5) = 1099511627776 := by decide
        have h5 : (2 : Nat) ^ 7 = 128 := by decide
        omega
  rw [hm, Nat.mul_comm, Nat.mul_assoc, ← Nat.pow_add, show k % 8 + 8 * (k / 8) = k from Nat.mod_add_div k 8]
theorem xor3_snoc : ∀ (x y z : List UInt8) (a b c : UInt8), x.length = y.length → y.length = z.length → xor3 (x ++ [a]) (y ++ [b]) (z ++ [c]) = xor3 x y z ++ [a ^^^ b ^^^ c]
  | [], [], [], _, _, _, _, _ => by simp [xor3]
  | [], [], _ :: _, _, _, _, _, h => by simp at h
  | [], _ :: _, _, _, _, _, h, _ => by simp at h
  | _ :: _, [], _, _, _, _, h, _ => by simp at h
  | _ :: _, _ :: _, [], _, _, _, _, h => by simp at h
  | p :: x, q :: y, r :: z, a, b, c, h, h' => by
    simp only [List.cons_append, xor3]
    rw [xor3_snoc x y z a b c (by simpa using h) (by simpa using h')]
theorem xor3_take (x y z : List UInt8) (k : Nat) (a b c : UInt8) (ha : x[k]? = some a) (hb : y[k]? = some b) (hc : z[k]? = some c) :
    xor3 (x.take (k + 1)) (y.take (k + 1)) (z.take (k + 1)) = xor3 (x.take k) (y.take k) (z.take k) ++ [a ^^^ b ^^^ c] := by
  have l1 : k < x.length := (List.getElem?_eq_some_iff.1 ha).1
  have l2 : k < y.length := (List.getElem?_eq_some_iff.1 hb).1
  have l3 : k < z.length := (List.getElem?_eq_some_iff.1 hc).1
  rw [List.take_add_one, List.take_add_one (l := y), List.take_add_one (l := z), ha, hb, hc]
  exact xor3_snoc _ _ _ a b c (by simp; omega) (by simp; omega)
end Go.Proofs.YtnipfonglheofaaDoor
