/-
  The tables of package reach in memory, and what they say of paths and nodes, over all numbers.
-/
import Derived.Test.YtnipfonglheofaaDoorMem2
import Derived.Test.YtnipfonglheofaaDoorReachMath
import Derived.Test.YtnipfonglheofaaDoorReachOn
import Derived.BigQuiet
import Derived.BigRegion
namespace Go.Proofs.YtnipfonglheofaaDoor
open Go.RowKit
set_option maxRecDepth 100000
set_option linter.unusedVariables false

def rchV : List Value := [iv 1, iv 1, iv 1, iv 1, iv 1, iv 1, iv 15, iv 225, iv 3375]
def grpV : List Value := [iv 6, iv 1, iv 7, iv 1, iv 8, iv 1, iv 7, iv 15, iv 8, iv 15, iv 8, iv 225]
def rchA : Array Value := rchV.toArray
def grpA : Array Value := grpV.toArray
/-- the tables hold what the program's text lays -/
structure RTab (w : World) : Prop where
  rch : ∀ (j : Nat) v, rchV[j]? = some v → w.cell? ⟨1, j, none⟩ = some v
  grp : ∀ (j : Nat) v, grpV[j]? = some v → w.cell? ⟨0, j, none⟩ = some v
theorem RTab.keep {w w' : World} (h : RTab w) (hk : ∀ p : Addr, p.block = 1 ∨ p.block = 0 → w'.cell? p = w.cell? p) : RTab w' :=
  ⟨fun j v hv => (hk _ (.inl rfl)).trans (h.rch j v hv), fun j v hv => (hk _ (.inr rfl)).trans (h.grp j v hv)⟩
theorem RTab.up {w w' : World} (h : RTab w) (hb : Below w.heap.size w w') : RTab w' := by
  have h1 : 1 < w.heap.size := World.block_lt_of_cell? w _ (h.rch 0 _ rfl)
  have h2 : 0 < w.heap.size := World.block_lt_of_cell? w _ (h.grp 0 _ rfl)
  refine h.keep fun p hp => hb.cell ?_
  rcases hp with hp | hp <;> rw [hp] <;> assumption

/-- how many places of base 15 follow -/
def kR (i : Nat) : Nat := i - 5
def bR (i : Nat) : Nat := if i < 7 then i else if i = 7 then 21 else if i = 8 then 246 else 3621
def fG (i : Nat) : Nat := if i < 3 then 6 + i else if i = 3 then 7 else 8
def kG (i : Nat) : Nat := if i < 3 then 0 else if i < 5 then 1 else 2
def bG (i : Nat) : Nat := if i < 4 then i else if i = 4 then 18 else if i = 5 then 33 else 258
theorem nine {p : Nat → Prop} (h : p 0 ∧ p 1 ∧ p 2 ∧ p 3 ∧ p 4 ∧ p 5 ∧ p 6 ∧ p 7 ∧ p 8) (i : Nat) (hi : i < 9) : p i := by
  obtain ⟨h0, h1, h2, h3, h4, h5, h6, h7, h8⟩ := h
  rcases (by omega : i = 0 ∨ i = 1 ∨ i = 2 ∨ i = 3 ∨ i = 4 ∨ i = 5 ∨ i = 6 ∨ i = 7 ∨ i = 8) with rfl | rfl | rfl | rfl | rfl | rfl | rfl | rfl | rfl <;> assumption
theorem six {p : Nat → Prop} (h : p 0 ∧ p 1 ∧ p 2 ∧ p 3 ∧ p 4 ∧ p 5) (i : Nat) (hi : i < 6) : p i := by
  obtain ⟨h0, h1, h2, h3, h4, h5⟩ := h
  rcases (by omega : i = 0 ∨ i = 1 ∨ i = 2 ∨ i = 3 ∨ i = 4 ∨ i = 5) with rfl | rfl | rfl | rfl | rfl | rfl <;> assumption
theorem kR_le {i : Nat} (h : i < 9) : kR i ≤ 3 := by unfold kR; omega
theorem kG_le (i : Nat) : kG i ≤ 3 := by unfold kG; split <;> (try split) <;> omega
theorem bR_succ : ∀ i, i < 9 → bR (i + 1) = bR i + 15 ^ kR i := nine (by decide)
theorem bG_succ : ∀ i, i < 6 → bG (i + 1) = bG i + 15 ^ kG i := six (by decide)
theorem bR_le : ∀ i, i < 9 → bR (i + 1) ≤ 3621 := nine (by decide)
theorem bG_le : ∀ i, i < 6 → bG (i + 1) ≤ 258 := six (by decide)
theorem sR_le : ∀ i, i < 9 → 1 ≤ 15 ^ kR i ∧ 15 ^ kR i ≤ 3375 := nine (by decide)
theorem sG_le : ∀ i, i < 6 → 1 ≤ 15 ^ kG i ∧ 15 ^ kG i ≤ 225 := six (by decide)
theorem rch_get : ∀ i, i < 9 → rchV[i]? = some (iv (15 ^ kR i : Nat)) := nine ⟨rfl, rfl, rfl, rfl, rfl, rfl, rfl, rfl, rfl⟩
theorem grp_get : ∀ i, i < 6 → grpV[i * 2]? = some (iv (fG i : Nat)) ∧ grpV[i * 2 + 1]? = some (iv (15 ^ kG i : Nat)) := six ⟨⟨rfl, rfl⟩, ⟨rfl, rfl⟩, ⟨rfl, rfl⟩, ⟨rfl, rfl⟩, ⟨rfl, rfl⟩, ⟨rfl, rfl⟩⟩
theorem path_at (i v : Nat) (hi : i < 9) (hv : v < 15 ^ kR i) : pathI (bR i + v) = (i : Int) :: dig (kR i) v := by
  rcases (by omega : i < 6 ∨ i = 6 ∨ i = 7 ∨ i = 8) with h | rfl | rfl | rfl
  · have e : kR i = 0 := by unfold kR; omega
    rw [e] at hv ⊢
    obtain rfl : v = 0 := by omega
    have e2 : bR i + 0 = i := by unfold bR; rw [if_pos (by omega), Nat.add_zero]
    rw [e2, path_a h]; rfl
  · have e2 : bR 6 + v - 6 = v := by show 6 + v - 6 = v; omega
    have hv : v < 15 := hv
    show pathI (6 + v) = _ :: dig 1 v
    rw [path_b (show 6 ≤ 6 + v by omega) (show 6 + v < 21 by omega)]
    rw [show 6 + v - 6 = v by omega]; rfl
  · have hv : v < 225 := hv
    show pathI (21 + v) = _ :: dig 2 v
    rw [path_c (by omega) (by omega), show 21 + v - 21 = v by omega]; rfl
  · have hv : v < 3375 := hv
    show pathI (246 + v) = _ :: dig 3 v
    rw [path_d (by omega), show 246 + v - 246 = v by omega]; rfl
theorem path_ex (n : Nat) (hn : n < 3621) : ∃ i v, i < 9 ∧ v < 15 ^ kR i ∧ n = bR i + v := by
  by_cases h : n < 6
  · refine ⟨n, 0, by omega, Nat.pow_pos (by omega), ?_⟩
    unfold bR; rw [if_pos (by omega)]; rfl
  by_cases h1 : n < 21
  · exact ⟨6, n - 6, by omega, by show n - 6 < 15; omega, by show n = 6 + (n - 6); omega⟩
  by_cases h2 : n < 246
  · exact ⟨7, n - 21, by omega, by show n - 21 < 225; omega, by show n = 21 + (n - 21); omega⟩
  exact ⟨8, n - 246, by omega, by show n - 246 < 3375; omega, by show n = 246 + (n - 246); omega⟩
theorem nod_at (i v : Nat) (hi : i < 6) (hv : v < 15 ^ kG i) : nodI (bG i + v) = (fG i : Int) :: dig (kG i) v := by
  rcases (by omega : i = 0 ∨ i = 1 ∨ i = 2 ∨ i = 3 ∨ i = 4 ∨ i = 5) with rfl | rfl | rfl | rfl | rfl | rfl
  · obtain rfl : v = 0 := by have hv : v < 1 := hv; omega
    rfl
  · obtain rfl : v = 0 := by have hv : v < 1 := hv; omega
    rfl
  · obtain rfl : v = 0 := by have hv : v < 1 := hv; omega
    rfl
  · have hv : v < 15 := hv
    show nodI (3 + v) = 7 :: dig 1 v
    rw [nodI, if_neg (by omega), if_pos (by omega)]
    simp [dig]; omega
  · have hv : v < 15 := hv
    show nodI (18 + v) = 8 :: dig 1 v
    rw [nodI, if_neg (by omega), if_neg (by omega), if_pos (by omega)]
    simp [dig]; omega
  · have hv : v < 225 := hv
    show nodI (33 + v) = 8 :: dig 2 v
    rw [nodI, if_neg (by omega), if_neg (by omega), if_neg (by omega)]
    simp [dig]; omega
theorem nod_ex (n : Nat) (hn : n < 258) : ∃ i v, i < 6 ∧ v < 15 ^ kG i ∧ n = bG i + v := by
  by_cases h : n < 3
  · refine ⟨n, 0, by omega, Nat.pow_pos (by omega), ?_⟩
    unfold bG; rw [if_pos (by omega)]; rfl
  by_cases h1 : n < 18
  · exact ⟨3, n - 3, by omega, by show n - 3 < 15; omega, by show n = 3 + (n - 3); omega⟩
  by_cases h2 : n < 33
  · exact ⟨4, n - 18, by omega, by show n - 18 < 15; omega, by show n = 18 + (n - 18); omega⟩
  exact ⟨5, n - 33, by omega, by show n - 33 < 225; omega, by show n = 33 + (n - 33); omega⟩

/-! places of base 15, one behind the other -/
theorem dig_get : ∀ k v j, j < k → (dig k v)[j]? = some ((v / 15 ^ (k - 1 - j) % 15 : Nat) : Int)
  | 0, _, _, h => absurd h (by omega)
  | k + 1, v, 0, _ => by simp [dig]
  | k + 1, v, j + 1, h => by
    rw [dig, List.getElem?_cons_succ, dig_get k v j (by omega), show k + 1 - 1 - (j + 1) = k - 1 - j from by omega]
theorem dig_snoc : ∀ j u d, d < 15 → dig (j + 1) (15 * u + d) = dig j u ++ [(d : Int)]
  | 0, u, d, h => by simp [dig]; omega
  | j + 1, u, d, h => by
    rw [dig, dig_snoc j u d h, dig, List.cons_append]
    congr 1
    have e : (15 * u + d) / 15 ^ (j + 1) = u / 15 ^ j := by
      rw [Nat.pow_succ, Nat.mul_comm (15 ^ j) 15, ← Nat.div_div_eq_div_mul, Nat.mul_add_div (by omega), Nat.div_eq_of_lt h, Nat.add_zero]
    rw [e]
/-- the digit and the rest, of a number with r + 1 places -/
theorem dig_cut (v r : Nat) : v % 15 ^ (r + 1) / 15 ^ r = v / 15 ^ r % 15 ∧ v % 15 ^ (r + 1) % 15 ^ r = v % 15 ^ r := by
  refine ⟨?_, Nat.mod_mod_of_dvd _ ⟨15, by rw [Nat.pow_succ]⟩⟩
  rw [Nat.pow_succ, Nat.mod_mul, Nat.add_mul_div_left _ _ (Nat.pow_pos (by omega)), Nat.div_eq_of_lt (Nat.mod_lt _ (Nat.pow_pos (by omega))), Nat.zero_add]
/-- the step's size when r places are left to be told -/
def rszN (r : Nat) : Nat := if r = 0 then 0 else 15 ^ (r - 1)
theorem rszN_div (r : Nat) : rszN (r + 1) / 15 = rszN r := by
  cases r with
  | zero => rfl
  | succ r => show 15 ^ (r + 1) / 15 = 15 ^ r; rw [Nat.pow_succ, Nat.mul_div_cancel _ (by omega)]
theorem pow_div (k : Nat) : 15 ^ k / 15 = rszN k := by
  cases k with
  | zero => rfl
  | succ r => show 15 ^ (r + 1) / 15 = 15 ^ r; rw [Nat.pow_succ, Nat.mul_div_cancel _ (by omega)]

/-! how many nodes the first blocks have, in the table's order -/
def ceilN (b s : Nat) : Nat := (b + s - 1) / s
def upN (b : Nat) : Nat → Nat
  | 0 => 0
  | r + 1 => upN b r + ceilN b (15 ^ (r + 1))
def rcnN (x : Nat) : Nat → Nat
  | 0 => 0
  | i + 1 => rcnN x i + upN (min (x - bR i) (15 ^ kR i)) (kR i)
theorem rcn_step : ∀ x, x < 3621 → rcnN (x + 1) 9 = rcnN x 9 + tz (pathI x).tail := by
  have h : (List.range 3621).all (fun x => rcnN (x + 1) 9 == rcnN x 9 + tz (pathI x).tail) = true := by decide +kernel
  intro x hx
  have := List.all_eq_true.1 h x (List.mem_range.2 hx)
  simpa using this
theorem rcn_nds : ∀ x, x ≤ 3621 → rcnN x 9 = ndsN x
  | 0, _ => by decide +kernel
  | x + 1, h => by rw [rcn_step x (by omega), rcn_nds x (by omega), ndsN]
theorem rcn_min (x : Nat) : ∀ i, i ≤ 9 → rcnN x i = rcnN (min x 3621) i
  | 0, _ => rfl
  | i + 1, h => by
    rw [rcnN, rcnN, rcn_min x i (by omega)]
    have h1 := bR_succ i (by omega)
    have h2 := bR_le i (by omega)
    congr 2
    omega
theorem rcn_nds9 (x : Nat) : rcnN x 9 = ndsN (min x 3621) := by rw [rcn_min x 9 (Nat.le_refl _), rcn_nds _ (by omega)]
theorem ceil_le (b s : Nat) (hs : 1 ≤ s) : ceilN b s ≤ b := by
  unfold ceilN
  rcases Nat.eq_zero_or_pos b with rfl | hb
  · rw [Nat.div_eq_of_lt (by omega)]; exact Nat.le_refl _
  · have : b + s - 1 ≤ b * s := by
      obtain ⟨b, rfl⟩ : ∃ c, b = c + 1 := ⟨b - 1, by omega⟩
      obtain ⟨s, rfl⟩ : ∃ c, s = c + 1 := ⟨s - 1, by omega⟩
      rw [Nat.add_mul, Nat.mul_add]; omega
    exact Nat.le_trans (Nat.div_le_div_right this) (by rw [Nat.mul_div_cancel _ (by omega)]; exact Nat.le_refl _)
theorem up_le (b : Nat) : ∀ r, upN b r ≤ r * b
  | 0 => Nat.zero_le _
  | r + 1 => by
    have h1 := up_le b r
    have h2 := ceil_le b (15 ^ (r + 1)) (Nat.pow_pos (by omega))
    rw [upN, Nat.add_mul]; omega
theorem up_bound (b r : Nat) (hb : b ≤ 3375) (hr : r ≤ 3) : upN b r ≤ 10125 := by
  have h := up_le b r
  have : r * b ≤ 3 * 3375 := Nat.mul_le_mul hr hb
  omega
theorem rcn_le (x : Nat) : ∀ i, i ≤ 9 → rcnN x i ≤ i * 10125
  | 0, _ => Nat.zero_le _
  | i + 1, h => by
    have h1 := rcn_le x i (by omega)
    have h2 := sR_le i (by omega)
    have h3 := up_bound (min (x - bR i) (15 ^ kR i)) (kR i) (by omega) (kR_le (by omega))
    rw [rcnN, Nat.add_mul]; omega
end Go.Proofs.YtnipfonglheofaaDoor
