/-
  Paths to blocks of a file, names of nodes: lists of numbers; no program is named here.
-/
import Derived.Test.YtnipfonglheofaaDoorMath
namespace Go.Proofs.YtnipfonglheofaaDoor
set_option linter.unusedVariables false

/-- k places of base 15, the most significant one first -/
def dig : Nat → Nat → List Int
  | 0, _ => []
  | k + 1, v => ((v / 15 ^ k % 15 : Nat) : Int) :: dig k v
theorem dig_length : ∀ k v, (dig k v).length = k
  | 0, _ => rfl
  | k + 1, v => by simp [dig, dig_length k v]
theorem dig_bound : ∀ k v, ∀ d ∈ dig k v, 0 ≤ d ∧ d ≤ 14
  | 0, _, d, h => by simp [dig] at h
  | k + 1, v, d, h => by
    rcases List.mem_cons.1 h with rfl | h
    · have := Nat.mod_lt (v / 15 ^ k) (show 0 < 15 by omega); omega
    · exact dig_bound k v d h
theorem dig_mod : ∀ k v, dig k (v % 15 ^ k) = dig k v
  | 0, v => rfl
  | k + 1, v => by
    have h1 : v % 15 ^ (k + 1) / 15 ^ k % 15 = v / 15 ^ k % 15 := by
      rw [Nat.pow_succ, Nat.mod_mul, Nat.add_mul_div_left _ _ (Nat.pow_pos (by omega)), Nat.div_eq_of_lt (Nat.mod_lt _ (Nat.pow_pos (by omega))), Nat.zero_add, Nat.mod_mod]
    have h2 : v % 15 ^ (k + 1) % 15 ^ k = v % 15 ^ k := Nat.mod_mod_of_dvd _ ⟨15, by rw [Nat.pow_succ]⟩
    rw [dig, dig, h1, ← dig_mod k (v % 15 ^ (k + 1)), h2, dig_mod k v]
/-- the next number with as many places, if there is one -/
def nextD : List Int → Option (List Int)
  | [] => none
  | d :: t => match nextD t with
    | some t' => some (d :: t')
    | none => if d < 14 then some ((d + 1) :: List.replicate t.length 0) else none
theorem nextD_length : ∀ t t', nextD t = some t' → t'.length = t.length
  | [], _, h => by simp [nextD] at h
  | d :: t, t', h => by
    rw [nextD] at h
    cases e : nextD t with
    | some s => rw [e] at h; simp at h; subst h; simp [nextD_length t s e]
    | none =>
      rw [e] at h
      simp at h
      obtain ⟨_, rfl⟩ := h
      simp
theorem nextD_app : ∀ (a b b' : List Int), nextD b = some b' → nextD (a ++ b) = some (a ++ b')
  | [], b, b', h => h
  | d :: a, b, b', h => by rw [List.cons_append, nextD, nextD_app a b b' h, List.cons_append]
theorem nextD_none : ∀ t, nextD t = none → ∀ d ∈ t, ¬ d < 14
  | [], _, d, h => by simp at h
  | d :: t, h, x, hx => by
    rw [nextD] at h
    cases e : nextD t with
    | some s => rw [e] at h; cases h
    | none =>
      rw [e] at h
      simp at h
      rcases List.mem_cons.1 hx with rfl | hx
      · omega
      · exact nextD_none t e x hx
theorem nextD_step (d : Int) (t : List Int) (h : nextD t = none) : nextD (d :: t) = if d < 14 then some ((d + 1) :: List.replicate t.length 0) else none := by rw [nextD, h]
theorem dig_zero : ∀ k, dig k 0 = List.replicate k 0
  | 0 => rfl
  | k + 1 => by rw [dig, dig_zero k, List.replicate_succ]; simp
theorem nextD_dig : ∀ k v, v < 15 ^ k → nextD (dig k v) = if v + 1 < 15 ^ k then some (dig k (v + 1)) else none
  | 0, v, h => by
    have : v = 0 := by simpa using h
    subst this; rfl
  | k + 1, v, h => by
    have hp : 0 < 15 ^ k := Nat.pow_pos (by omega)
    have hm : v % 15 ^ k < 15 ^ k := Nat.mod_lt _ hp
    have ih := nextD_dig k (v % 15 ^ k) hm
    rw [dig_mod] at ih
    have hq : v / 15 ^ k < 15 := by rw [Nat.div_lt_iff_lt_mul hp, Nat.mul_comm, ← Nat.pow_succ]; exact h
    have hd : 15 ^ k * (v / 15 ^ k) + v % 15 ^ k = v := Nat.div_add_mod v (15 ^ k)
    rw [dig, nextD, ih]
    by_cases h1 : v % 15 ^ k + 1 < 15 ^ k
    · rw [if_pos h1]
      have hv : v + 1 = 15 ^ k * (v / 15 ^ k) + (v % 15 ^ k + 1) := by omega
      have e1 : (v + 1) / 15 ^ k = v / 15 ^ k := by rw [hv, Nat.mul_add_div hp, Nat.div_eq_of_lt h1, Nat.add_zero]
      have e2 : (v + 1) % 15 ^ k = v % 15 ^ k + 1 := by rw [hv, Nat.mul_add_mod, Nat.mod_eq_of_lt h1]
      have hlt : v + 1 < 15 ^ (k + 1) := by
        have : 15 ^ k * (v / 15 ^ k) ≤ 15 ^ k * 14 := Nat.mul_le_mul_left _ (by omega)
        rw [Nat.pow_succ]
        omega
      rw [if_pos hlt, dig, e1, ← dig_mod k (v + 1), e2]
    · rw [if_neg h1]
      have hmm : v % 15 ^ k + 1 = 15 ^ k := by omega
      have hv : v + 1 = 15 ^ k * (v / 15 ^ k + 1) := by rw [Nat.mul_add]; omega
      have e1 : (v + 1) / 15 ^ k = v / 15 ^ k + 1 := by rw [hv, Nat.mul_div_cancel_left _ hp]
      have e2 : (v + 1) % 15 ^ k = 0 := by rw [hv, Nat.mul_mod_right]
      have e3 : ((v / 15 ^ k % 15 : Nat) : Int) = ((v / 15 ^ k : Nat) : Int) := by rw [Nat.mod_eq_of_lt hq]
      simp only
      rw [e3, dig_length]
      by_cases h2 : v / 15 ^ k < 14
      · have hlt : v + 1 < 15 ^ (k + 1) := by
          rw [hv, Nat.pow_succ]
          have : 15 ^ k * (v / 15 ^ k + 1) ≤ 15 ^ k * 14 := Nat.mul_le_mul_left _ (by omega)
          omega
        rw [if_pos (by omega), if_pos hlt, dig, e1, ← dig_mod k (v + 1), e2, dig_zero, Nat.mod_eq_of_lt (by omega)]
        congr 2
      · have hge : ¬ v + 1 < 15 ^ (k + 1) := by
          rw [hv, Nat.pow_succ, show v / 15 ^ k + 1 = 15 from by omega]
          omega
        rw [if_neg (by omega), if_neg hge]

/-- the path of a block -/
def pathI (n : Nat) : List Int :=
  if n < 6 then [(n : Int)] else if n < 21 then 6 :: dig 1 (n - 6) else if n < 246 then 7 :: dig 2 (n - 21) else 8 :: dig 3 (n - 246)
/-- the path behind it, or none -/
def nextI : List Int → List Int
  | [] => []
  | a :: t => if a < 5 then [a + 1] else if a = 5 then [6, 0] else match nextD t with
    | some t' => a :: t'
    | none => if a = 8 then [] else (a + 1) :: List.replicate (t.length + 1) 0
theorem path_a {n : Nat} (h : n < 6) : pathI n = [(n : Int)] := if_pos h
theorem path_b {n : Nat} (h : 6 ≤ n) (h' : n < 21) : pathI n = 6 :: dig 1 (n - 6) := by rw [pathI, if_neg (by omega), if_pos h']
theorem path_c {n : Nat} (h : 21 ≤ n) (h' : n < 246) : pathI n = 7 :: dig 2 (n - 21) := by rw [pathI, if_neg (by omega), if_neg (by omega), if_pos h']
theorem path_d {n : Nat} (h : 246 ≤ n) : pathI n = 8 :: dig 3 (n - 246) := by rw [pathI, if_neg (by omega), if_neg (by omega), if_neg (by omega)]
theorem nextI_big (a : Int) (t : List Int) (h : 6 ≤ a) : nextI (a :: t) = match nextD t with | some t' => a :: t' | none => if a = 8 then [] else (a + 1) :: List.replicate (t.length + 1) 0 := by
  rw [nextI, if_neg (by omega), if_neg (by omega)]
theorem nextI_path (n : Nat) (h : n < 3621) : nextI (pathI n) = if n = 3620 then [] else pathI (n + 1) := by
  rcases (show n < 5 ∨ n = 5 ∨ (6 ≤ n ∧ n < 20) ∨ n = 20 ∨ (21 ≤ n ∧ n < 245) ∨ n = 245 ∨ (246 ≤ n ∧ n < 3620) ∨ n = 3620 by omega) with h1 | rfl | ⟨h1, h2⟩ | rfl | ⟨h1, h2⟩ | rfl | ⟨h1, h2⟩ | rfl
  · rw [path_a (by omega), path_a (by omega), if_neg (by omega), nextI, if_pos (by omega)]; rfl
  · rfl
  · rw [path_b h1 (by omega), path_b (by omega) (by omega), if_neg (by omega), nextI_big _ _ (by omega), nextD_dig 1 (n - 6) (by omega), if_pos (by omega), show n + 1 - 6 = n - 6 + 1 from by omega]
  · decide
  · rw [path_c h1 (by omega), path_c (by omega) (by omega), if_neg (by omega), nextI_big _ _ (by omega), nextD_dig 2 (n - 21) (by omega), if_pos (by omega), show n + 1 - 21 = n - 21 + 1 from by omega]
  · decide
  · rw [path_d h1, path_d (by omega), if_neg (by omega), nextI_big _ _ (by omega), nextD_dig 3 (n - 246) (by omega), if_pos (by omega), show n + 1 - 246 = n - 246 + 1 from by omega]
  · decide
/-- a path: its first place, and as many places as that asks -/
def Pth (p : List Int) : Prop := ∃ a t, p = a :: t ∧ 0 ≤ a ∧ a ≤ 8 ∧ t.length ≤ 3 ∧ (a ≤ 5 → t = []) ∧ ∀ d ∈ t, 0 ≤ d ∧ d ≤ 14
theorem pth_path (n : Nat) (h : n < 3621) : Pth (pathI n) := by
  unfold pathI
  by_cases h1 : n < 6
  · rw [if_pos h1]; exact ⟨n, [], rfl, by omega, by omega, by simp, fun _ => rfl, fun d hd => by simp at hd⟩
  · rw [if_neg h1]
    by_cases h2 : n < 21
    · rw [if_pos h2]; exact ⟨6, _, rfl, by omega, by omega, by rw [dig_length]; omega, fun h => by omega, dig_bound _ _⟩
    · rw [if_neg h2]
      by_cases h3 : n < 246
      · rw [if_pos h3]; exact ⟨7, _, rfl, by omega, by omega, by rw [dig_length]; omega, fun h => by omega, dig_bound _ _⟩
      · rw [if_neg h3]; exact ⟨8, _, rfl, by omega, by omega, by rw [dig_length]; omega, fun h => by omega, dig_bound _ _⟩
theorem path_length (n : Nat) : 1 ≤ (pathI n).length ∧ (pathI n).length ≤ 4 := by
  unfold pathI
  split
  · simp
  · split
    · simp [dig_length]
    · split <;> simp [dig_length]
/-- the block of a path, by its places -/
def blkI : List Int → Int
  | [a] => a
  | [_, b] => 6 + b
  | [_, b, c] => 21 + 15 * b + c
  | [_, b, c, d] => 246 + 225 * b + 15 * c + d
  | _ => -1
theorem blk_path (n : Nat) (h : n < 3621) : blkI (pathI n) = n := by
  unfold pathI
  by_cases h1 : n < 6
  · rw [if_pos h1]; rfl
  · rw [if_neg h1]
    by_cases h2 : n < 21
    · rw [if_pos h2]; simp only [dig, blkI]; omega
    · rw [if_neg h2]
      by_cases h3 : n < 246
      · rw [if_pos h3]; simp only [dig, blkI]; omega
      · rw [if_neg h3]; simp only [dig, blkI]; omega
theorem path_inj {n m : Nat} (hn : n < 3621) (hm : m < 3621) (h : pathI n = pathI m) : n = m := by
  have := blk_path n hn
  rw [h, blk_path m hm] at this
  omega

/-- the name of a node -/
def nodI (k : Nat) : List Int := if k < 3 then [(6 + k : Nat)] else if k < 18 then [7, (k - 3 : Nat)] else if k < 33 then [8, (k - 18 : Nat)] else [8, ((k - 33) / 15 : Nat), ((k - 33) % 15 : Nat)]
def numI : List Int → Int
  | [a] => a - 6
  | [a, b] => if a = 7 then 3 + b else 18 + b
  | [_, b, c] => 33 + 15 * b + c
  | _ => -1
theorem num_nod (k : Nat) : numI (nodI k) = k := by
  unfold nodI
  split
  · simp only [numI]; omega
  · split
    · simp only [numI, if_pos]; omega
    · split
      · simp only [numI, show ¬ ((8 : Int) = 7) from by omega, if_false]; omega
      · simp only [numI]; omega
theorem nod_inj {k m : Nat} (h : nodI k = nodI m) : k = m := by
  have := num_nod k
  rw [h, num_nod m] at this
  omega
theorem nod_length (k : Nat) : 1 ≤ (nodI k).length ∧ (nodI k).length ≤ 3 := by
  unfold nodI
  split
  · simp
  · split
    · simp
    · split <;> simp
end Go.Proofs.YtnipfonglheofaaDoor
