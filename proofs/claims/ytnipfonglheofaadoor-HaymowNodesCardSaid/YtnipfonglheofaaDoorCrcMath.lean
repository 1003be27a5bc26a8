/-
  Plain mathematics of the checksum: words and their steps, over all natural numbers; no world, no program.
-/
import Derived.WalkKit
namespace Go.Proofs.YtnipfonglheofaaDoor

/-- one step, of whatever word -/
def step1 (w : Nat) : Nat := if w % 2 = 1 then (w / 2) ^^^ 2197175160 else w / 2
def stepN : Nat → Nat → Nat
  | 0, w => w
  | n + 1, w => stepN n (step1 w)

theorem xor_half (a b : Nat) : (a ^^^ b) / 2 = (a / 2) ^^^ (b / 2) := by
  have := Nat.shiftRight_xor_distrib (a := a) (b := b) (i := 1)
  simpa [Nat.shiftRight_eq_div_pow] using this
theorem xor_null {a b : Nat} (h : a ^^^ b = 0) : a = b := by
  have := congrArg (· ^^^ b) h
  simpa [Nat.xor_assoc] using this
theorem xor_odd (a b : Nat) : (a ^^^ b) % 2 = (a % 2 + b % 2) % 2 := by
  have := Nat.xor_mod_two_pow (a := a) (b := b) (n := 1)
  rw [Nat.pow_one] at this
  rw [this]
  rcases Nat.mod_two_eq_zero_or_one a with h | h <;> rcases Nat.mod_two_eq_zero_or_one b with h' | h' <;> rw [h, h'] <;> rfl
theorem step1_xor (a b : Nat) : step1 (a ^^^ b) = step1 a ^^^ step1 b := by
  unfold step1
  rw [xor_odd, xor_half]
  rcases Nat.mod_two_eq_zero_or_one a with h | h <;> rcases Nat.mod_two_eq_zero_or_one b with h' | h'
  · simp [h, h']
  · simp [h, h', Nat.xor_assoc]
  · rw [h, h', if_pos rfl, if_pos rfl, if_neg (by decide)]
    rw [Nat.xor_assoc, Nat.xor_assoc, Nat.xor_comm (b / 2)]
  · rw [h, h', if_pos rfl, if_pos rfl, if_neg (by decide)]
    rw [Nat.xor_assoc, Nat.xor_comm 2197175160, Nat.xor_assoc, Nat.xor_self, Nat.xor_zero]
theorem stepN_xor : ∀ n a b, stepN n (a ^^^ b) = stepN n a ^^^ stepN n b
  | 0, _, _ => rfl
  | n + 1, a, b => by rw [stepN, step1_xor, stepN_xor n]; rfl
theorem stepN_zero : ∀ n, stepN n 0 = 0
  | 0 => rfl
  | n + 1 => by rw [stepN]; exact stepN_zero n
theorem stepN_add : ∀ m n w, stepN (m + n) w = stepN n (stepN m w)
  | 0, n, w => by rw [Nat.zero_add]; rfl
  | m + 1, n, w => by rw [Nat.succ_add, stepN, stepN_add m n]; rfl
theorem stepN_succ (n w : Nat) : stepN (n + 1) w = step1 (stepN n w) := by rw [stepN_add n 1]; rfl
theorem step1_double (x : Nat) : step1 (2 * x) = x := by
  unfold step1
  rw [if_neg (by omega)]; omega
theorem stepN_shift : ∀ n x, stepN n (2 ^ n * x) = x
  | 0, x => by simp [stepN]
  | n + 1, x => by rw [stepN, Nat.pow_succ, Nat.mul_comm (2 ^ n) 2, Nat.mul_assoc, step1_double, stepN_shift n x]
theorem xor_lt32 {a b : Nat} (ha : a < 4294967296) (hb : b < 4294967296) : a ^^^ b < 4294967296 := Nat.xor_lt_two_pow (n := 32) ha hb
theorem step1_lt {w : Nat} (h : w < 4294967296) : step1 w < 4294967296 := by
  unfold step1
  split
  · exact xor_lt32 (by omega) (by omega)
  · omega
theorem stepN_lt : ∀ n {w}, w < 4294967296 → stepN n w < 4294967296
  | 0, _, h => h
  | n + 1, _, h => stepN_lt n (step1_lt h)
theorem step1_ne {w : Nat} (h : w < 4294967296) (h0 : step1 w = 0) : w = 0 := by
  unfold step1 at h0
  split at h0
  · have h1 : w / 2 = 2197175160 := xor_null h0
    omega
  · omega
theorem stepN_ne : ∀ n {w}, w < 4294967296 → stepN n w = 0 → w = 0
  | 0, _, _, h0 => h0
  | n + 1, _, h, h0 => step1_ne h (stepN_ne n (step1_lt h) h0)
theorem stepN_inj (n : Nat) {a b : Nat} (ha : a < 4294967296) (hb : b < 4294967296) (h : stepN n a = stepN n b) : a = b := by
  have h0 : stepN n (a ^^^ b) = 0 := by rw [stepN_xor, h, Nat.xor_self]
  exact xor_null (stepN_ne n (xor_lt32 ha hb) h0)

/-- a sum of two numbers that have no bit in common -/
theorem add_xor (i x y : Nat) (hx : x < 2 ^ i) : x + 2 ^ i * y = x ^^^ (2 ^ i * y) := by
  apply Nat.eq_of_testBit_eq
  intro j
  rw [Nat.testBit_xor, Nat.add_comm, Nat.testBit_two_pow_mul_add _ hx, Nat.testBit_two_pow_mul]
  by_cases h : j < i
  · simp [h, Nat.not_le.2 h]
  · have hle : i ≤ j := Nat.not_lt.1 h
    rw [Nat.testBit_lt_two_pow (Nat.lt_of_lt_of_le hx (Nat.pow_le_pow_right (by omega) hle))]
    simp [h, hle]

/-- what four steps make of a word is told by its lowest half byte -/
theorem four_steps (w : Nat) : (w / 16) ^^^ stepN 4 (w % 16) = stepN 4 w := by
  have e : w = (w % 16) ^^^ (2 ^ 4 * (w / 16)) := by
    rw [← add_xor 4 _ _ (Nat.mod_lt _ (by decide))]
    exact (Nat.mod_add_div w 16).symm
  conv => rhs; rw [e, stepN_xor, stepN_shift]
  exact Nat.xor_comm _ _

/-- the number of some bytes, the lowest first -/
def leN : List UInt8 → Nat
  | [] => 0
  | c :: l => c.toNat + 256 * leN l
theorem leN_lt : ∀ l, leN l < 2 ^ (8 * l.length)
  | [] => by simp [leN]
  | c :: l => by
    have h := leN_lt l
    have hc := c.toNat_lt
    rw [leN, List.length_cons, show 8 * (l.length + 1) = 8 + 8 * l.length from by omega, Nat.pow_add]
    generalize 2 ^ (8 * l.length) = P at *
    omega
theorem leN_append : ∀ a b, leN (a ++ b) = leN a + 2 ^ (8 * a.length) * leN b
  | [], b => by simp [leN]
  | c :: a, b => by
    rw [List.cons_append, leN, leN_append a b, leN, List.length_cons, show 8 * (a.length + 1) = 8 + 8 * a.length from by omega, Nat.pow_add, Nat.mul_add, ← Nat.mul_assoc, show 2 ^ 8 = 256 from rfl]
    omega
theorem leN_inj : ∀ a b : List UInt8, a.length = b.length → leN a = leN b → a = b
  | [], [], _, _ => rfl
  | [], _ :: _, h, _ => by simp at h
  | _ :: _, [], h, _ => by simp at h
  | c :: a, d :: b, h, e => by
    simp only [leN] at e
    have hc := c.toNat_lt
    have hd := d.toNat_lt
    have h1 : c.toNat = d.toNat := by omega
    have h2 : leN a = leN b := by omega
    rw [UInt8.toNat_inj.1 h1, leN_inj a b (by simpa using h) h2]

/-- the word behind some bytes -/
def byteStep (w : Nat) (c : UInt8) : Nat := stepN 8 (w ^^^ c.toNat)
def regN (w : Nat) (l : List UInt8) : Nat := l.foldl byteStep w
theorem regN_nil (w : Nat) : regN w [] = w := rfl
theorem regN_cons (w : Nat) (c : UInt8) (l : List UInt8) : regN w (c :: l) = regN (stepN 8 (w ^^^ c.toNat)) l := by unfold regN; rw [List.foldl_cons, byteStep]
theorem regN_append (w : Nat) (a b : List UInt8) : regN w (a ++ b) = regN (regN w a) b := by unfold regN; rw [List.foldl_append]
theorem regN_lt {w : Nat} (l : List UInt8) (h : w < 4294967296) : regN w l < 4294967296 := by
  induction l generalizing w with
  | nil => exact h
  | cons c l ih => rw [regN_cons]; exact ih (stepN_lt 8 (xor_lt32 h (by have := c.toNat_lt; omega)))
theorem regN_eq : ∀ w l, regN w l = stepN (8 * l.length) (w ^^^ leN l)
  | w, [] => by rw [regN_nil, leN, Nat.xor_zero]; rfl
  | w, c :: l => by
    rw [regN_cons, regN_eq, List.length_cons, show 8 * (l.length + 1) = 8 + 8 * l.length from by omega, stepN_add, leN,
      show c.toNat + 256 * leN l = c.toNat ^^^ (2 ^ 8 * leN l) from add_xor 8 _ _ c.toNat_lt, ← Nat.xor_assoc, stepN_xor 8 (w ^^^ c.toNat), stepN_shift]
theorem regN_snoc (w : Nat) (l : List UInt8) (c : UInt8) : regN w (l ++ [c]) = stepN 8 (regN w l ^^^ c.toNat) := by rw [regN_append, regN_cons, regN_nil]

/-- the checksum -/
def sumN (l : List UInt8) : Nat := 4294967295 - regN 4294967295 l
theorem sumN_lt (l : List UInt8) : sumN l < 4294967296 := by unfold sumN; omega
theorem sumN_nil : sumN [] = 0 := rfl
theorem sub_xor {a : Nat} (h : a < 4294967296) : 4294967295 - a = 4294967295 ^^^ a := by
  apply Nat.eq_of_testBit_eq
  intro j
  rw [Nat.testBit_xor, show 4294967295 - a = 2 ^ 32 - (a + 1) from by omega, Nat.testBit_two_pow_sub_succ (by omega), show 4294967295 = 2 ^ 32 - 1 from rfl, Nat.testBit_two_pow_sub_one]
  by_cases hj : j < 32
  · simp [hj]
  · rw [Nat.testBit_lt_two_pow (Nat.lt_of_lt_of_le h (show 4294967296 ≤ 2 ^ j from Nat.le_trans (show 4294967296 ≤ 2 ^ 32 by decide) (Nat.pow_le_pow_right (by omega) (by omega))))]
    simp [hj]
theorem sumN_xor (l : List UInt8) : sumN l = 4294967295 ^^^ regN 4294967295 l := sub_xor (regN_lt l (by omega))

/-- a checksum's bytes, the lowest first -/
def le4 (s : Nat) : List UInt8 := [UInt8.ofNat s, UInt8.ofNat (s / 256), UInt8.ofNat (s / 65536), UInt8.ofNat (s / 16777216)]
theorem le4_get (s i : Nat) (h : i < 4) : (le4 s)[i]? = some (UInt8.ofNat (s / 256 ^ i)) := by
  match i, h with
  | 0, _ => simp [le4]
  | 1, _ => simp [le4]
  | 2, _ => simp [le4]
  | 3, _ => simp [le4]
theorem leN_le4 (s : Nat) (h : s < 4294967296) : leN (le4 s) = s := by
  simp only [le4, leN, UInt8.toNat_ofNat']
  omega
def padB (l : List UInt8) : List UInt8 := l ++ List.replicate (124 - l.length) 0
theorem padB_length (l : List UInt8) (h : l.length ≤ 124) : (padB l).length = 124 := by simp [padB]; omega
def sealB (l : List UInt8) : List UInt8 := padB l ++ le4 (sumN (padB l))
theorem sealB_length (l : List UInt8) (h : l.length ≤ 124) : (sealB l).length = 128 := by simp [sealB, padB_length l h, le4]
def heldB (l : List UInt8) : Bool := decide (l.length = 128) && (l.drop 124 == le4 (sumN (l.take 124)))
theorem heldB_seal (l : List UInt8) (h : l.length ≤ 124) : heldB (sealB l) = true := by
  have hp := padB_length l h
  rw [heldB, sealB_length l h, sealB]
  simp [hp]
theorem heldB_iff (l : List UInt8) (h : l.length = 128) : heldB l = true ↔ regN 4294967295 l = stepN 32 4294967295 := by
  have hl : l = l.take 124 ++ l.drop 124 := (List.take_append_drop _ _).symm
  have hd : (l.drop 124).length = 4 := by simp [h]
  have h1 : regN 4294967295 l = stepN 32 (regN 4294967295 (l.take 124) ^^^ leN (l.drop 124)) := by
    conv => lhs; rw [hl, regN_append, regN_eq (regN _ _) (l.drop 124), hd]
  have hr : regN 4294967295 (l.take 124) < 4294967296 := regN_lt _ (by omega)
  have hn : leN (l.drop 124) < 4294967296 := by have := leN_lt (l.drop 124); rw [hd] at this; exact this
  rw [h1]
  unfold heldB
  simp only [h, decide_true, Bool.true_and, beq_iff_eq]
  constructor
  · intro e
    rw [e, leN_le4 _ (sumN_lt _), sumN_xor]
    congr 1
    rw [Nat.xor_comm 4294967295, ← Nat.xor_assoc, Nat.xor_self, Nat.zero_xor]
  · intro e
    have e' := stepN_inj 32 (xor_lt32 hr hn) (by omega) e
    refine leN_inj _ _ (by rw [hd]; rfl) ?_
    generalize hq : regN 4294967295 (l.take 124) = q at *
    rw [leN_le4 _ (sumN_lt _), sumN_xor, hq, ← e', Nat.xor_comm q, Nat.xor_assoc, Nat.xor_self, Nat.xor_zero]
/-- one up to 32 bits beside one another, turned over, are found -/
theorem burst (l l' : List UInt8) (turn k : Nat) (h : l.length = 128) (h' : l'.length = 128) (hh : heldB l = true) (ht : turn < 4294967296) (h0 : turn ≠ 0) (hk : k ≤ 992) (e : leN l' = leN l ^^^ (turn * 2 ^ k)) : heldB l' = false := by
  cases hb : heldB l' with
  | false => rfl
  | true =>
    exfalso
    have h1 := (heldB_iff l h).1 hh
    have h2 := (heldB_iff l' h').1 hb
    rw [regN_eq, h] at h1
    rw [regN_eq, h', e, ← Nat.xor_assoc, stepN_xor, h1] at h2
    have h3 : stepN (8 * 128) (turn * 2 ^ k) = 0 := by
      have := congrArg (stepN 32 4294967295 ^^^ ·) h2
      simpa [← Nat.xor_assoc] using this
    rw [show 8 * 128 = k + (1024 - k) from by omega, stepN_add, Nat.mul_comm, stepN_shift] at h3
    exact h0 (stepN_ne _ ht h3)
/-- of three times as many bytes the words, exclusive-or, are the word of the bytes, exclusive-or -/
def xor3 : List UInt8 → List UInt8 → List UInt8 → List UInt8
  | a :: x, b :: y, c :: z => (a ^^^ b ^^^ c) :: xor3 x y z
  | _, _, _ => []
theorem xor4 (a b c p q r : Nat) : (a ^^^ b ^^^ c) ^^^ (p ^^^ q ^^^ r) = (a ^^^ p) ^^^ (b ^^^ q) ^^^ (c ^^^ r) := by
  ac_rfl
theorem regN_three : ∀ (x y z : List UInt8) (p q r : Nat), x.length = y.length → y.length = z.length → regN p x ^^^ regN q y ^^^ regN r z = regN (p ^^^ q ^^^ r) (xor3 x y z)
  | [], [], [], _, _, _, _, _ => by simp [regN_nil, xor3]
  | [], [], _ :: _, _, _, _, _, h => by simp at h
  | [], _ :: _, _, _, _, _, h, _ => by simp at h
  | _ :: _, [], _, _, _, _, h, _ => by simp at h
  | _ :: _, _ :: _, [], _, _, _, _, h => by simp at h
  | a :: x, b :: y, c :: z, p, q, r, h, h' => by
    rw [xor3, regN_cons, regN_cons, regN_cons, regN_cons, regN_three x y z _ _ _ (by simpa using h) (by simpa using h'), ← stepN_xor, ← stepN_xor, UInt8.toNat_xor, UInt8.toNat_xor, ← xor4]
theorem sumN_three (x y z : List UInt8) (h : x.length = y.length) (h' : y.length = z.length) : sumN x ^^^ sumN y ^^^ sumN z = sumN (xor3 x y z) := by
  rw [sumN_xor, sumN_xor, sumN_xor, sumN_xor, ← xor4, regN_three _ _ _ _ _ _ h h']
  rfl
theorem xor3_length : ∀ x y z : List UInt8, x.length = y.length → y.length = z.length → (xor3 x y z).length = x.length
  | [], [], [], _, _ => rfl
  | [], [], _ :: _, _, h => by simp at h
  | [], _ :: _, _, h, _ => by simp at h
  | _ :: _, [], _, h, _ => by simp at h
  | _ :: _, _ :: _, [], _, h => by simp at h
  | a :: x, b :: y, c :: z, h, h' => by
    rw [xor3, List.length_cons, xor3_length x y z (by simpa using h) (by simpa using h')]; rfl
end Go.Proofs.YtnipfonglheofaaDoor
