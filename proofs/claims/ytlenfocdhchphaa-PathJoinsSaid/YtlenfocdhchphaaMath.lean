/-
  Plain mathematics of big-endian numbers and records: lists of bytes, no world, no program.
-/
import Derived.WalkKit
import Derived.Test.YtlenfocdhchphaaProg
namespace Go.Proofs.Ytlenfocdhchphaa

/-- a number's bytes, the most significant one first -/
def be : Nat → Nat → List UInt8
  | 0, _ => []
  | w + 1, v => UInt8.ofNat (v / 256 ^ w) :: be w v

/-- the number of some bytes -/
def valB (l : List UInt8) : Nat := l.foldl (fun v b => v * 256 + b.toNat) 0

theorem be_length : ∀ w v, (be w v).length = w
  | 0, _ => rfl
  | w + 1, v => by simp [be, be_length w v]

theorem be_get : ∀ (w v i : Nat), i < w → (be w v)[i]? = some (UInt8.ofNat (v / 256 ^ (w - 1 - i)))
  | 0, _, _, h => by omega
  | w + 1, v, 0, _ => by simp [be]
  | w + 1, v, i + 1, h => by
    simp only [be, List.getElem?_cons_succ]
    rw [be_get w v i (by omega), show w + 1 - 1 - (i + 1) = w - 1 - i from by omega]

theorem be_take (w v i : Nat) (h : i < w) : (be w v).take (i + 1) = (be w v).take i ++ [UInt8.ofNat (v / 256 ^ (w - 1 - i))] := by
  rw [List.take_add_one, be_get w v i h]; rfl

theorem foldl_val (l : List UInt8) : ∀ v : Nat, l.foldl (fun v b => v * 256 + b.toNat) v = v * 256 ^ l.length + valB l := by
  induction l with
  | nil => intro v; simp [valB]
  | cons b l ih =>
    intro v
    unfold valB
    simp only [List.foldl_cons, List.length_cons]
    rw [ih, ih (0 * 256 + b.toNat), Nat.zero_mul, Nat.zero_add, Nat.add_mul, Nat.pow_succ, Nat.mul_assoc, Nat.mul_comm 256]
    omega

theorem valB_nil : valB [] = 0 := rfl
theorem valB_cons (b : UInt8) (l : List UInt8) : valB (b :: l) = b.toNat * 256 ^ l.length + valB l := by
  conv => lhs; unfold valB
  rw [List.foldl_cons, foldl_val]; simp
theorem valB_snoc (l : List UInt8) (b : UInt8) : valB (l ++ [b]) = valB l * 256 + b.toNat := by
  unfold valB; simp
theorem valB_lt : ∀ l : List UInt8, valB l < 256 ^ l.length
  | [] => by simp [valB]
  | b :: l => by
    have h := valB_lt l
    have hb := b.toNat_lt
    rw [valB_cons, List.length_cons, Nat.pow_succ]
    have : b.toNat * 256 ^ l.length ≤ 255 * 256 ^ l.length := Nat.mul_le_mul_right _ (by omega)
    omega
theorem pow256_le {a b : Nat} (h : a ≤ b) : 256 ^ a ≤ 256 ^ b := Nat.pow_le_pow_right (by omega) h
theorem valB_lt8 (l : List UInt8) (h : l.length ≤ 8) : valB l < 18446744073709551616 :=
  Nat.lt_of_lt_of_le (valB_lt l) (Nat.le_trans (pow256_le h) (by decide))

theorem valB_be : ∀ w v, valB (be w v) = v % 256 ^ w
  | 0, v => by simp [be, valB, Nat.mod_one]
  | w + 1, v => by
    rw [be, valB_cons, valB_be w v, be_length, Nat.pow_succ, Nat.mod_mul, UInt8.toNat_ofNat']
    rw [Nat.mul_comm (256 ^ w) (v / 256 ^ w % 256), Nat.add_comm]

theorem be_inj {w v v' : Nat} (h : v < 256 ^ w) (h' : v' < 256 ^ w) (e : be w v = be w v') : v = v' := by
  have := congrArg valB e
  rwa [valB_be, valB_be, Nat.mod_eq_of_lt h, Nat.mod_eq_of_lt h'] at this

theorem pow2_8 (m : Nat) : (2 : Int) ^ (8 * m) = ((256 ^ m : Nat) : Int) := by
  rw [Int.pow_mul]; simp
/-- the byte that a shift and a conversion leave -/
theorem byte_at (v n : Int) (k : Nat) (h3 : 0 ≤ v) (hlt : (k : Int) < n) : v / 2 ^ (8 * (n - 1 - (k : Int))).toNat % 256 = ((UInt8.ofNat (v.toNat / 256 ^ (n.toNat - 1 - k))).toNat : Int) := by
  obtain ⟨x, rfl⟩ := Int.eq_ofNat_of_zero_le h3
  rw [show (8 * (n - 1 - (k : Int))).toNat = 8 * (n.toNat - 1 - k) from by omega, pow2_8, UInt8.toNat_ofNat']
  simp
theorem fits_iff (v n : Int) (h3 : 0 ≤ v) (h1 : 1 ≤ n) : (v / 2 ^ (8 * n).toNat == 0) = decide (v.toNat < 256 ^ n.toNat) := by
  obtain ⟨x, rfl⟩ := Int.eq_ofNat_of_zero_le h3
  rw [show (8 * n).toNat = 8 * n.toNat from by omega, pow2_8, Bool.eq_iff_iff]
  have hp : 0 < 256 ^ n.toNat := Nat.pow_pos (by omega)
  simp only [beq_iff_eq, decide_eq_true_eq, Int.toNat_natCast]
  rw [← Int.natCast_ediv]
  have := Nat.div_eq_zero_iff_lt (x := x) hp
  omega

/-- numbers of a record: a width (as it came) and a value -/
abbrev Num' := Int × Nat

def okW (w : Int) : Bool := decide (1 ≤ w ∧ w ≤ 8)
def okV (p : Num') : Bool := decide (p.2 < 256 ^ p.1.toNat)
def okN (p : Num') : Bool := okW p.1 && okV p
/-- the error's number -/
def codeN (p : Num') : Int := if okW p.1 then (if okV p then 0 else 19) else 1
def codeL : List Num' → Int
  | [] => 0
  | p :: l => if okN p then codeL l else codeN p
def recs (l : List Num') : List UInt8 := l.flatMap fun p => be p.1.toNat p.2

theorem okW_iff (w : Int) : okW w = true ↔ 1 ≤ w ∧ w ≤ 8 := by simp [okW]
theorem okN_iff (p : Num') : okN p = true ↔ (1 ≤ p.1 ∧ p.1 ≤ 8) ∧ p.2 < 256 ^ p.1.toNat := by simp [okN, okW, okV]
theorem codeL_zero : ∀ l, codeL l = 0 ↔ ∀ p ∈ l, okN p = true
  | [] => by simp [codeL]
  | p :: l => by
    simp only [codeL, List.mem_cons, forall_eq_or_imp]
    by_cases h : okN p
    · simp [h, codeL_zero l]
    · have hne : codeN p ≠ 0 := by
        unfold codeN
        unfold okN at h
        by_cases hw : okW p.1 <;> by_cases hv : okV p <;> simp [hw, hv] at h ⊢
      simp [h, hne]
theorem codeL_vals (l : List Num') : codeL l = 0 ∨ codeL l = 1 ∨ codeL l = 19 := by
  induction l with
  | nil => simp [codeL]
  | cons p l ih =>
    simp only [codeL]
    by_cases h : okN p
    · simpa [h] using ih
    · simp only [h]
      unfold codeN
      by_cases hw : okW p.1 <;> by_cases hv : okV p <;> simp [hw, hv]
/-- the first k are good: what is said of all is said of the rest -/
theorem codeL_drop (l : List Num') (k : Nat) (h : ∀ p ∈ l.take k, okN p = true) : codeL l = codeL (l.drop k) := by
  induction l generalizing k with
  | nil => simp
  | cons p l ih =>
    cases k with
    | zero => rfl
    | succ k =>
      have hp : okN p = true := h p (by simp)
      simp only [codeL, hp, if_true, List.drop_succ_cons]
      exact ih k fun q hq => h q (by simp [hq])
theorem codeL_at (l : List Num') (k : Nat) (h : ∀ p ∈ l.take k, okN p = true) (p : Num') (hk : l[k]? = some p) (hp : okN p = false) : codeL l = codeN p := by
  have hl : k < l.length := by
    rcases Nat.lt_or_ge k l.length with h' | h'
    · exact h'
    · rw [List.getElem?_eq_none h'] at hk; cases hk
  rw [codeL_drop l k h, List.drop_eq_getElem_cons hl]
  have : l[k] = p := by rw [List.getElem?_eq_getElem hl] at hk; exact Option.some.inj hk
  simp [codeL, this, hp]
theorem recs_append (a b : List Num') : recs (a ++ b) = recs a ++ recs b := by simp [recs]
theorem recs_snoc (l : List Num') (k : Nat) (p : Num') (hk : l[k]? = some p) : recs (l.take (k + 1)) = recs (l.take k) ++ be p.1.toNat p.2 := by
  rw [List.take_add_one, hk]
  simp [recs]
theorem recs_len : ∀ l : List Num', (∀ p ∈ l, okN p = true) → (recs l).length ≤ 8 * l.length
  | [], _ => by simp [recs]
  | p :: l, h => by
    have h1 := recs_len l fun q hq => h q (by simp [hq])
    have h2 := (okN_iff p).1 (h p (by simp))
    simp only [recs, List.flatMap_cons, List.length_append, be_length, List.length_cons] at h1 ⊢
    omega

/-- the widths' sum -/
def tot (ws : List Int) : Nat := (ws.map Int.toNat).sum
/-- the numbers with which some bytes begin -/
def nums : List UInt8 → List Int → List Nat
  | _, [] => []
  | bs, n :: ws => valB (bs.take n.toNat) :: nums (bs.drop n.toNat) ws
def unpCode (ws : List Int) (n : Nat) : Int := if ws.all okW then (if n < tot ws then 2 else 0) else 1
theorem tot_nil : tot [] = 0 := rfl
theorem tot_cons (n : Int) (ws : List Int) : tot (n :: ws) = n.toNat + tot ws := by simp [tot]
theorem tot_snoc (ws : List Int) (k : Nat) (n : Int) (hk : ws[k]? = some n) : tot (ws.take (k + 1)) = tot (ws.take k) + n.toNat := by
  rw [List.take_add_one, hk]; simp [tot]
theorem tot_append (a b : List Int) : tot (a ++ b) = tot a + tot b := by simp [tot]
theorem tot_take_le (ws : List Int) (k : Nat) : tot (ws.take k) ≤ tot ws := by
  conv => rhs; rw [← List.take_append_drop k ws]
  rw [tot_append]; omega
theorem tot_bound : ∀ ws : List Int, (∀ n ∈ ws, okW n = true) → tot ws ≤ 8 * ws.length
  | [], _ => by simp [tot]
  | n :: ws, h => by
    have h1 := tot_bound ws fun q hq => h q (by simp [hq])
    have h2 := (okW_iff n).1 (h n (by simp))
    rw [tot_cons, List.length_cons]; omega
theorem nums_length : ∀ (bs : List UInt8) (ws : List Int), (nums bs ws).length = ws.length
  | _, [] => rfl
  | bs, n :: ws => by simp [nums, nums_length _ ws]
theorem nums_append : ∀ (bs : List UInt8) (a b : List Int), nums bs (a ++ b) = nums bs a ++ nums (bs.drop (tot a)) b
  | bs, [], b => by simp [nums, tot]
  | bs, n :: a, b => by
    rw [List.cons_append, nums, nums, nums_append _ a b, tot_cons, List.drop_drop]; rfl
theorem nums_snoc (bs : List UInt8) (ws : List Int) (k : Nat) (n : Int) (hk : ws[k]? = some n) :
    nums bs (ws.take (k + 1)) = nums bs (ws.take k) ++ [valB ((bs.drop (tot (ws.take k))).take n.toNat)] := by
  rw [List.take_add_one, hk, nums_append]; rfl

theorem nums_get : ∀ (bs : List UInt8) (ws : List Int) (k : Nat) (x : Int), ws[k]? = some x → (nums bs ws)[k]? = some (valB ((bs.drop (tot (ws.take k))).take x.toNat))
  | bs, [], k, x, h => by simp at h
  | bs, n :: ws, 0, x, h => by
    simp at h; subst h
    simp [nums, tot]
  | bs, n :: ws, k + 1, x, h => by
    have := nums_get (bs.drop n.toNat) ws k x (by simpa using h)
    simp only [nums, List.getElem?_cons_succ, this, List.take_succ_cons, tot_cons, List.drop_drop]
theorem unpCode_zero (ws : List Int) (n : Nat) : unpCode ws n = 0 ↔ ws.all okW = true ∧ tot ws ≤ n := by
  unfold unpCode
  by_cases h : ws.all okW = true
  · by_cases h2 : n < tot ws
    · simp only [h, if_true, h2]; simp; omega
    · simp only [h, if_true, h2, if_false]; simp; omega
  · simp [h]
/-- the numbers that Unpack answers, none with an error -/
def unpVals (bs : List UInt8) (ws : List Int) : List Nat := if unpCode ws bs.length = 0 then nums bs ws else []
theorem be_valB_take (w v : Nat) (h : v < 256 ^ w) (rest : List UInt8) : valB ((be w v ++ rest).take w) = v := by
  rw [List.take_append_of_le_length (by rw [be_length]; exact Nat.le_refl _), List.take_of_length_le (by rw [be_length]; exact Nat.le_refl _), valB_be, Nat.mod_eq_of_lt h]
theorem nums_recs : ∀ (l : List Num') (rest : List UInt8), (∀ p ∈ l, okN p = true) → nums (recs l ++ rest) (l.map (·.1)) = l.map (·.2)
  | [], _, _ => rfl
  | p :: l, rest, h => by
    have hp := (okN_iff p).1 (h p (by simp))
    have e : recs (p :: l) ++ rest = be p.1.toNat p.2 ++ (recs l ++ rest) := by simp [recs]
    rw [e, List.map_cons, List.map_cons, nums, be_valB_take _ _ hp.2]
    congr 1
    rw [List.drop_append_of_le_length (by rw [be_length]; exact Nat.le_refl _), List.drop_of_length_le (by rw [be_length]; exact Nat.le_refl _), List.nil_append]
    exact nums_recs l rest fun q hq => h q (by simp [hq])
theorem tot_recs : ∀ (l : List Num'), tot (l.map (·.1)) = (recs l).length
  | [] => rfl
  | p :: l => by
    have := tot_recs l
    rw [List.map_cons, tot_cons, this]
    simp [recs, be_length]
theorem all_okW (l : List Num') (h : ∀ p ∈ l, okN p = true) : (l.map (·.1)).all okW = true := by
  rw [List.all_map, List.all_eq_true]
  intro p hp
  have := h p hp
  simp only [okN, Bool.and_eq_true] at this
  exact this.1
/-- two records of the same widths are the same just if their numbers are -/
theorem recs_inj : ∀ (a b : List Num'), a.map (·.1) = b.map (·.1) → (∀ p ∈ a, okN p = true) → (∀ p ∈ b, okN p = true) → recs a = recs b → a.map (·.2) = b.map (·.2)
  | [], [], _, _, _, _ => rfl
  | [], _ :: _, h, _, _, _ => by simp at h
  | _ :: _, [], h, _, _, _ => by simp at h
  | p :: a, q :: b, h, ha, hb, e => by
    simp only [List.map_cons, List.cons.injEq] at h
    have hp := (okN_iff p).1 (ha p (by simp))
    have hq := (okN_iff q).1 (hb q (by simp))
    have e' : be p.1.toNat p.2 ++ recs a = be q.1.toNat q.2 ++ recs b := by simpa [recs] using e
    rw [h.1] at e' hp
    obtain ⟨e1, e2⟩ := List.append_inj e' (by rw [be_length, be_length])
    have hv := be_inj hp.2 hq.2 e1
    simp only [List.map_cons, hv]
    rw [recs_inj a b h.2 (fun r hr => ha r (by simp [hr])) (fun r hr => hb r (by simp [hr])) e2]

theorem lex_lt (P A B r t : Nat) (hr : r < P) (ht : t < P) : r + P * A < t + P * B ↔ A < B ∨ A = B ∧ r < t := by
  rcases Nat.lt_trichotomy A B with h | h | h
  · have h1 : P * (A + 1) ≤ P * B := Nat.mul_le_mul_left P h
    rw [Nat.mul_add] at h1
    constructor
    · intro _; exact .inl h
    · intro _; omega
  · subst h
    constructor
    · intro h; right; exact ⟨rfl, by omega⟩
    · rintro (h | ⟨_, h⟩) <;> omega
  · have h1 : P * (B + 1) ≤ P * A := Nat.mul_le_mul_left P h
    rw [Nat.mul_add] at h1
    constructor
    · intro h2; omega
    · rintro (h2 | ⟨h2, _⟩) <;> omega
/-- of two numbers of one width the less one's bytes come first -/
theorem less_be : ∀ n v x : Nat, Op.bytesLess (be n v) (be n x) = decide (v % 256 ^ n < x % 256 ^ n)
  | 0, v, x => by simp [be, Op.bytesLess, Nat.mod_one]
  | n + 1, v, x => by
    rw [be, be, Op.bytesLess, less_be n v x, Bool.eq_iff_iff]
    have hp : 0 < 256 ^ n := Nat.pow_pos (by omega)
    simp only [Bool.or_eq_true, Bool.and_eq_true, decide_eq_true_eq, beq_iff_eq, UInt8.lt_iff_toNat_lt, ← UInt8.toNat_inj, UInt8.toNat_ofNat']
    have e : ∀ y : Nat, y % 256 ^ (n + 1) = y % 256 ^ n + 256 ^ n * (y / 256 ^ n % 2 ^ 8) := fun y => by rw [Nat.pow_succ, Nat.mod_mul]
    rw [e v, e x, lex_lt _ _ _ _ _ (Nat.mod_lt _ hp) (Nat.mod_lt _ hp)]
theorem codeL_append : ∀ a b : List Num', codeL (a ++ b) = if codeL a = 0 then codeL b else codeL a
  | [], b => by simp [codeL]
  | p :: a, b => by
    have ih := codeL_append a b
    by_cases h : okN p = true
    · simp only [List.cons_append, codeL, h, if_true]; exact ih
    · have h0 : codeN p ≠ 0 := by
        intro h0
        have := (codeL_zero [p]).1 (by simp [codeL, h, h0]) p (by simp)
        exact h this
      simp [codeL, h, h0]
/-- the bytes that Pack answers, none with an error -/
def packB (l : List Num') : List UInt8 := if codeL l = 0 then recs l else []
theorem packB_len (l : List Num') : (packB l).length ≤ 8 * l.length := by
  unfold packB
  split
  · rename_i h
    exact recs_len l ((codeL_zero l).1 h)
  · simp
theorem pack1 (n : Int) (v : Nat) (h1 : 1 ≤ n) (h2 : n ≤ 8) (h : v < 256 ^ n.toNat) : codeL [(n, v)] = 0 ∧ recs [(n, v)] = be n.toNat v := by
  refine ⟨(codeL_zero _).2 fun p hp => ?_, by simp [recs]⟩
  simp at hp
  subst hp
  exact (okN_iff _).2 ⟨⟨h1, h2⟩, h⟩
/-- numbers with other values, as far as there are any -/
def swap : List Num' → List Nat → List Num'
  | [], _ => []
  | p :: l, [] => p :: swap l []
  | p :: l, v :: vs => (p.1, v) :: swap l vs
theorem swap_length : ∀ l vs, (swap l vs).length = l.length
  | [], _ => rfl
  | p :: l, [] => by simp [swap, swap_length l []]
  | p :: l, v :: vs => by simp [swap, swap_length l vs]
theorem swap_fst : ∀ l vs, (swap l vs).map (·.1) = l.map (·.1)
  | [], _ => rfl
  | p :: l, [] => by simp [swap, swap_fst l []]
  | p :: l, v :: vs => by simp [swap, swap_fst l vs]
theorem swap_get : ∀ (l : List Num') (vs : List Nat) (k : Nat) (p : Num'), l[k]? = some p → (swap l vs)[k]? = some (p.1, (vs[k]?).getD p.2)
  | [], _, k, p, h => by simp at h
  | q :: l, [], 0, p, h => by simp at h; subst h; rfl
  | q :: l, [], k + 1, p, h => by
    have := swap_get l [] k p (by simpa using h)
    simpa [swap] using this
  | q :: l, v :: vs, 0, p, h => by simp at h; subst h; rfl
  | q :: l, v :: vs, k + 1, p, h => by
    have := swap_get l vs k p (by simpa using h)
    simpa [swap] using this
theorem swap_bound {M : Nat} : ∀ (l : List Num') (vs : List Nat), (∀ p ∈ l, p.2 < M) → (∀ v ∈ vs, v < M) → ∀ p ∈ swap l vs, p.2 < M
  | [], _, _, _, p, hp => by simp [swap] at hp
  | q :: l, [], h, h', p, hp => by
    simp only [swap, List.mem_cons] at hp
    rcases hp with rfl | hp
    · exact h _ (by simp)
    · exact swap_bound l [] (fun r hr => h r (by simp [hr])) (by simp) p hp
  | q :: l, v :: vs, h, h', p, hp => by
    simp only [swap, List.mem_cons] at hp
    rcases hp with rfl | hp
    · exact h' _ (by simp)
    · exact swap_bound l vs (fun r hr => h r (by simp [hr])) (fun r hr => h' r (by simp [hr])) p hp
/-- as far as the first k: do the values agree? -/
def alikeTo (a b : List Num') (k : Nat) : Bool := (List.range k).all fun i => ((a.map (·.2)).getD i 0) == ((b.map (·.2)).getD i 0)
theorem alikeTo_succ (a b : List Num') (k : Nat) (p q : Num') (ha : a[k]? = some p) (hb : b[k]? = some q) : alikeTo a b (k + 1) = (alikeTo a b k && p.2 == q.2) := by
  simp [alikeTo, List.range_succ, ha, hb]
theorem alikeTo_all (a b : List Num') (h : a.length = b.length) : alikeTo a b a.length = true ↔ a.map (·.2) = b.map (·.2) := by
  unfold alikeTo
  rw [List.all_eq_true]
  constructor
  · intro hh
    apply List.ext_getElem (by simpa using h)
    intro i h1 h2
    have := hh i (by simpa using h1)
    simp only [beq_iff_eq, List.getD] at this
    rw [List.getElem?_eq_getElem h1, List.getElem?_eq_getElem h2] at this
    exact this
  · intro hh i _
    rw [hh]; simp
/-- a block that begins with some bytes -/
def fillB (bs : List UInt8) : List UInt8 := bs ++ List.replicate (128 - bs.length) 0
def clearB (bs : List UInt8) (x : Int) : Bool := decide (0 ≤ x) && decide (x ≤ bs.length) && (bs.drop x.toNat).all (· == 0)
/-- clear, as far as the first k bytes tell -/
def clearTo (bs : List UInt8) (x : Int) (k : Nat) : Bool := decide (0 ≤ x) && decide (x ≤ bs.length) && (List.range k).all fun j => decide ((j : Int) < x) || bs.getD j 0 == 0
theorem clearTo_zero (bs : List UInt8) (x : Int) : clearTo bs x 0 = (decide (0 ≤ x) && decide (x ≤ bs.length)) := by simp [clearTo]
theorem clearTo_succ (bs : List UInt8) (x : Int) (k : Nat) : clearTo bs x (k + 1) = (clearTo bs x k && (decide ((k : Int) < x) || bs.getD k 0 == 0)) := by
  simp [clearTo, List.range_succ, Bool.and_assoc]
theorem clearTo_all (bs : List UInt8) (x : Int) : clearTo bs x bs.length = clearB bs x := by
  unfold clearTo clearB
  by_cases h0 : 0 ≤ x
  · by_cases h1 : x ≤ bs.length
    · simp only [h0, h1, decide_true, Bool.true_and]
      obtain ⟨f, rfl⟩ := Int.eq_ofNat_of_zero_le h0
      rw [Bool.eq_iff_iff, List.all_eq_true, List.all_eq_true]
      constructor
      · intro h b hb
        obtain ⟨j, hj, rfl⟩ := List.mem_iff_getElem.1 hb
        have hj' : f + j < bs.length := by simpa [Nat.lt_sub_iff_add_lt, Nat.add_comm] using hj
        have := h (f + j) (by simpa using hj')
        have hnl : ¬ ((f : Int) + (j : Int) < (f : Int)) := by omega
        simpa [List.getD, List.getElem?_eq_getElem hj', hnl] using this
      · intro h j hj
        have hj' : j < bs.length := by simpa using hj
        by_cases hjf : j < f
        · simp [hjf]
        · have := h bs[j] (List.mem_iff_getElem.2 ⟨j - f, by simp; omega, by simp [show f + (j - f) = j from by omega]⟩)
          simpa [hjf, List.getD, List.getElem?_eq_getElem hj'] using this
    · simp [h1]
  · simp [h0]
theorem fillB_length (bs : List UInt8) (h : bs.length ≤ 128) : (fillB bs).length = 128 := by simp [fillB]; omega
theorem clearB_fill (bs : List UInt8) : clearB (fillB bs) bs.length = true := by
  simp [clearB, fillB]; omega
end Go.Proofs.Ytlenfocdhchphaa
