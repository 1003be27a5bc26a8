/-
  Paths in the order of their blocks; the nodes of the first blocks together; no program is named here.
-/
import Derived.Test.YtipeeidkfhddcaaDoorReachOn
namespace Go.Proofs.YtipeeidkfhddcaaDoor
set_option linter.unusedVariables false

/-- the first differing place is less -/
def ltB : List Int → List Int → Bool
  | x :: s, y :: t => decide (x < y) || (decide (x = y) && ltB s t)
  | _, _ => false
theorem ltB_trans : ∀ (p q r : List Int), ltB p q = true → ltB q r = true → ltB p r = true
  | [], _, _, h, _ => by simp [ltB] at h
  | _ :: _, [], _, h, _ => by simp [ltB] at h
  | _ :: _, _ :: _, [], _, h => by simp [ltB] at h
  | x :: s, y :: t, z :: u, h, h' => by
    simp only [ltB, Bool.or_eq_true, Bool.and_eq_true, decide_eq_true_eq] at h h' ⊢
    rcases h with h | ⟨h, g⟩
    · rcases h' with h' | ⟨h', _⟩
      · exact .inl (by omega)
      · exact .inl (by omega)
    · rcases h' with h' | ⟨h', g'⟩
      · exact .inl (by omega)
      · exact .inr ⟨by omega, ltB_trans s t u g g'⟩
theorem ltB_at : ∀ (p q : List Int) (k : Nat) (x y : Int), ltB p q = true → (∀ j, j < k → p[j]? = q[j]?) → p[k]? = some x → q[k]? = some y → x ≠ y → x < y
  | [], _, _, _, _, h, _, _, _, _ => by simp [ltB] at h
  | _ :: _, [], _, _, _, h, _, _, _, _ => by simp [ltB] at h
  | a :: s, b :: t, k, x, y, h, ha, hx, hy, hne => by
    simp only [ltB, Bool.or_eq_true, Bool.and_eq_true, decide_eq_true_eq] at h
    cases k with
    | zero =>
      simp at hx hy
      subst hx hy
      rcases h with h | ⟨h, _⟩
      · exact h
      · exact absurd h hne
    | succ k =>
      have h0 := ha 0 (by omega)
      simp at h0
      subst h0
      rcases h with h | ⟨_, h⟩
      · omega
      · exact ltB_at s t k x y h (fun j hj => by simpa using ha (j + 1) (by omega)) (by simpa using hx) (by simpa using hy) hne
theorem ltB_end : ∀ (p q : List Int) (k : Nat), (k = p.length ∨ k = q.length) → (∀ j, j < k → p[j]? = q[j]?) → ltB p q = false
  | [], _, _, _, _ => by simp [ltB]
  | _ :: _, [], _, _, _ => by simp [ltB]
  | a :: s, b :: t, k, h, ha => by
    cases k with
    | zero => simp at h
    | succ k =>
      have h0 := ha 0 (by omega)
      simp at h0
      subst h0
      have ih := ltB_end s t k (by simpa using h) (fun j hj => by simpa using ha (j + 1) (by omega))
      simp [ltB, ih]
set_option maxRecDepth 100000 in
theorem path_next : (List.range 3620).all (fun n => ltB (pathI n) (pathI (n + 1))) = true := by decide +kernel
theorem path_lt (a : Nat) : ∀ n, a + n + 1 < 3621 → ltB (pathI a) (pathI (a + n + 1)) = true
  | 0, h => List.all_eq_true.1 path_next a (List.mem_range.2 (by omega))
  | n + 1, h => ltB_trans _ _ _ (path_lt a n (by omega)) (List.all_eq_true.1 path_next (a + n + 1) (List.mem_range.2 (by omega)))
theorem path_less {a b : Nat} (h : a < b) (hb : b < 3621) : ltB (pathI a) (pathI b) = true := by
  obtain ⟨n, rfl⟩ : ∃ n, b = a + n + 1 := ⟨b - a - 1, by omega⟩
  exact path_lt a n hb
theorem path_diff {a b k : Nat} {x y : Int} (ha : a < 3621) (hb : b < 3621) (hag : ∀ j, j < k → (pathI a)[j]? = (pathI b)[j]?) (hx : (pathI a)[k]? = some x) (hy : (pathI b)[k]? = some y) (hne : x ≠ y) : decide (x < y) = decide (a < b) := by
  rcases (show a < b ∨ a = b ∨ b < a by omega) with h | h | h
  · have := ltB_at _ _ k x y (path_less h hb) hag hx hy hne
    rw [decide_eq_true this, decide_eq_true (by omega)]
  · subst h
    rw [hx] at hy
    cases hy
    exact absurd rfl hne
  · have := ltB_at _ _ k y x (path_less h ha) (fun j hj => (hag j hj).symm) hy hx (fun e => hne e.symm)
    rw [decide_eq_false (by omega), decide_eq_false (by omega)]
theorem path_same {a b k : Nat} (ha : a < 3621) (hb : b < 3621) (hag : ∀ j, j < k → (pathI a)[j]? = (pathI b)[j]?) (hk : k = (pathI a).length ∨ k = (pathI b).length) : decide (a < b) = false := by
  apply decide_eq_false
  intro h
  have h1 := path_less h hb
  rw [ltB_end _ _ k hk hag] at h1
  cases h1

/-- the first block behind a node -/
def fbN (m : Nat) : Nat := if m = 0 then 6 else if m = 1 then 21 else if m = 2 then 246 else if m < 18 then 21 + 15 * (m - 3) else if m < 33 then 246 + 225 * (m - 18) else 246 + 15 * (m - 33)
def onB (b m : Nat) : Bool := (List.range (pathI b).length).any fun j => decide (1 ≤ j) && decide (preN b j = m)
set_option maxRecDepth 100000 in
theorem fb_on : (List.range 256).all (fun b => (List.range (pathI b).length).all fun j => decide (j = 0) || decide (fbN (preN b j) ≤ b)) = true := by decide +kernel
set_option maxRecDepth 100000 in
theorem fb_is : (List.range 258).all (fun m => decide (256 ≤ fbN m) || onB (fbN m) m) = true := by decide +kernel
set_option maxRecDepth 100000 in
theorem fb_cnt : (List.range 256).all (fun b => decide (((List.range 258).filter fun m => decide (fbN m < b + 1)).length = ((List.range 258).filter fun m => decide (fbN m < b)).length + tz (pathI b).tail)) = true := by decide +kernel
theorem fb_le {b m : Nat} (hb : b < 256) (h : onB b m = true) : fbN m ≤ b := by
  obtain ⟨j, hj, h1⟩ := List.any_eq_true.1 h
  have h2 := List.all_eq_true.1 (List.all_eq_true.1 fb_on b (List.mem_range.2 hb)) j hj
  simp at h1 h2
  obtain ⟨h1, rfl⟩ := h1
  rcases h2 with h2 | h2
  · omega
  · exact h2
theorem onL_range : ∀ k, k ≤ 256 → ∀ m, m < 258 → onL (List.range k) m = decide (fbN m < k)
  | 0, _, m, _ => by simp [onL]
  | k + 1, hk, m, hm => by
    have ih := onL_range k (by omega) m hm
    rw [List.range_succ, onL_snoc, onP, ih]
    show (decide (fbN m < k) || onB k m) = _
    by_cases h : onB k m = true
    · have := fb_le (by omega) h
      rw [h, Bool.or_true, decide_eq_true (by omega)]
    · rw [Bool.eq_false_iff.2 h, Bool.or_false]
      have h2 := List.all_eq_true.1 fb_is m (List.mem_range.2 hm)
      simp only [Bool.or_eq_true, decide_eq_true_eq] at h2
      rcases (show fbN m < k ∨ fbN m = k ∨ k < fbN m by omega) with h3 | h3 | h3
      · rw [decide_eq_true h3, decide_eq_true (by omega)]
      · rcases h2 with h2 | h2
        · omega
        · rw [h3] at h2
          exact absurd h2 h
      · rw [decide_eq_false (by omega), decide_eq_false (by omega)]
theorem idx_cnt : ∀ k, k ≤ 256 → ((List.range 258).filter fun m => decide (fbN m < k)).length = ndsN k
  | 0, _ => by simp [ndsN]
  | k + 1, hk => by
    have h := List.all_eq_true.1 fb_cnt k (List.mem_range.2 (by omega))
    rw [decide_eq_true_eq] at h
    rw [h, idx_cnt k (by omega), ndsN]
theorem idx_len (k : Nat) (hk : k ≤ 256) : (idxF (onL (List.range k)) 258).length = ndsN k := by
  rw [idxF_congr (onL_range k hk), ← idx_cnt k hk, idxF, List.length_map]
end Go.Proofs.YtipeeidkfhddcaaDoor
