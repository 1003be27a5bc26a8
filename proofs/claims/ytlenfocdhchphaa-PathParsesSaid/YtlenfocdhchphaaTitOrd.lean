/-
  The order of texts: by runes, where both are well formed, it is that of their octets; it is one. No program is named here.
-/
import Derived.Test.YtlenfocdhchphaaTitMath2
namespace Go.Proofs.Ytlenfocdhchphaa
set_option linter.unusedVariables false
set_option maxRecDepth 100000

/-- which of two lists comes first -/
def cmpL : List Int → List Int → Int
  | [], [] => 0
  | [], _ :: _ => -1
  | _ :: _, [] => 1
  | a :: l, b :: m => if a < b then -1 else if b < a then 1 else cmpL l m
def octI (l : List UInt8) : List Int := l.map fun c => (c.toNat : Int)
def runI (l : List UInt8) : List Int := (toks l).map (·.v)
def ordT (a b : List UInt8) : Int := if oddT a + oddT b = 0 then cmpL (runI a) (runI b) else cmpL (octI a) (octI b)
theorem cmp_self : ∀ l, cmpL l l = 0
  | [] => rfl
  | a :: l => by rw [cmpL, if_neg (by omega), if_neg (by omega)]; exact cmp_self l
theorem cmp_same (p : List Int) (l m : List Int) : cmpL (p ++ l) (p ++ m) = cmpL l m := by
  induction p with
  | nil => rfl
  | cons a p ih => rw [List.cons_append, List.cons_append, cmpL, if_neg (by omega), if_neg (by omega), ih]
theorem cmp_neg : ∀ l m, cmpL l m = -cmpL m l
  | [], [] => rfl
  | [], _ :: _ => rfl
  | _ :: _, [] => rfl
  | a :: l, b :: m => by
    rw [cmpL, cmpL]
    by_cases h1 : a < b
    · rw [if_pos h1, if_neg (by omega), if_pos h1]
    · by_cases h2 : b < a
      · rw [if_neg h1, if_pos h2, if_pos h2]; rfl
      · rw [if_neg h1, if_neg h2, if_neg h2, if_neg h1]; exact cmp_neg l m
theorem cmp_zero : ∀ l m, cmpL l m = 0 ↔ l = m
  | [], [] => by simp [cmpL]
  | [], _ :: _ => by simp [cmpL]
  | _ :: _, [] => by simp [cmpL]
  | a :: l, b :: m => by
    rw [cmpL]
    by_cases h1 : a < b
    · rw [if_pos h1]; constructor
      · intro h; cases h
      · intro h; injection h with h _; omega
    · by_cases h2 : b < a
      · rw [if_neg h1, if_pos h2]; constructor
        · intro h; cases h
        · intro h; injection h with h _; omega
      · rw [if_neg h1, if_neg h2, cmp_zero l m, List.cons.injEq]
        exact ⟨fun h => ⟨by omega, h⟩, fun h => h.2⟩
theorem cmp_range : ∀ l m, -1 ≤ cmpL l m ∧ cmpL l m ≤ 1
  | [], [] => by simp [cmpL]
  | [], _ :: _ => by simp [cmpL]
  | _ :: _, [] => by simp [cmpL]
  | a :: l, b :: m => by
    rw [cmpL]
    have := cmp_range l m
    split
    · omega
    · split <;> omega
theorem cmp_trans : ∀ l m n, cmpL l m ≤ 0 → cmpL m n ≤ 0 → cmpL l n ≤ 0
  | [], _, [], _, _ => by simp [cmpL]
  | [], _, _ :: _, _, _ => by simp [cmpL]
  | _ :: _, [], _, h, _ => by simp [cmpL] at h
  | _ :: _, _ :: _, [], _, h => by simp [cmpL] at h
  | a :: l, b :: m, c :: n, h1, h2 => by
    rw [cmpL] at h1 h2 ⊢
    by_cases a1 : a < b
    · by_cases b1 : b < c
      · rw [if_pos (by omega)]; omega
      · rw [if_neg b1] at h2
        by_cases b2 : c < b
        · rw [if_pos b2] at h2; omega
        · rw [if_pos (by omega)]; omega
    · rw [if_neg a1] at h1
      by_cases a2 : b < a
      · rw [if_pos a2] at h1; omega
      · rw [if_neg a2] at h1
        by_cases b1 : b < c
        · rw [if_pos (by omega)]; omega
        · rw [if_neg b1] at h2
          by_cases b2 : c < b
          · rw [if_pos b2] at h2; omega
          · rw [if_neg b2] at h2
            rw [if_neg (by omega), if_neg (by omega)]
            exact cmp_trans l m n h1 h2

/-! two runes -/
theorem octI_inj : ∀ {a b : List UInt8}, octI a = octI b → a = b
  | [], [], _ => rfl
  | [], _ :: _, h => by cases h
  | _ :: _, [], h => by cases h
  | a :: l, b :: m, h => by
    have h' : ((a.toNat : Int) :: octI l) = (b.toNat : Int) :: octI m := h
    injection h' with h1 h2
    rw [octI_inj h2, UInt8.toNat_inj.1 (show a.toNat = b.toNat by omega)]
theorem oct_all {l : List UInt8} {n : Nat} (h : l.length = n) : octI l = (List.range n).map fun k => (octN l k : Int) := by
  apply List.ext_getElem?
  intro i
  simp only [octI, List.getElem?_map]
  by_cases hi : i < n
  · rw [List.getElem?_range hi, List.getElem?_eq_getElem (by omega)]
    simp only [Option.map_some, octN, List.getD]
    rw [List.getElem?_eq_getElem (by omega)]; rfl
  · rw [List.getElem?_eq_none (by omega), List.getElem?_eq_none (by simp; omega)]; rfl
/-- the less rune's octets come first -/
theorem good_less {x y : Tk} (hx : Good x) (hy : Good y) (h : x.v < y.v) (r r' : List Int) : cmpL (octI x.s ++ r) (octI y.s ++ r') = -1 := by
  obtain ⟨_, v, hv, hs, hr⟩ := hx
  obtain ⟨_, u, hu, ht, hq⟩ := hy
  have hvu : v < u := by omega
  obtain ⟨n, hn⟩ : ∃ n, x.s.length = n := ⟨_, rfl⟩
  obtain ⟨m, hm⟩ : ∃ m, y.s.length = m := ⟨_, rfl⟩
  rw [hn] at hr
  rw [hm] at hq
  rw [oct_all hn, oct_all hm]
  rcases hr with ⟨rfl, a, rfl⟩ | ⟨rfl, a, b, c, d, e⟩ | ⟨rfl, a, b, c, d, e, f, g⟩ | ⟨rfl, a, b, c, d, e, f, g, i⟩
  all_goals
    rcases hq with ⟨rfl, a', rfl⟩ | ⟨rfl, a', b', c', d', e'⟩ | ⟨rfl, a', b', c', d', e', f', g'⟩ | ⟨rfl, a', b', c', d', e', f', g', i'⟩
  all_goals
    try (have q1 := on_is c)
    try (have q2 := on_is d)
    try (have q3 := on_is e)
    try (have p1 := on_is c')
    try (have p2 := on_is d')
    try (have p3 := on_is e')
    simp only [show List.range 1 = [0] from rfl, show List.range 2 = [0, 1] from rfl, show List.range 3 = [0, 1, 2] from rfl, show List.range 4 = [0, 1, 2, 3] from rfl, List.map_cons, List.map_nil, List.cons_append, List.nil_append, cmpL]
    repeat' split
    all_goals first | rfl | omega
theorem good_same {x y : Tk} (hx : Good x) (hy : Good y) (h : x.v = y.v) : x.s = y.s := by
  obtain ⟨_, v, hv, hs, hr⟩ := hx
  obtain ⟨_, u, hu, ht, hq⟩ := hy
  have hvu : v = u := by omega
  obtain ⟨n, hn⟩ : ∃ n, x.s.length = n := ⟨_, rfl⟩
  obtain ⟨m, hm⟩ : ∃ m, y.s.length = m := ⟨_, rfl⟩
  rw [hn] at hr
  rw [hm] at hq
  refine octI_inj ?_
  rw [oct_all hn, oct_all hm]
  rcases hr with ⟨rfl, a, b⟩ | ⟨rfl, a, b, c, d, e⟩ | ⟨rfl, a, b, c, d, e, f, g⟩ | ⟨rfl, a, b, c, d, e, f, g, i⟩
  all_goals
    rcases hq with ⟨rfl, a', b'⟩ | ⟨rfl, a', b', c', d', e'⟩ | ⟨rfl, a', b', c', d', e', f', g'⟩ | ⟨rfl, a', b', c', d', e', f', g', i'⟩
  all_goals
    try (have q1 := on_is c)
    try (have q2 := on_is d)
    try (have q3 := on_is e)
    try (have p1 := on_is c')
    try (have p2 := on_is d')
    try (have p3 := on_is e')
    first
    | (exfalso; omega)
    | (simp only [show List.range 1 = [0] from rfl, show List.range 2 = [0, 1] from rfl, show List.range 3 = [0, 1, 2] from rfl, show List.range 4 = [0, 1, 2, 3] from rfl, List.map_cons, List.map_nil, List.cons.injEq, and_true]
       omega)
/-- runes in order are octets in order -/
theorem cmp_runes (X Y : List Tk) (hX : ∀ x ∈ X, Good x) (hY : ∀ y ∈ Y, Good y) : cmpL (X.map (·.v)) (Y.map (·.v)) = cmpL (octI (joinT X)) (octI (joinT Y)) := by
  have happ : ∀ a b : List UInt8, octI (a ++ b) = octI a ++ octI b := fun a b => by simp [octI]
  have hne : ∀ x : Tk, Good x → ∃ c l, octI x.s = c :: l := fun x hx => by
    obtain ⟨_, v, _, hs, _⟩ := hx
    cases h : x.s with
    | nil => exact absurd h hs
    | cons c l => exact ⟨_, _, rfl⟩
  induction X generalizing Y with
  | nil =>
    cases Y with
    | nil => rfl
    | cons y Y =>
      obtain ⟨c, l, e⟩ := hne y (hY y (by simp))
      rw [joinT_cons, happ, e]; rfl
  | cons x X ih =>
    cases Y with
    | nil =>
      obtain ⟨c, l, e⟩ := hne x (hX x (by simp))
      rw [joinT_cons, happ, e]; rfl
    | cons y Y =>
      have gx := hX x (by simp)
      have gy := hY y (by simp)
      rw [List.map_cons, List.map_cons, joinT_cons, joinT_cons, happ, happ, cmpL]
      by_cases h1 : x.v < y.v
      · rw [if_pos h1, good_less gx gy h1]
      · by_cases h2 : y.v < x.v
        · rw [if_neg h1, if_pos h2, cmp_neg, good_less gy gx h2]; rfl
        · rw [if_neg h1, if_neg h2, good_same gx gy (by omega), cmp_same]
          exact ih Y (fun z hz => hX z (by simp [hz])) (fun z hz => hY z (by simp [hz]))
theorem ordT_oct (a b : List UInt8) : ordT a b = cmpL (octI a) (octI b) := by
  unfold ordT
  split
  · have := cmp_runes (toks a) (toks b) (good_all (by omega)) (good_all (by omega))
    rw [join_toks, join_toks] at this
    exact this
  · rfl
theorem ordT_neg (a b : List UInt8) : ordT a b = -ordT b a := by rw [ordT_oct, ordT_oct]; exact cmp_neg _ _
theorem ordT_zero (a b : List UInt8) : ordT a b = 0 ↔ a = b := by
  rw [ordT_oct, cmp_zero]
  exact ⟨octI_inj, fun h => by rw [h]⟩
theorem ordT_range (a b : List UInt8) : -1 ≤ ordT a b ∧ ordT a b ≤ 1 := by rw [ordT_oct]; exact cmp_range _ _
theorem ordT_trans (a b c : List UInt8) (h1 : ordT a b ≤ 0) (h2 : ordT b c ≤ 0) : ordT a c ≤ 0 := by
  rw [ordT_oct] at *
  exact cmp_trans _ _ _ h1 h2
/-- what a text begins with, case by case -/
theorem tk_rune {l : List UInt8} {v n : Nat} (h : Rn l v n) : tkOf l = ⟨(v : Int), l.take n, false⟩ := by unfold tkOf; rw [(rune_iff l v n).2 h]
theorem tk_odd {l : List UInt8} (h : ∀ v n, ¬ Rn l v n) : tkOf l = ⟨-1, l.take 1, true⟩ := by
  unfold tkOf
  cases e : runeN l with
  | none => rfl
  | some p => exact absurd ((rune_iff l p.1 p.2).1 e) (h _ _)
theorem tk_odd' {l : List UInt8} (h1 : 128 ≤ octN l 0) (h2 : 192 ≤ octN l 0 → octN l 0 < 224 → onN l 1 = true → (octN l 0 - 192) * 64 + (octN l 1 - 128) < 128)
    (h3 : 224 ≤ octN l 0 → octN l 0 < 240 → onN l 1 = true → onN l 2 = true → (octN l 0 - 224) * 4096 + (octN l 1 - 128) * 64 + (octN l 2 - 128) < 2048 ∨ (55296 ≤ (octN l 0 - 224) * 4096 + (octN l 1 - 128) * 64 + (octN l 2 - 128) ∧ (octN l 0 - 224) * 4096 + (octN l 1 - 128) * 64 + (octN l 2 - 128) ≤ 57343))
    (h4 : 240 ≤ octN l 0 → octN l 0 < 248 → onN l 1 = true → onN l 2 = true → onN l 3 = true → (octN l 0 - 240) * 262144 + (octN l 1 - 128) * 4096 + (octN l 2 - 128) * 64 + (octN l 3 - 128) < 65536 ∨ 1114111 < (octN l 0 - 240) * 262144 + (octN l 1 - 128) * 4096 + (octN l 2 - 128) * 64 + (octN l 3 - 128)) : tkOf l = ⟨-1, l.take 1, true⟩ := by
  refine tk_odd fun v n h => ?_
  rcases h with ⟨_, a, _⟩ | ⟨_, a, b, c, e, f⟩ | ⟨_, a, b, c, d, e, f, g⟩ | ⟨_, a, b, c, d, e, f, g, i⟩
  · omega
  · have := h2 a b c; omega
  · have := h3 a b c d; omega
  · have := h4 a b c d e; omega
theorem next_cases (l : List UInt8) :
    (octN l 0 < 128 ∧ tkOf l = ⟨((octN l 0 : Nat) : Int), l.take 1, false⟩) ∨
    (128 ≤ octN l 0 ∧ octN l 0 < 192 ∧ tkOf l = ⟨-1, l.take 1, true⟩) ∨
    (248 ≤ octN l 0 ∧ tkOf l = ⟨-1, l.take 1, true⟩) ∨
    (192 ≤ octN l 0 ∧ octN l 0 < 224 ∧ onN l 1 = false ∧ tkOf l = ⟨-1, l.take 1, true⟩) ∨
    (192 ≤ octN l 0 ∧ octN l 0 < 224 ∧ onN l 1 = true ∧ (octN l 0 - 192) * 64 + (octN l 1 - 128) < 128 ∧ tkOf l = ⟨-1, l.take 1, true⟩) ∨
    (192 ≤ octN l 0 ∧ octN l 0 < 224 ∧ onN l 1 = true ∧ 128 ≤ (octN l 0 - 192) * 64 + (octN l 1 - 128) ∧ tkOf l = ⟨(((octN l 0 - 192) * 64 + (octN l 1 - 128) : Nat) : Int), l.take 2, false⟩) ∨
    (224 ≤ octN l 0 ∧ octN l 0 < 240 ∧ onN l 1 = false ∧ tkOf l = ⟨-1, l.take 1, true⟩) ∨
    (224 ≤ octN l 0 ∧ octN l 0 < 240 ∧ onN l 1 = true ∧ onN l 2 = false ∧ tkOf l = ⟨-1, l.take 1, true⟩) ∨
    (224 ≤ octN l 0 ∧ octN l 0 < 240 ∧ onN l 1 = true ∧ onN l 2 = true ∧ (octN l 0 - 224) * 4096 + (octN l 1 - 128) * 64 + (octN l 2 - 128) < 2048 ∧ tkOf l = ⟨-1, l.take 1, true⟩) ∨
    (224 ≤ octN l 0 ∧ octN l 0 < 240 ∧ onN l 1 = true ∧ onN l 2 = true ∧ 2048 ≤ (octN l 0 - 224) * 4096 + (octN l 1 - 128) * 64 + (octN l 2 - 128) ∧ (octN l 0 - 224) * 4096 + (octN l 1 - 128) * 64 + (octN l 2 - 128) < 55296 ∧ tkOf l = ⟨(((octN l 0 - 224) * 4096 + (octN l 1 - 128) * 64 + (octN l 2 - 128) : Nat) : Int), l.take 3, false⟩) ∨
    (224 ≤ octN l 0 ∧ octN l 0 < 240 ∧ onN l 1 = true ∧ onN l 2 = true ∧ 55296 ≤ (octN l 0 - 224) * 4096 + (octN l 1 - 128) * 64 + (octN l 2 - 128) ∧ (octN l 0 - 224) * 4096 + (octN l 1 - 128) * 64 + (octN l 2 - 128) ≤ 57343 ∧ tkOf l = ⟨-1, l.take 1, true⟩) ∨
    (224 ≤ octN l 0 ∧ octN l 0 < 240 ∧ onN l 1 = true ∧ onN l 2 = true ∧ 57343 < (octN l 0 - 224) * 4096 + (octN l 1 - 128) * 64 + (octN l 2 - 128) ∧ tkOf l = ⟨(((octN l 0 - 224) * 4096 + (octN l 1 - 128) * 64 + (octN l 2 - 128) : Nat) : Int), l.take 3, false⟩) ∨
    (240 ≤ octN l 0 ∧ octN l 0 < 248 ∧ onN l 1 = false ∧ tkOf l = ⟨-1, l.take 1, true⟩) ∨
    (240 ≤ octN l 0 ∧ octN l 0 < 248 ∧ onN l 1 = true ∧ onN l 2 = false ∧ tkOf l = ⟨-1, l.take 1, true⟩) ∨
    (240 ≤ octN l 0 ∧ octN l 0 < 248 ∧ onN l 1 = true ∧ onN l 2 = true ∧ onN l 3 = false ∧ tkOf l = ⟨-1, l.take 1, true⟩) ∨
    (240 ≤ octN l 0 ∧ octN l 0 < 248 ∧ onN l 1 = true ∧ onN l 2 = true ∧ onN l 3 = true ∧ (octN l 0 - 240) * 262144 + (octN l 1 - 128) * 4096 + (octN l 2 - 128) * 64 + (octN l 3 - 128) < 65536 ∧ tkOf l = ⟨-1, l.take 1, true⟩) ∨
    (240 ≤ octN l 0 ∧ octN l 0 < 248 ∧ onN l 1 = true ∧ onN l 2 = true ∧ onN l 3 = true ∧ 65536 ≤ (octN l 0 - 240) * 262144 + (octN l 1 - 128) * 4096 + (octN l 2 - 128) * 64 + (octN l 3 - 128) ∧ (octN l 0 - 240) * 262144 + (octN l 1 - 128) * 4096 + (octN l 2 - 128) * 64 + (octN l 3 - 128) ≤ 1114111 ∧ tkOf l = ⟨(((octN l 0 - 240) * 262144 + (octN l 1 - 128) * 4096 + (octN l 2 - 128) * 64 + (octN l 3 - 128) : Nat) : Int), l.take 4, false⟩) ∨
    (240 ≤ octN l 0 ∧ octN l 0 < 248 ∧ onN l 1 = true ∧ onN l 2 = true ∧ onN l 3 = true ∧ 1114111 < (octN l 0 - 240) * 262144 + (octN l 1 - 128) * 4096 + (octN l 2 - 128) * 64 + (octN l 3 - 128) ∧ tkOf l = ⟨-1, l.take 1, true⟩) := by
  by_cases a1 : octN l 0 < 128
  · exact .inl ⟨a1, tk_rune (.inl ⟨rfl, a1, rfl⟩)⟩
  by_cases a2 : octN l 0 < 192
  · exact .inr (.inl ⟨by omega, a2, tk_odd' (by omega) (fun _ _ _ => by omega) (fun _ _ _ _ => by omega) (fun _ _ _ _ _ => by omega)⟩)
  by_cases a3 : 248 ≤ octN l 0
  · exact .inr (.inr (.inl ⟨a3, tk_odd' (by omega) (fun _ _ _ => by omega) (fun _ _ _ _ => by omega) (fun _ _ _ _ _ => by omega)⟩))
  by_cases a4 : octN l 0 < 224
  · cases b1 : onN l 1 with
    | false => exact .inr (.inr (.inr (.inl ⟨by omega, a4, rfl, tk_odd' (by omega) (fun _ _ h => by rw [b1] at h; cases h) (fun _ _ _ _ => by omega) (fun _ _ _ _ _ => by omega)⟩)))
    | true =>
      by_cases c1 : (octN l 0 - 192) * 64 + (octN l 1 - 128) < 128
      · exact .inr (.inr (.inr (.inr (.inl ⟨by omega, a4, rfl, c1, tk_odd' (by omega) (fun _ _ _ => c1) (fun _ _ _ _ => by omega) (fun _ _ _ _ _ => by omega)⟩))))
      · exact .inr (.inr (.inr (.inr (.inr (.inl ⟨by omega, a4, rfl, by omega, tk_rune (.inr (.inl ⟨rfl, by omega, a4, b1, rfl, by omega⟩))⟩)))))
  by_cases a5 : octN l 0 < 240
  · cases b1 : onN l 1 with
    | false => exact .inr (.inr (.inr (.inr (.inr (.inr (.inl ⟨by omega, a5, rfl, tk_odd' (by omega) (fun _ _ _ => by omega) (fun _ _ h _ => by rw [b1] at h; cases h) (fun _ _ _ _ _ => by omega)⟩))))))
    | true =>
      cases b2 : onN l 2 with
      | false => exact .inr (.inr (.inr (.inr (.inr (.inr (.inr (.inl ⟨by omega, a5, rfl, rfl, tk_odd' (by omega) (fun _ _ _ => by omega) (fun _ _ _ h => by rw [b2] at h; cases h) (fun _ _ _ _ _ => by omega)⟩)))))))
      | true =>
        by_cases c1 : (octN l 0 - 224) * 4096 + (octN l 1 - 128) * 64 + (octN l 2 - 128) < 2048
        · exact .inr (.inr (.inr (.inr (.inr (.inr (.inr (.inr (.inl ⟨by omega, a5, rfl, rfl, c1, tk_odd' (by omega) (fun _ _ _ => by omega) (fun _ _ _ _ => .inl c1) (fun _ _ _ _ _ => by omega)⟩))))))))
        by_cases c2 : (octN l 0 - 224) * 4096 + (octN l 1 - 128) * 64 + (octN l 2 - 128) < 55296
        · exact .inr (.inr (.inr (.inr (.inr (.inr (.inr (.inr (.inr (.inl ⟨by omega, a5, rfl, rfl, by omega, c2, tk_rune (.inr (.inr (.inl ⟨rfl, by omega, a5, b1, b2, rfl, by omega, .inl c2⟩)))⟩)))))))))
        by_cases c3 : (octN l 0 - 224) * 4096 + (octN l 1 - 128) * 64 + (octN l 2 - 128) ≤ 57343
        · exact .inr (.inr (.inr (.inr (.inr (.inr (.inr (.inr (.inr (.inr (.inl ⟨by omega, a5, rfl, rfl, by omega, c3, tk_odd' (by omega) (fun _ _ _ => by omega) (fun _ _ _ _ => .inr ⟨by omega, c3⟩) (fun _ _ _ _ _ => by omega)⟩))))))))))
        · exact .inr (.inr (.inr (.inr (.inr (.inr (.inr (.inr (.inr (.inr (.inr (.inl ⟨by omega, a5, rfl, rfl, by omega, tk_rune (.inr (.inr (.inl ⟨rfl, by omega, a5, b1, b2, rfl, by omega, .inr (by omega)⟩)))⟩)))))))))))
  have a6 : octN l 0 < 248 := by omega
  cases b1 : onN l 1 with
  | false => exact .inr (.inr (.inr (.inr (.inr (.inr (.inr (.inr (.inr (.inr (.inr (.inr (.inl ⟨by omega, a6, rfl, tk_odd' (by omega) (fun _ _ _ => by omega) (fun _ _ _ _ => by omega) (fun _ _ h _ _ => by rw [b1] at h; cases h)⟩))))))))))))
  | true =>
    cases b2 : onN l 2 with
    | false => exact .inr (.inr (.inr (.inr (.inr (.inr (.inr (.inr (.inr (.inr (.inr (.inr (.inr (.inl ⟨by omega, a6, rfl, rfl, tk_odd' (by omega) (fun _ _ _ => by omega) (fun _ _ _ _ => by omega) (fun _ _ _ h _ => by rw [b2] at h; cases h)⟩)))))))))))))
    | true =>
      cases b3 : onN l 3 with
      | false => exact .inr (.inr (.inr (.inr (.inr (.inr (.inr (.inr (.inr (.inr (.inr (.inr (.inr (.inr (.inl ⟨by omega, a6, rfl, rfl, rfl, tk_odd' (by omega) (fun _ _ _ => by omega) (fun _ _ _ _ => by omega) (fun _ _ _ _ h => by rw [b3] at h; cases h)⟩))))))))))))))
      | true =>
        by_cases c1 : (octN l 0 - 240) * 262144 + (octN l 1 - 128) * 4096 + (octN l 2 - 128) * 64 + (octN l 3 - 128) < 65536
        · exact .inr (.inr (.inr (.inr (.inr (.inr (.inr (.inr (.inr (.inr (.inr (.inr (.inr (.inr (.inr (.inl ⟨by omega, a6, rfl, rfl, rfl, c1, tk_odd' (by omega) (fun _ _ _ => by omega) (fun _ _ _ _ => by omega) (fun _ _ _ _ _ => .inl c1)⟩)))))))))))))))
        by_cases c2 : (octN l 0 - 240) * 262144 + (octN l 1 - 128) * 4096 + (octN l 2 - 128) * 64 + (octN l 3 - 128) ≤ 1114111
        · exact .inr (.inr (.inr (.inr (.inr (.inr (.inr (.inr (.inr (.inr (.inr (.inr (.inr (.inr (.inr (.inr (.inl ⟨by omega, a6, rfl, rfl, rfl, by omega, c2, tk_rune (.inr (.inr (.inr ⟨rfl, by omega, a6, b1, b2, b3, rfl, by omega, c2⟩)))⟩))))))))))))))))
        · exact .inr (.inr (.inr (.inr (.inr (.inr (.inr (.inr (.inr (.inr (.inr (.inr (.inr (.inr (.inr (.inr (.inr (⟨by omega, a6, rfl, rfl, rfl, by omega, tk_odd' (by omega) (fun _ _ _ => by omega) (fun _ _ _ _ => by omega) (fun _ _ _ _ _ => .inr (by omega))⟩)))))))))))))))))
end Go.Proofs.Ytlenfocdhchphaa
