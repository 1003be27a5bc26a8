/-
  Runes and strays of octets, names, heads, the order of texts, folded texts: lists of octets; no program is named here.
-/
import Derived.Test.YtlenfocdhchphaaMath
namespace Go.Proofs.Ytlenfocdhchphaa
set_option linter.unusedVariables false
set_option maxRecDepth 100000

def octN (l : List UInt8) (k : Nat) : Nat := (l.getD k 0).toNat
def onN (l : List UInt8) (k : Nat) : Bool := decide (128 ≤ octN l k ∧ octN l k < 192)
/-- the rune with which octets begin, how many octets it has; none: a stray -/
def runeN (l : List UInt8) : Option (Nat × Nat) :=
  if octN l 0 < 128 then some (octN l 0, 1)
  else if 192 ≤ octN l 0 ∧ octN l 0 < 224 ∧ onN l 1 = true then
    if 128 ≤ (octN l 0 - 192) * 64 + (octN l 1 - 128) then some ((octN l 0 - 192) * 64 + (octN l 1 - 128), 2) else none
  else if 224 ≤ octN l 0 ∧ octN l 0 < 240 ∧ onN l 1 = true ∧ onN l 2 = true then
    if 2048 ≤ (octN l 0 - 224) * 4096 + (octN l 1 - 128) * 64 + (octN l 2 - 128) ∧ ((octN l 0 - 224) * 4096 + (octN l 1 - 128) * 64 + (octN l 2 - 128) < 55296 ∨ 57343 < (octN l 0 - 224) * 4096 + (octN l 1 - 128) * 64 + (octN l 2 - 128)) then some ((octN l 0 - 224) * 4096 + (octN l 1 - 128) * 64 + (octN l 2 - 128), 3) else none
  else if 240 ≤ octN l 0 ∧ octN l 0 < 248 ∧ onN l 1 = true ∧ onN l 2 = true ∧ onN l 3 = true then
    if 65536 ≤ (octN l 0 - 240) * 262144 + (octN l 1 - 128) * 4096 + (octN l 2 - 128) * 64 + (octN l 3 - 128) ∧ (octN l 0 - 240) * 262144 + (octN l 1 - 128) * 4096 + (octN l 2 - 128) * 64 + (octN l 3 - 128) ≤ 1114111 then some ((octN l 0 - 240) * 262144 + (octN l 1 - 128) * 4096 + (octN l 2 - 128) * 64 + (octN l 3 - 128), 4) else none
  else none
/-- what a rune's octets are like -/
def Rn (l : List UInt8) (v n : Nat) : Prop :=
  (n = 1 ∧ octN l 0 < 128 ∧ v = octN l 0) ∨
  (n = 2 ∧ 192 ≤ octN l 0 ∧ octN l 0 < 224 ∧ onN l 1 = true ∧ v = (octN l 0 - 192) * 64 + (octN l 1 - 128) ∧ 128 ≤ v) ∨
  (n = 3 ∧ 224 ≤ octN l 0 ∧ octN l 0 < 240 ∧ onN l 1 = true ∧ onN l 2 = true ∧ v = (octN l 0 - 224) * 4096 + (octN l 1 - 128) * 64 + (octN l 2 - 128) ∧ 2048 ≤ v ∧ (v < 55296 ∨ 57343 < v)) ∨
  (n = 4 ∧ 240 ≤ octN l 0 ∧ octN l 0 < 248 ∧ onN l 1 = true ∧ onN l 2 = true ∧ onN l 3 = true ∧ v = (octN l 0 - 240) * 262144 + (octN l 1 - 128) * 4096 + (octN l 2 - 128) * 64 + (octN l 3 - 128) ∧ 65536 ≤ v ∧ v ≤ 1114111)
theorem rune_iff (l : List UInt8) (v n : Nat) : runeN l = some (v, n) ↔ Rn l v n := by
  unfold runeN Rn
  by_cases h1 : octN l 0 < 128
  · rw [if_pos h1]
    constructor
    · intro h; cases h; exact .inl ⟨rfl, h1, rfl⟩
    · rintro (⟨rfl, _, rfl⟩ | ⟨_, h, _⟩ | ⟨_, h, _⟩ | ⟨_, h, _⟩)
      · rfl
      all_goals omega
  · rw [if_neg h1]
    by_cases h2 : 192 ≤ octN l 0 ∧ octN l 0 < 224 ∧ onN l 1 = true
    · rw [if_pos h2]
      by_cases h3 : 128 ≤ (octN l 0 - 192) * 64 + (octN l 1 - 128)
      · rw [if_pos h3]
        constructor
        · intro h; cases h; exact .inr (.inl ⟨rfl, h2.1, h2.2.1, h2.2.2, rfl, h3⟩)
        · rintro (⟨_, h, _⟩ | ⟨rfl, _, _, _, rfl, _⟩ | ⟨_, h, _⟩ | ⟨_, h, _⟩)
          · omega
          · rfl
          all_goals omega
      · rw [if_neg h3]
        constructor
        · intro h; cases h
        · rintro (⟨_, h, _⟩ | ⟨_, _, _, _, rfl, h⟩ | ⟨_, h, _⟩ | ⟨_, h, _⟩) <;> omega
    · rw [if_neg h2]
      by_cases h4 : 224 ≤ octN l 0 ∧ octN l 0 < 240 ∧ onN l 1 = true ∧ onN l 2 = true
      · rw [if_pos h4]
        split
        · rename_i h5
          constructor
          · intro h; cases h; exact .inr (.inr (.inl ⟨rfl, h4.1, h4.2.1, h4.2.2.1, h4.2.2.2, rfl, h5.1, h5.2⟩))
          · rintro (⟨_, h, _⟩ | ⟨_, _, h, _⟩ | ⟨rfl, _, _, _, _, rfl, _⟩ | ⟨_, h, _⟩)
            · omega
            · omega
            · rfl
            · omega
        · rename_i h5
          constructor
          · intro h; cases h
          · rintro (⟨_, h, _⟩ | ⟨_, _, h, _⟩ | ⟨_, _, _, _, _, rfl, h, h'⟩ | ⟨_, h, _⟩)
            · omega
            · omega
            · exact absurd ⟨h, h'⟩ h5
            · omega
      · rw [if_neg h4]
        by_cases h6 : 240 ≤ octN l 0 ∧ octN l 0 < 248 ∧ onN l 1 = true ∧ onN l 2 = true ∧ onN l 3 = true
        · rw [if_pos h6]
          split
          · rename_i h7
            constructor
            · intro h; cases h; exact .inr (.inr (.inr ⟨rfl, h6.1, h6.2.1, h6.2.2.1, h6.2.2.2.1, h6.2.2.2.2, rfl, h7.1, h7.2⟩))
            · rintro (⟨_, h, _⟩ | ⟨_, _, h, _⟩ | ⟨_, _, h, _⟩ | ⟨rfl, _, _, _, _, _, rfl, _, _⟩)
              · omega
              · omega
              · omega
              · rfl
          · rename_i h7
            constructor
            · intro h; cases h
            · rintro (⟨_, h, _⟩ | ⟨_, _, h, _⟩ | ⟨_, _, h, _⟩ | ⟨_, _, _, _, _, _, rfl, h, h'⟩)
              · omega
              · omega
              · omega
              · exact absurd ⟨h, h'⟩ h7
        · rw [if_neg h6]
          constructor
          · intro h; cases h
          · rintro (⟨_, h, _⟩ | ⟨_, a, b, c, _⟩ | ⟨_, a, b, c, d, _⟩ | ⟨_, a, b, c, d, e, _⟩)
            · omega
            · exact absurd ⟨a, b, c⟩ h2
            · exact absurd ⟨a, b, c, d⟩ h4
            · exact absurd ⟨a, b, c, d, e⟩ h6
theorem on_lt {l : List UInt8} {k : Nat} (h : onN l k = true) : k < l.length := by
  rcases Nat.lt_or_ge k l.length with h' | h'
  · exact h'
  · unfold onN octN at h
    rw [List.getD, List.getElem?_eq_none h'] at h
    simp at h
theorem on_is {l : List UInt8} {k : Nat} (h : onN l k = true) : 128 ≤ octN l k ∧ octN l k < 192 := by simpa [onN] using h
theorem Rn.width {l : List UInt8} {v n : Nat} (h : Rn l v n) (hl : l ≠ []) : 1 ≤ n ∧ n ≤ 4 ∧ n ≤ l.length := by
  have : 0 < l.length := List.length_pos_iff.2 hl
  rcases h with ⟨rfl, _⟩ | ⟨rfl, _, _, h1, _⟩ | ⟨rfl, _, _, h1, h2, _⟩ | ⟨rfl, _, _, h1, h2, h3, _⟩
  · omega
  · have := on_lt h1; omega
  · have := on_lt h2; omega
  · have := on_lt h3; omega
theorem oct_take {l : List UInt8} {m k : Nat} (h : k < m) : octN (l.take m) k = octN l k := by
  unfold octN
  rw [List.getD, List.getD, List.getElem?_take_of_lt h]
theorem on_take {l : List UInt8} {m k : Nat} (h : k < m) : onN (l.take m) k = onN l k := by unfold onN; rw [oct_take h]
theorem on_cut {l : List UInt8} {m k : Nat} (h : onN (l.take m) k = true) : k < m ∧ onN l k = true := by
  have h1 := on_lt h
  rw [List.length_take] at h1
  have h2 : k < m := by omega
  exact ⟨h2, by rwa [on_take h2] at h⟩
/-- a rune is told by its own octets -/
theorem Rn.take {l : List UInt8} {v n : Nat} (m : Nat) (hm : n ≤ m) (h : Rn l v n) (h1 : 1 ≤ n) : Rn (l.take m) v n := by
  rcases h with ⟨rfl, a, b⟩ | ⟨rfl, a, b, c, d⟩ | ⟨rfl, a, b, c, d, e⟩ | ⟨rfl, a, b, c, d, e, f⟩
  · exact .inl ⟨rfl, by rwa [oct_take (by omega)], by rwa [oct_take (by omega)]⟩
  · exact .inr (.inl ⟨rfl, by rwa [oct_take (by omega)], by rwa [oct_take (by omega)], by rwa [on_take (by omega)], by rwa [oct_take (by omega), oct_take (by omega)]⟩)
  · exact .inr (.inr (.inl ⟨rfl, by rwa [oct_take (by omega)], by rwa [oct_take (by omega)], by rwa [on_take (by omega)], by rwa [on_take (by omega)], by rwa [oct_take (by omega), oct_take (by omega), oct_take (by omega)]⟩))
  · exact .inr (.inr (.inr ⟨rfl, by rwa [oct_take (by omega)], by rwa [oct_take (by omega)], by rwa [on_take (by omega)], by rwa [on_take (by omega)], by rwa [on_take (by omega)], by rwa [oct_take (by omega), oct_take (by omega), oct_take (by omega), oct_take (by omega)]⟩))
theorem Rn.untake {l : List UInt8} {v n : Nat} (m : Nat) (hm : 1 ≤ m) (h : Rn (l.take m) v n) : Rn l v n := by
  rcases h with ⟨rfl, a, b⟩ | ⟨rfl, a, b, c, d⟩ | ⟨rfl, a, b, c, d, e⟩ | ⟨rfl, a, b, c, d, e, f⟩
  · rw [oct_take (by omega)] at a b
    exact .inl ⟨rfl, a, b⟩
  · obtain ⟨h1, c⟩ := on_cut c
    rw [oct_take (by omega)] at a b
    rw [oct_take (by omega), oct_take (by omega)] at d
    exact .inr (.inl ⟨rfl, a, b, c, d⟩)
  · obtain ⟨h1, c⟩ := on_cut c
    obtain ⟨h2, d⟩ := on_cut d
    rw [oct_take (by omega)] at a b
    rw [oct_take (by omega), oct_take (by omega), oct_take (by omega)] at e
    exact .inr (.inr (.inl ⟨rfl, a, b, c, d, e⟩))
  · obtain ⟨h1, c⟩ := on_cut c
    obtain ⟨h2, d⟩ := on_cut d
    obtain ⟨h3, e⟩ := on_cut e
    rw [oct_take (by omega)] at a b
    rw [oct_take (by omega), oct_take (by omega), oct_take (by omega), oct_take (by omega)] at f
    exact .inr (.inr (.inr ⟨rfl, a, b, c, d, e, f⟩))

/-- one of a text: its value (-1: a stray), its octets -/
structure Tk where
  v : Int
  s : List UInt8
  odd : Bool
  deriving DecidableEq
def widN (l : List UInt8) : Nat := match runeN l with | some (_, n) => n | none => 1
def tkOf (l : List UInt8) : Tk := match runeN l with | some (v, n) => ⟨(v : Int), l.take n, false⟩ | none => ⟨-1, l.take 1, true⟩
theorem wid_le {l : List UInt8} (hl : l ≠ []) : 1 ≤ widN l ∧ widN l ≤ 4 ∧ widN l ≤ l.length := by
  unfold widN
  cases h : runeN l with
  | none =>
    have := List.length_pos_iff.2 hl
    show 1 ≤ 1 ∧ 1 ≤ 4 ∧ 1 ≤ l.length
    omega
  | some p => exact ((rune_iff l p.1 p.2).1 h).width hl
def toks (l : List UInt8) : List Tk := if h : l = [] then [] else tkOf l :: toks (l.drop (widN l))
  termination_by l.length
  decreasing_by
    have h1 := wid_le h
    have := List.length_pos_iff.2 h
    simp only [List.length_drop]
    omega
theorem toks_nil : toks [] = [] := by rw [toks]; rfl
theorem toks_cons {l : List UInt8} (h : l ≠ []) : toks l = tkOf l :: toks (l.drop (widN l)) := by rw [toks, dif_neg h]
theorem tk_s {l : List UInt8} : (tkOf l).s = l.take (widN l) := by unfold tkOf widN; cases runeN l <;> rfl
theorem tk_len {l : List UInt8} (h : l ≠ []) : (tkOf l).s.length = widN l := by rw [tk_s, List.length_take]; have := wid_le h; omega
def joinT (x : List Tk) : List UInt8 := x.flatMap (·.s)
theorem joinT_cons (x : Tk) (l : List Tk) : joinT (x :: l) = x.s ++ joinT l := rfl
theorem joinT_append (x y : List Tk) : joinT (x ++ y) = joinT x ++ joinT y := by simp [joinT]
theorem wid_congr {l m : List UInt8} (h : runeN l = runeN m) : widN l = widN m := by unfold widN; rw [h]
/-- induction by what a text begins with -/
theorem tok_ind {P : List UInt8 → Prop} (h0 : P []) (h1 : ∀ l, l ≠ [] → P (l.drop (widN l)) → P l) : ∀ l, P l := by
  intro l
  generalize hn : l.length = n
  induction n using Nat.strongRecOn generalizing l with
  | _ n ih =>
    by_cases h : l = []
    · subst h; exact h0
    · have h2 := wid_le h
      exact h1 l h (ih _ (by rw [List.length_drop]; omega) _ rfl)
theorem join_toks (l : List UInt8) : joinT (toks l) = l := by
  refine tok_ind (P := fun l => joinT (toks l) = l) (by rw [toks_nil]; rfl) (fun l h ih => ?_) l
  rw [toks_cons h, joinT_cons, ih, tk_s, List.take_append_drop]
/-- a rune that stands on its own octets -/
def Good (x : Tk) : Prop := x.odd = false ∧ ∃ v : Nat, x.v = (v : Int) ∧ x.s ≠ [] ∧ Rn x.s v x.s.length
theorem tk_good {l : List UInt8} (h : l ≠ []) (ho : (tkOf l).odd = false) : Good (tkOf l) := by
  refine ⟨ho, ?_⟩
  unfold tkOf at ho ⊢
  cases hr : runeN l with
  | none => rw [hr] at ho; cases ho
  | some p =>
    obtain ⟨v, n⟩ := p
    have hn := (rune_iff l v n).1 hr
    have hw := hn.width h
    have hlen : (l.take n).length = n := by rw [List.length_take]; omega
    refine ⟨v, rfl, fun e => ?_, ?_⟩
    · have e' : (l.take n).length = 0 := by rw [show l.take n = [] from e]; rfl
      omega
    · show Rn (l.take n) v (l.take n).length
      rw [hlen]
      exact hn.take n (Nat.le_refl _) hw.1
theorem oct_app {a b : List UInt8} {k : Nat} (h : k < a.length) : octN (a ++ b) k = octN a k := by
  unfold octN; rw [List.getD, List.getD, List.getElem?_append_left h]
theorem Good.head {x : Tk} (h : Good x) (r : List UInt8) : tkOf (x.s ++ r) = x ∧ widN (x.s ++ r) = x.s.length := by
  obtain ⟨ho, v, hv, hs, hr⟩ := h
  have hw := hr.width hs
  have h2 : Rn (x.s ++ r) v x.s.length := by
    have : Rn ((x.s ++ r).take x.s.length) v x.s.length := by rwa [List.take_left]
    exact this.untake _ (by omega)
  have h3 := (rune_iff _ _ _).2 h2
  unfold tkOf widN
  rw [h3]
  refine ⟨?_, rfl⟩
  simp only [List.take_left]
  obtain ⟨xv, xs, xo⟩ := x
  simp only at hv ho
  rw [hv, ho]
theorem toks_good {x : Tk} (h : Good x) (r : List UInt8) : toks (x.s ++ r) = x :: toks r := by
  obtain ⟨h1, h2⟩ := h.head r
  have hs : x.s ++ r ≠ [] := by
    obtain ⟨_, v, _, hs, _⟩ := h
    intro e
    exact hs (List.append_eq_nil_iff.1 e).1
  rw [toks_cons hs, h1, h2, List.drop_left]
theorem toks_join {X : List Tk} (h : ∀ x ∈ X, Good x) (r : List UInt8) : toks (joinT X ++ r) = X ++ toks r := by
  induction X with
  | nil => rfl
  | cons x X ih =>
    rw [joinT_cons, List.append_assoc, toks_good (h x (by simp)), ih fun y hy => h y (by simp [hy])]; rfl
theorem toks_good_of (l : List UInt8) : ∀ x ∈ toks l, x.odd = false → Good x := by
  refine tok_ind (P := fun l => ∀ x ∈ toks l, x.odd = false → Good x) (by rw [toks_nil]; intro x h; cases h) (fun l h ih => ?_) l
  rw [toks_cons h]
  intro x hx ho
  rcases List.mem_cons.1 hx with rfl | hx
  · exact tk_good h ho
  · exact ih x hx ho
/-- the first ones of a text, as a text of their own -/
theorem toks_take (k : Nat) : ∀ l : List UInt8, toks (joinT ((toks l).take k)) = (toks l).take k := by
  induction k with
  | zero => intro l; rw [List.take_zero]; exact toks_nil
  | succ k ih =>
    intro l
    by_cases h : l = []
    · subst h; rw [toks_nil]; exact toks_nil
    · rw [toks_cons h, List.take_succ_cons, joinT_cons]
      obtain ⟨R, hR⟩ : ∃ R, joinT ((toks (l.drop (widN l))).take k) = R := ⟨_, rfl⟩
      have h1 := ih (l.drop (widN l))
      rw [hR] at h1 ⊢
      have hpre : R = (l.drop (widN l)).take R.length := by
        have e : joinT ((toks (l.drop (widN l))).take k) ++ joinT ((toks (l.drop (widN l))).drop k) = l.drop (widN l) := by
          rw [← joinT_append, List.take_append_drop, join_toks]
        rw [hR] at e
        rw [← e, List.take_left]
      have hw := wid_le h
      have hM : (tkOf l).s ++ R = l.take (widN l + R.length) := by
        rw [tk_s, List.take_add, ← hpre]
      have hne : l.take (widN l + R.length) ≠ [] := fun e => by
        have := congrArg List.length e
        rw [List.length_take, List.length_nil] at this
        omega
      have hr : runeN (l.take (widN l + R.length)) = runeN l := by
        cases hl : runeN l with
        | some p =>
          obtain ⟨v, n⟩ := p
          have hn := (rune_iff l v n).1 hl
          have he : widN l = n := by unfold widN; rw [hl]
          exact (rune_iff _ _ _).2 (hn.take _ (by omega) (by omega))
        | none =>
          cases hl2 : runeN (l.take (widN l + R.length)) with
          | none => rfl
          | some p =>
            obtain ⟨v, n⟩ := p
            have := (rune_iff _ _ _).2 (((rune_iff _ v n).1 hl2).untake _ (by omega))
            rw [hl] at this; cases this
      have hwid : widN (l.take (widN l + R.length)) = widN l := wid_congr hr
      have htk : tkOf (l.take (widN l + R.length)) = tkOf l := by
        unfold tkOf
        rw [hr]
        cases hl : runeN l with
        | none =>
          have e1 : min 1 (widN l + R.length) = 1 := by omega
          simp only [List.take_take, e1]
        | some p =>
          have he : widN l = p.2 := by unfold widN; rw [hl]
          have e1 : min p.2 (widN l + R.length) = p.2 := by omega
          simp only [List.take_take, e1]
      rw [hM, toks_cons hne, htk, hwid]
      congr 1
      have : (l.take (widN l + R.length)).drop (widN l) = R := by
        rw [← hM, tk_s, List.drop_left' (by rw [List.length_take]; omega)]
      rw [this, h1]
end Go.Proofs.Ytlenfocdhchphaa
