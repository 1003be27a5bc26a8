/-
  Names, heads, what is made of any text, folded texts: lists of octets; no program is named here.
-/
import Derived.Test.YtlenfocdhchphaaTitMath
namespace Go.Proofs.Ytlenfocdhchphaa
set_option linter.unusedVariables false
set_option maxRecDepth 100000

def signT (x : Tk) : Bool := !x.odd && decide (32 ≤ x.v) && decide (x.v ≠ 127) && decide (x.v ≠ 47)
def isT (l : List UInt8) : Bool := (toks l).all signT && decide (1 ≤ l.length ∧ l.length ≤ 24 ∧ (toks l).length ≤ 16 ∧ l ≠ [46] ∧ l ≠ [46, 46])
/-- how many strays -/
def oddT (l : List UInt8) : Nat := (toks l).countP (·.odd)
def cntT (l : List UInt8) : Nat := (toks l).length - oddT l
def headT (l : List UInt8) (n : Int) : List UInt8 := joinT ((toks l).take n.toNat)
def cutL : List Tk → List UInt8 → Nat → List UInt8
  | [], out, _ => out
  | x :: l, out, n => if signT x = false then cutL l out n else if n = 16 ∨ 24 < out.length + x.s.length then out else cutL l (out ++ x.s) (n + 1)
def cutT (l : List UInt8) : List UInt8 := cutL (toks l) [] 0
def fitT (l : List UInt8) : List UInt8 := if isT (cutT l) then cutT l else cutT (120 :: cutT l)

theorem odd_le (l : List UInt8) : oddT l ≤ (toks l).length := List.countP_le_length
theorem cnt_odd (l : List UInt8) : cntT l + oddT l = (toks l).length := by have := odd_le l; unfold cntT; omega
theorem toks_len (l : List UInt8) : (toks l).length ≤ l.length := by
  refine tok_ind (P := fun l => (toks l).length ≤ l.length) (by rw [toks_nil]; exact Nat.le_refl _) (fun l h ih => ?_) l
  have hw := wid_le h
  rw [toks_cons h, List.length_cons]
  rw [List.length_drop] at ih
  omega
theorem sign_even {x : Tk} (h : signT x = true) : x.odd = false := by
  unfold signT at h
  cases ho : x.odd with
  | false => rfl
  | true => rw [ho] at h; simp at h

/-- what a cut leaves: runes that a name may have, not too many -/
theorem cutL_is (l : List Tk) : ∀ (X : List Tk), (∀ x ∈ X, signT x = true ∧ Good x) → (∀ x ∈ l, x.odd = false → Good x) → X.length ≤ 16 → (joinT X).length ≤ 24 →
    ∃ Y, cutL l (joinT X) X.length = joinT Y ∧ (∀ x ∈ Y, signT x = true ∧ Good x) ∧ Y.length ≤ 16 ∧ (joinT Y).length ≤ 24 := by
  induction l with
  | nil => intro X h1 _ h3 h4; exact ⟨X, rfl, h1, h3, h4⟩
  | cons x l ih =>
    intro X h1 h2 h3 h4
    rw [cutL]
    by_cases hs : signT x = false
    · rw [if_pos hs]
      exact ih X h1 (fun y hy => h2 y (by simp [hy])) h3 h4
    · rw [if_neg hs]
      split
      · exact ⟨X, rfl, h1, h3, h4⟩
      · rename_i hc
        have hs' : signT x = true := by simpa using hs
        have e : joinT X ++ x.s = joinT (X ++ [x]) := by rw [joinT_append]; simp [joinT]
        rw [e, show X.length + 1 = (X ++ [x]).length by simp]
        refine ih (X ++ [x]) (fun y hy => ?_) (fun y hy => h2 y (by simp [hy])) (by simp; omega) (by rw [← e, List.length_append]; omega)
        rcases List.mem_append.1 hy with hy | hy
        · exact h1 y hy
        · rw [List.mem_singleton.1 hy]; exact ⟨hs', h2 x (by simp) (sign_even hs')⟩
theorem cutT_is (l : List UInt8) : (toks (cutT l)).all signT = true ∧ (toks (cutT l)).length ≤ 16 ∧ (cutT l).length ≤ 24 := by
  obtain ⟨Y, h1, h2, h3, h4⟩ := cutL_is (toks l) [] (fun x hx => by cases hx) (toks_good_of l) (by simp) (by simp [joinT])
  have e : cutT l = joinT Y := h1
  have ht := toks_join (X := Y) (fun x hx => (h2 x hx).2) []
  rw [List.append_nil, toks_nil, List.append_nil] at ht
  rw [e, ht]
  exact ⟨List.all_eq_true.2 fun x hx => (h2 x hx).1, h3, h4⟩
theorem cutL_all (l : List Tk) : ∀ (out : List UInt8) (n : Nat), l.all signT = true → n + l.length ≤ 16 → (out ++ joinT l).length ≤ 24 → cutL l out n = out ++ joinT l := by
  induction l with
  | nil => intro out n _ _ _; simp [cutL, joinT]
  | cons x l ih =>
    intro out n h1 h2 h3
    rw [List.all_cons, Bool.and_eq_true] at h1
    rw [List.length_cons] at h2
    rw [joinT_cons, ← List.append_assoc] at h3 ⊢
    have h4 : (out ++ x.s).length ≤ 24 := by rw [List.length_append] at h3; omega
    rw [List.length_append] at h4
    rw [cutL, if_neg (by rw [h1.1]; decide), if_neg (by omega)]
    exact ih _ _ h1.2 (by omega) h3
theorem cutT_name {l : List UInt8} (h : isT l = true) : cutT l = l := by
  unfold isT at h
  rw [Bool.and_eq_true, decide_eq_true_eq] at h
  have := cutL_all (toks l) [] 0 h.1 (by omega) (by rw [List.nil_append, join_toks]; exact h.2.2.1)
  rw [List.nil_append, join_toks] at this
  exact this
theorem fitT_name {l : List UInt8} (h : isT l = true) : fitT l = l := by
  have e := cutT_name h
  unfold fitT
  rw [e, if_pos h]
theorem isT_x : isT [120] = true ∧ isT [120, 46] = true ∧ isT [120, 46, 46] = true := by
  have h : ∀ l : List UInt8, l = [120] ∨ l = [120, 46] ∨ l = [120, 46, 46] → isT l = true := by
    intro l hl
    have e1 : toks [46] = [⟨46, [46], false⟩] := by rw [toks_cons (by decide)]; rw [show ([46] : List UInt8).drop (widN [46]) = [] from by decide, toks_nil]; decide
    have e2 : toks [46, 46] = [⟨46, [46], false⟩, ⟨46, [46], false⟩] := by rw [toks_cons (by decide), show ([46, 46] : List UInt8).drop (widN [46, 46]) = [46] from by decide, e1]; decide
    have f1 : toks [120] = [⟨120, [120], false⟩] := by rw [toks_cons (by decide), show ([120] : List UInt8).drop (widN [120]) = [] from by decide, toks_nil]; decide
    have f2 : toks [120, 46] = [⟨120, [120], false⟩, ⟨46, [46], false⟩] := by rw [toks_cons (by decide), show ([120, 46] : List UInt8).drop (widN [120, 46]) = [46] from by decide, e1]; decide
    have f3 : toks [120, 46, 46] = [⟨120, [120], false⟩, ⟨46, [46], false⟩, ⟨46, [46], false⟩] := by rw [toks_cons (by decide), show ([120, 46, 46] : List UInt8).drop (widN [120, 46, 46]) = [46, 46] from by decide, e2]; decide
    rcases hl with rfl | rfl | rfl
    · unfold isT; rw [f1]; decide
    · unfold isT; rw [f2]; decide
    · unfold isT; rw [f3]; decide
  exact ⟨h _ (.inl rfl), h _ (.inr (.inl rfl)), h _ (.inr (.inr rfl))⟩
/-- what is made of any text is a name -/
theorem fitT_is (l : List UInt8) : isT (fitT l) = true := by
  unfold fitT
  by_cases h : isT (cutT l) = true
  · rw [if_pos h]; exact h
  · rw [if_neg h]
    obtain ⟨h1, h2, h3⟩ := cutT_is l
    have h4 : cutT l = [] ∨ cutT l = [46] ∨ cutT l = [46, 46] := by
      unfold isT at h
      rw [h1, Bool.true_and, decide_eq_true_eq] at h
      by_cases e0 : cutT l = []
      · exact .inl e0
      by_cases e1 : cutT l = [46]
      · exact .inr (.inl e1)
      by_cases e2 : cutT l = [46, 46]
      · exact .inr (.inr e2)
      have := List.length_pos_iff.2 e0
      exact absurd ⟨by omega, h3, h2, e1, e2⟩ h
    obtain ⟨x1, x2, x3⟩ := isT_x
    rcases h4 with e | e | e <;> rw [e]
    · rw [cutT_name x1]; exact x1
    · rw [cutT_name x2]; exact x2
    · rw [cutT_name x3]; exact x3
theorem fitT_twice (l : List UInt8) : fitT (fitT l) = fitT l := fitT_name (fitT_is l)
/-- heads -/
theorem headT_toks (l : List UInt8) (n : Int) : toks (headT l n) = (toks l).take n.toNat := toks_take _ l
theorem headT_pre (l : List UInt8) (n : Int) : ∃ r, headT l n ++ r = l := ⟨joinT ((toks l).drop n.toNat), by unfold headT; rw [← joinT_append, List.take_append_drop, join_toks]⟩
theorem odd_head (l : List UInt8) (n : Int) (h : oddT l = 0) : oddT (headT l n) = 0 := by
  unfold oddT at h ⊢
  rw [headT_toks]
  have := List.Sublist.countP_le (p := fun x : Tk => x.odd) (List.take_sublist n.toNat (toks l))
  omega
/-- well formed texts, one behind the other -/
theorem good_all {l : List UInt8} (h : oddT l = 0) : ∀ x ∈ toks l, Good x := fun x hx => by
  refine toks_good_of l x hx ?_
  cases ho : x.odd with
  | false => rfl
  | true =>
    have h2 : 0 < oddT l := List.countP_pos_iff.2 ⟨x, hx, ho⟩
    omega
theorem toks_two {s t : List UInt8} (h : oddT s = 0) : toks (s ++ t) = toks s ++ toks t := by
  have := toks_join (good_all h) t
  rwa [join_toks] at this
theorem odd_two {s t : List UInt8} (h : oddT s = 0) (h' : oddT t = 0) : oddT (s ++ t) = 0 ∧ cntT (s ++ t) = cntT s + cntT t ∧ headT (s ++ t) (cntT s : Nat) = s := by
  have e := toks_two (t := t) h
  have h1 : oddT (s ++ t) = 0 := by
    unfold oddT at h h' ⊢
    rw [e, List.countP_append]; omega
  refine ⟨h1, ?_, ?_⟩
  · have a1 := cnt_odd (s ++ t)
    have a2 := cnt_odd s
    have a3 := cnt_odd t
    rw [e, List.length_append] at a1
    omega
  · have a2 := cnt_odd s
    unfold headT
    rw [e, Int.toNat_natCast, List.take_append_of_le_length (by omega), List.take_of_length_le (by omega), join_toks]

/-! folded -/
def foldO (c : UInt8) : UInt8 := if 65 ≤ c.toNat ∧ c.toNat ≤ 90 then c + 32 else c
def foldT (l : List UInt8) : List UInt8 := l.map foldO
theorem foldO_nat (c : UInt8) : (foldO c).toNat = if 65 ≤ c.toNat ∧ c.toNat ≤ 90 then c.toNat + 32 else c.toNat := by
  unfold foldO
  split
  · rw [UInt8.toNat_add]
    have : (32 : UInt8).toNat = 32 := rfl
    omega
  · rfl
theorem foldO_twice (c : UInt8) : foldO (foldO c) = foldO c := by
  have h := foldO_nat c
  rw [foldO, if_neg]
  split at h <;> omega
theorem foldT_twice (l : List UInt8) : foldT (foldT l) = foldT l := by
  unfold foldT
  rw [List.map_map]
  exact List.map_congr_left fun c _ => foldO_twice c
theorem foldT_len (l : List UInt8) : (foldT l).length = l.length := by simp [foldT]
theorem oct_fold (l : List UInt8) (k : Nat) : octN (foldT l) k = if 65 ≤ octN l k ∧ octN l k ≤ 90 then octN l k + 32 else octN l k := by
  unfold octN foldT
  rw [List.getD, List.getD, List.getElem?_map]
  cases l[k]? with
  | none => rfl
  | some c => exact foldO_nat c
theorem oct_fold_big {l : List UInt8} {k : Nat} (h : 128 ≤ octN l k) : octN (foldT l) k = octN l k := by rw [oct_fold, if_neg (by omega)]
theorem on_fold (l : List UInt8) (k : Nat) : onN (foldT l) k = onN l k := by
  unfold onN
  rw [oct_fold]
  split
  · rw [decide_eq_false (by omega), decide_eq_false (by omega)]
  · rfl
def foldV (v : Int) : Int := if 65 ≤ v ∧ v ≤ 90 then v + 32 else v
theorem Rn.fold {l : List UInt8} {v n : Nat} (h : Rn l v n) : ∃ v' : Nat, Rn (foldT l) v' n ∧ (v' : Int) = foldV v := by
  rcases h with ⟨rfl, a, rfl⟩ | ⟨rfl, a, b, c, d, e⟩ | ⟨rfl, a, b, c, d, e, f⟩ | ⟨rfl, a, b, c, d, e, f, g⟩
  · refine ⟨octN (foldT l) 0, .inl ⟨rfl, ?_, rfl⟩, ?_⟩
    · rw [oct_fold]; split <;> omega
    · rw [oct_fold, foldV]; split <;> split <;> omega
  · have c' := on_is c
    exact ⟨v, .inr (.inl ⟨rfl, by rwa [oct_fold_big (by omega)], by rwa [oct_fold_big (by omega)], by rwa [on_fold], by rwa [oct_fold_big (by omega), oct_fold_big c'.1], e⟩), by rw [foldV, if_neg (by omega)]⟩
  · have c' := on_is c
    have d' := on_is d
    exact ⟨v, .inr (.inr (.inl ⟨rfl, by rwa [oct_fold_big (by omega)], by rwa [oct_fold_big (by omega)], by rwa [on_fold], by rwa [on_fold], by rwa [oct_fold_big (by omega), oct_fold_big c'.1, oct_fold_big d'.1], f⟩)), by rw [foldV, if_neg (by omega)]⟩
  · have c' := on_is c
    have d' := on_is d
    have e' := on_is e
    exact ⟨v, .inr (.inr (.inr ⟨rfl, by rwa [oct_fold_big (by omega)], by rwa [oct_fold_big (by omega)], by rwa [on_fold], by rwa [on_fold], by rwa [on_fold], by rwa [oct_fold_big (by omega), oct_fold_big c'.1, oct_fold_big d'.1, oct_fold_big e'.1], g⟩)), by rw [foldV, if_neg (by omega)]⟩
theorem Rn.unfold' {l : List UInt8} {v n : Nat} (h : Rn (foldT l) v n) : ∃ u : Nat, Rn l u n := by
  rcases h with ⟨rfl, a, b⟩ | ⟨rfl, a, b, c, d, e⟩ | ⟨rfl, a, b, c, d, e, f⟩ | ⟨rfl, a, b, c, d, e, f, g⟩
  · rw [oct_fold] at a
    exact ⟨octN l 0, .inl ⟨rfl, by split at a <;> omega, rfl⟩⟩
  · have h0 : octN (foldT l) 0 = octN l 0 := by have := oct_fold l 0; split at this <;> omega
    rw [on_fold] at c
    have c' := on_is c
    rw [h0] at a b
    rw [h0, oct_fold_big c'.1] at d
    exact ⟨v, .inr (.inl ⟨rfl, a, b, c, d, e⟩)⟩
  · have h0 : octN (foldT l) 0 = octN l 0 := by have := oct_fold l 0; split at this <;> omega
    rw [on_fold] at c d
    have c' := on_is c
    have d' := on_is d
    rw [h0] at a b
    rw [h0, oct_fold_big c'.1, oct_fold_big d'.1] at e
    exact ⟨v, .inr (.inr (.inl ⟨rfl, a, b, c, d, e, f⟩))⟩
  · have h0 : octN (foldT l) 0 = octN l 0 := by have := oct_fold l 0; split at this <;> omega
    rw [on_fold] at c d e
    have c' := on_is c
    have d' := on_is d
    have e' := on_is e
    rw [h0] at a b
    rw [h0, oct_fold_big c'.1, oct_fold_big d'.1, oct_fold_big e'.1] at f
    exact ⟨v, .inr (.inr (.inr ⟨rfl, a, b, c, d, e, f, g⟩))⟩
def foldK (x : Tk) : Tk := ⟨foldV x.v, foldT x.s, x.odd⟩
theorem fold_take (l : List UInt8) (n : Nat) : foldT (l.take n) = (foldT l).take n := by simp [foldT, List.map_take]
theorem fold_drop (l : List UInt8) (n : Nat) : foldT (l.drop n) = (foldT l).drop n := by simp [foldT, List.map_drop]
theorem tk_fold (l : List UInt8) : tkOf (foldT l) = foldK (tkOf l) ∧ widN (foldT l) = widN l := by
  cases h : runeN l with
  | some p =>
    obtain ⟨v, n⟩ := p
    obtain ⟨v', h1, h2⟩ := ((rune_iff l v n).1 h).fold
    have h3 := (rune_iff _ _ _).2 h1
    unfold tkOf widN foldK
    rw [h, h3]
    simp only [fold_take, h2]
    exact ⟨trivial, trivial⟩
  | none =>
    have h3 : runeN (foldT l) = none := by
      cases h4 : runeN (foldT l) with
      | none => rfl
      | some p =>
        obtain ⟨u, h5⟩ := ((rune_iff _ p.1 p.2).1 h4).unfold'
        have := (rune_iff _ _ _).2 h5
        rw [h] at this; cases this
    unfold tkOf widN foldK
    rw [h, h3]
    simp only [fold_take]
    exact ⟨by rw [foldV, if_neg (by omega)], trivial⟩
theorem toks_fold (l : List UInt8) : toks (foldT l) = (toks l).map foldK := by
  refine tok_ind (P := fun l => toks (foldT l) = (toks l).map foldK) (by rw [toks_nil]; exact toks_nil) (fun l h ih => ?_) l
  have hf : foldT l ≠ [] := fun e => h (List.map_eq_nil_iff.1 e)
  obtain ⟨h1, h2⟩ := tk_fold l
  rw [toks_cons hf, toks_cons h, h1, h2, ← fold_drop, ih, List.map_cons]
theorem odd_fold (l : List UInt8) : oddT (foldT l) = oddT l ∧ cntT (foldT l) = cntT l := by
  have h1 : oddT (foldT l) = oddT l := by
    unfold oddT
    rw [toks_fold, List.countP_map]; rfl
  refine ⟨h1, ?_⟩
  unfold cntT
  rw [h1, toks_fold, List.length_map]
theorem sign_fold (x : Tk) : signT (foldK x) = signT x := by
  unfold signT foldK foldV
  by_cases h : 65 ≤ x.v ∧ x.v ≤ 90
  · simp only [if_pos h]
    rw [decide_eq_true (show (32 : Int) ≤ x.v + 32 by omega), decide_eq_true (show x.v + 32 ≠ 127 by omega), decide_eq_true (show x.v + 32 ≠ 47 by omega), decide_eq_true (show (32 : Int) ≤ x.v by omega), decide_eq_true (show x.v ≠ 127 by omega), decide_eq_true (show x.v ≠ 47 by omega)]
  · simp only [if_neg h]
theorem fold_dots (l : List UInt8) (m : List UInt8) (hm : ∀ c ∈ m, c = 46) : foldT l = m ↔ l = m := by
  have h46 : ∀ c : UInt8, foldO c = 46 → c = 46 := fun c h => by
    have h1 := foldO_nat c
    rw [h] at h1
    have e : (46 : UInt8).toNat = 46 := rfl
    rw [e] at h1
    apply UInt8.toNat_inj.1
    rw [e]
    split at h1 <;> omega
  constructor
  · intro h
    apply List.ext_getElem?
    intro i
    have hi := congrArg (·[i]?) h
    simp only [foldT, List.getElem?_map] at hi
    cases hl : l[i]? with
    | none => rw [hl] at hi; exact hi
    | some c =>
      rw [hl, Option.map_some] at hi
      have hc := hm _ (List.mem_of_getElem? hi.symm)
      rw [← hi, hc, h46 c hc]
  · intro h
    subst h
    unfold foldT
    refine (List.map_congr_left fun c hc => ?_).trans (List.map_id _)
    rw [hm c hc]; rfl
theorem is_fold (l : List UInt8) : isT (foldT l) = isT l := by
  unfold isT
  have h1 : (toks (foldT l)).all signT = (toks l).all signT := by
    rw [toks_fold, List.all_map]
    exact List.all_congr rfl fun x => sign_fold x
  have h2 : foldT l ≠ [46] ↔ l ≠ [46] := not_congr (fold_dots l [46] (by simp))
  have h3 : foldT l ≠ [46, 46] ↔ l ≠ [46, 46] := not_congr (fold_dots l [46, 46] (by simp))
  rw [h1, foldT_len, toks_fold, List.length_map]
  congr 1
  exact decide_eq_decide.2 (by rw [h2, h3])
end Go.Proofs.Ytlenfocdhchphaa
