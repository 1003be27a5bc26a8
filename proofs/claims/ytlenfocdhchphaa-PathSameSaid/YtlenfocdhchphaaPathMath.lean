/-
  Paths over lists of octets: pieces, where they lead, paths of names; no program is named here.
-/
import Derived.Test.YtlenfocdhchphaaTitMath2
namespace Go.Proofs.Ytlenfocdhchphaa
set_option linter.unusedVariables false
set_option maxRecDepth 100000

/-- one octet more of a text that is cut at each 47 -/
def cutStep (L : List (List UInt8)) (c : UInt8) : List (List UInt8) := if c = 47 then L ++ [[]] else L.dropLast ++ [L.getLast?.getD [] ++ [c]]
def cutS (s : List UInt8) : List (List UInt8) := s.foldl cutStep [[]]
theorem cutStep_len (L : List (List UInt8)) (c : UInt8) (h : 1 ≤ L.length) : 1 ≤ (cutStep L c).length := by
  unfold cutStep
  split
  · rw [List.length_append]; omega
  · rw [List.length_append]; simp
theorem cutS_snoc (s : List UInt8) (c : UInt8) : cutS (s ++ [c]) = cutStep (cutS s) c := by unfold cutS; rw [List.foldl_append]; rfl
theorem cutStep_pre (M : List (List UInt8)) (x : List UInt8) (c : UInt8) : cutStep (M ++ [x]) c = M ++ cutStep [x] c := by
  unfold cutStep
  split
  · simp
  · rw [List.dropLast_concat]; simp
theorem foldl_pre : ∀ (s : List UInt8) (M : List (List UInt8)) (x : List UInt8), s.foldl cutStep (M ++ [x]) = M ++ s.foldl cutStep [x]
  | [], M, x => rfl
  | c :: s, M, x => by
    rw [List.foldl_cons, List.foldl_cons, cutStep_pre]
    by_cases h : c = 47
    · have e : cutStep [x] c = [x] ++ [[]] := by unfold cutStep; rw [if_pos h]
      rw [e, ← List.append_assoc, foldl_pre s (M ++ [x]) [], foldl_pre s [x] [], List.append_assoc]
    · have e : cutStep [x] c = [x ++ [c]] := by unfold cutStep; rw [if_neg h]; rfl
      rw [e, foldl_pre s M]
theorem foldl_plain : ∀ (s x : List UInt8), (∀ c ∈ s, c ≠ 47) → s.foldl cutStep [x] = [x ++ s]
  | [], x, _ => by simp
  | c :: s, x, h => by
    have e : cutStep [x] c = [x ++ [c]] := by unfold cutStep; rw [if_neg (h c (by simp))]; rfl
    rw [List.foldl_cons, e, foldl_plain s _ fun d hd => h d (by simp [hd]), List.append_assoc]; rfl
/-- pieces, each with a 47 ahead -/
def slashed (l : List (List UInt8)) : List UInt8 := l.flatMap fun x => 47 :: x
theorem slashed_cons (x : List UInt8) (l : List (List UInt8)) : slashed (x :: l) = 47 :: (x ++ slashed l) := rfl
theorem slashed_append (a b : List (List UInt8)) : slashed (a ++ b) = slashed a ++ slashed b := by simp [slashed]
theorem cutS_slashed : ∀ (l : List (List UInt8)) (x : List UInt8), (∀ y ∈ l, ∀ c ∈ y, c ≠ 47) → (slashed l).foldl cutStep [x] = x :: l
  | [], x, _ => rfl
  | y :: l, x, h => by
    have e : cutStep [x] 47 = [x] ++ [[]] := by unfold cutStep; rw [if_pos rfl]
    rw [slashed_cons, List.foldl_cons, e, foldl_pre, List.foldl_append, foldl_plain y [] (h y (by simp)), List.nil_append, cutS_slashed l y fun z hz => h z (by simp [hz])]; rfl

/-- where pieces lead: names, the error's number -/
def goP : List (List UInt8) → List (List UInt8) → List (List UInt8) × Int
  | [], out => (out, 0)
  | x :: l, out => if x = [] ∨ x = [46] then goP l out else if x = [46, 46] then goP l out.dropLast else if isT x = false then ([], 11) else if 8 ≤ out.length then ([], 16) else goP l (out ++ [x])
def parseP (s : List UInt8) : List (List UInt8) × Int := if s.head? ≠ some 47 then ([], 11) else if 200 < s.length then ([], 16) else goP (cutS s) []
def joinQ (l : List (List UInt8)) : Int := if l.any (fun x => !isT x) then 11 else if 8 < l.length then 16 else 0
def joinR (l : List (List UInt8)) : List UInt8 := if joinQ l = 0 then if l = [] then [47] else slashed l else []
def parQ (s : List UInt8) : Int := if (parseP s).2 ≠ 0 then (parseP s).2 else if (parseP s).1 = [] then 1 else 0
def parR (s : List UInt8) : List (List UInt8) := if parQ s = 0 then (parseP s).1.dropLast else []
def parX (s : List UInt8) : List UInt8 := if parQ s = 0 then (parseP s).1.getLast?.getD [] else []
def underB (l top : List (List UInt8)) : Bool := decide (top.length < l.length ∧ l.take top.length = top)

theorem goP_append : ∀ (a b out : List (List UInt8)), (goP a out).2 = 0 → goP (a ++ b) out = goP b (goP a out).1
  | [], b, out, _ => rfl
  | x :: a, b, out, h => by
    show goP (x :: (a ++ b)) out = _
    rw [goP] at h ⊢
    rw [goP]
    split at h
    · rename_i c
      rw [if_pos c, if_pos c]; exact goP_append a b _ h
    · rename_i c
      rw [if_neg c, if_neg c]
      split at h
      · rename_i c
        rw [if_pos c, if_pos c]; exact goP_append a b _ h
      · rename_i c
        rw [if_neg c, if_neg c]
        split at h
        · simp at h
        · rename_i c
          rw [if_neg c, if_neg c]
          split at h
          · simp at h
          · rename_i c
            rw [if_neg c, if_neg c]; exact goP_append a b _ h
/-- names' octets -/
theorem good_no47 {x : Tk} (h : Good x) (hs : signT x = true) : ∀ c ∈ x.s, c ≠ 47 := by
  intro c hc e
  subst e
  obtain ⟨ho, v, hv, hne, hr⟩ := h
  obtain ⟨k, hk, he⟩ := List.mem_iff_getElem.1 hc
  have hoct : octN x.s k = 47 := by unfold octN; rw [List.getD_eq_getElem?_getD, List.getElem?_eq_getElem hk, he]; rfl
  have hs' : ¬ x.v = 47 := by
    unfold signT at hs
    simp only [Bool.and_eq_true, decide_eq_true_eq] at hs
    exact hs.2
  obtain ⟨n, hn⟩ : ∃ n, x.s.length = n := ⟨_, rfl⟩
  rw [hn] at hr hk
  have o1 := @on_is x.s 1
  have o2 := @on_is x.s 2
  have o3 := @on_is x.s 3
  rcases hr with ⟨rfl, a, rfl⟩ | ⟨rfl, a, b, c, d, e⟩ | ⟨rfl, a, b, c, d, e, f, g⟩ | ⟨rfl, a, b, c, d, e, f, g, i⟩
  · obtain rfl : k = 0 := by omega
    omega
  · have := o1 c
    rcases (show k = 0 ∨ k = 1 by omega) with rfl | rfl <;> omega
  · have := o1 c; have := o2 d
    rcases (show k = 0 ∨ k = 1 ∨ k = 2 by omega) with rfl | rfl | rfl <;> omega
  · have := o1 c; have := o2 d; have := o3 e
    rcases (show k = 0 ∨ k = 1 ∨ k = 2 ∨ k = 3 by omega) with rfl | rfl | rfl | rfl <;> omega
theorem name_is {l : List UInt8} (h : isT l = true) : (∀ c ∈ l, c ≠ 47) ∧ l ≠ [] ∧ l ≠ [46] ∧ l ≠ [46, 46] ∧ l.length ≤ 24 := by
  have h' := h
  unfold isT at h
  rw [Bool.and_eq_true, List.all_eq_true, decide_eq_true_eq] at h
  obtain ⟨h1, h2, h3, h4, h5, h6⟩ := h
  refine ⟨fun c hc => ?_, fun e => by rw [e] at h2; simp at h2, h5, h6, h3⟩
  rw [← join_toks l] at hc
  obtain ⟨x, hx, hcx⟩ := List.mem_flatMap.1 hc
  exact good_no47 (toks_good_of l x hx (sign_even (h1 x hx))) (h1 x hx) c hcx
/-- names lead to themselves -/
theorem goP_names : ∀ (l out : List (List UInt8)), (∀ x ∈ l, isT x = true) → out.length + l.length ≤ 8 → goP l out = (out ++ l, 0)
  | [], out, _, _ => by simp [goP]
  | x :: l, out, h, h8 => by
    obtain ⟨_, n1, n2, n3, _⟩ := name_is (h x (by simp))
    simp only [List.length_cons] at h8
    rw [goP, if_neg (by rintro (h | h); exact n1 h; exact n2 h), if_neg n3, if_neg (by rw [h x (by simp)]; decide), if_neg (by omega),
      goP_names l _ (fun y hy => h y (by simp [hy])) (by rw [List.length_append, List.length_singleton]; omega), List.append_assoc]; rfl
theorem goP_skip (l out : List (List UInt8)) : goP ([] :: l) out = goP l out := by rw [goP, if_pos (.inl rfl)]
theorem slashed_head (l : List (List UInt8)) (h : l ≠ []) : (slashed l).head? = some 47 := by
  cases l with
  | nil => exact absurd rfl h
  | cons x l => rfl
theorem parse_slashed {l : List (List UInt8)} (h0 : l ≠ []) (h : ∀ x ∈ l, ∀ c ∈ x, c ≠ 47) (hl : (slashed l).length ≤ 200) : parseP (slashed l) = goP l [] := by
  unfold parseP
  rw [if_neg (by rw [slashed_head l h0]; simp), if_neg (by omega)]
  unfold cutS
  rw [cutS_slashed l [] h, goP_skip]
theorem parse_root : parseP [47] = ([], 0) := by decide
theorem joinQ_zero {l : List (List UInt8)} : joinQ l = 0 ↔ (∀ x ∈ l, isT x = true) ∧ l.length ≤ 8 := by
  unfold joinQ
  by_cases h : l.any (fun x => !isT x) = true
  · rw [if_pos h]
    refine ⟨fun e => (by cases e), fun ⟨h1, _⟩ => ?_⟩
    obtain ⟨x, hx, e⟩ := List.any_eq_true.1 h
    rw [h1 x hx] at e; cases e
  · rw [if_neg h]
    have h1 : ∀ x ∈ l, isT x = true := fun x hx => by
      cases e : isT x with
      | true => rfl
      | false => exact absurd (List.any_eq_true.2 ⟨x, hx, by rw [e]; rfl⟩) h
    by_cases h8 : 8 < l.length
    · rw [if_pos h8]; exact ⟨fun e => (by cases e), fun ⟨_, h⟩ => by omega⟩
    · rw [if_neg h8]; exact ⟨fun _ => ⟨h1, by omega⟩, fun _ => rfl⟩
/-- what is joined is parsed as it was -/
theorem parse_join {l : List (List UInt8)} (h : joinQ l = 0) (hl : (joinR l).length ≤ 200) : parseP (joinR l) = (l, 0) := by
  obtain ⟨h1, h2⟩ := joinQ_zero.1 h
  unfold joinR at hl ⊢
  rw [if_pos h] at hl ⊢
  by_cases h0 : l = []
  · subst h0; exact parse_root
  · rw [if_neg h0] at hl ⊢
    rw [parse_slashed h0 (fun x hx => (name_is (h1 x hx)).1) hl, goP_names l [] h1 (by simpa using h2)]; simp
theorem slashed_len {l : List (List UInt8)} (h : ∀ x ∈ l, x.length ≤ 24) : (slashed l).length ≤ 25 * l.length := by
  induction l with
  | nil => exact Nat.le_refl _
  | cons x l ih =>
    have h1 := h x (by simp)
    have h2 := ih fun y hy => h y (by simp [hy])
    rw [slashed_cons]
    simp only [List.length_cons, List.length_append]; omega
theorem goP_bd : ∀ (l out : List (List UInt8)), out.length ≤ 8 → (∀ x ∈ out, isT x = true) → (goP l out).1.length ≤ 8 ∧ ∀ x ∈ (goP l out).1, isT x = true
  | [], out, h, hs => ⟨h, hs⟩
  | x :: l, out, h, hs => by
    rw [goP]
    split
    · exact goP_bd l out h hs
    · split
      · exact goP_bd l _ (by rw [List.length_dropLast]; omega) fun y hy => hs y (List.dropLast_subset _ hy)
      · split
        · exact ⟨by simp, fun y hy => by cases hy⟩
        · rename_i c
          split
          · exact ⟨by simp, fun y hy => by cases hy⟩
          · refine goP_bd l _ (by rw [List.length_append, List.length_singleton]; omega) fun y hy => ?_
            rcases List.mem_append.1 hy with hy | hy
            · exact hs y hy
            · rw [List.mem_singleton.1 hy]
              simpa using c
theorem parse_bd (s : List UInt8) : (parseP s).1.length ≤ 8 ∧ ∀ x ∈ (parseP s).1, isT x = true := by
  unfold parseP
  split
  · exact ⟨by simp, fun y hy => by cases hy⟩
  · split
    · exact ⟨by simp, fun y hy => by cases hy⟩
    · exact goP_bd _ _ (by simp) fun y hy => by cases hy
end Go.Proofs.Ytlenfocdhchphaa
