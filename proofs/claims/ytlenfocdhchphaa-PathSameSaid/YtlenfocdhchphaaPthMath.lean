/-
  Paths over lists of octets: the pieces behind each 47 one by one; what the library's search, cut and join answer; no program is named here.
-/
import Derived.Test.YtlenfocdhchphaaPathMath
import Derived.Lib.Bytealg
import Derived.Lib.Join
namespace Go.Proofs.Ytlenfocdhchphaa
set_option linter.unusedVariables false
set_option maxRecDepth 100000

theorem cutS_slash (t : List UInt8) : cutS (47 :: t) = [] :: cutS t := by
  have e : cutStep [[]] 47 = [[]] ++ [[]] := by unfold cutStep; rw [if_pos rfl]
  unfold cutS
  rw [List.foldl_cons, e, foldl_pre]; rfl
theorem cutS_none {t : List UInt8} (h : ∀ c ∈ t, c ≠ 47) : cutS t = [t] := by
  unfold cutS
  rw [foldl_plain t [] h]; rfl
theorem cutS_at {a : List UInt8} (b : List UInt8) (h : ∀ c ∈ a, c ≠ 47) : cutS (a ++ 47 :: b) = a :: cutS b := by
  have e : cutStep [a] 47 = [a] ++ [[]] := by unfold cutStep; rw [if_pos rfl]
  unfold cutS
  rw [List.foldl_append, foldl_plain a [] h, List.nil_append, List.foldl_cons, e, foldl_pre]; rfl
/-- a text has no 47, or one behind a beginning without -/
theorem slash_cases : ∀ t : List UInt8, (∀ c ∈ t, c ≠ 47) ∨ ∃ a b, t = a ++ 47 :: b ∧ ∀ c ∈ a, c ≠ 47
  | [] => .inl fun c h => by cases h
  | c :: t => by
    by_cases h : c = 47
    · exact .inr ⟨[], t, by rw [h]; rfl, fun d hd => by cases hd⟩
    · rcases slash_cases t with h1 | ⟨a, b, rfl, h1⟩
      · exact .inl fun d hd => by
          rcases List.mem_cons.1 hd with rfl | hd
          · exact h
          · exact h1 d hd
      · exact .inr ⟨c :: a, b, rfl, fun d hd => by
          rcases List.mem_cons.1 hd with rfl | hd
          · exact h
          · exact h1 d hd⟩
theorem index_none : ∀ {t : List UInt8}, (∀ c ∈ t, c ≠ 47) → Lib.indexByte t 47 = -1
  | [], _ => rfl
  | c :: t, h => by
    unfold Lib.indexByte
    rw [if_neg (by simpa using h c (by simp)), index_none fun d hd => h d (by simp [hd])]
    first | done | rfl
theorem index_at : ∀ {a : List UInt8} (b : List UInt8), (∀ c ∈ a, c ≠ 47) → Lib.indexByte (a ++ 47 :: b) 47 = (a.length : Int)
  | [], b, _ => by rw [List.nil_append]; unfold Lib.indexByte; rfl
  | c :: a, b, h => by
    rw [List.cons_append]
    unfold Lib.indexByte
    rw [if_neg (by simpa using h c (by simp)), index_at b fun d hd => h d (by simp [hd]), if_neg (by simp)]
    simp
theorem goP_err : ∀ (a b out : List (List UInt8)), (goP a out).2 ≠ 0 → goP (a ++ b) out = goP a out
  | [], b, out, h => absurd rfl h
  | x :: a, b, out, h => by
    show goP (x :: (a ++ b)) out = _
    rw [goP] at h ⊢
    rw [goP]
    split at h
    · rename_i c
      rw [if_pos c, if_pos c]; exact goP_err a b _ h
    · rename_i c
      rw [if_neg c, if_neg c]
      split at h
      · rename_i c
        rw [if_pos c, if_pos c]; exact goP_err a b _ h
      · rename_i c
        rw [if_neg c, if_neg c]
        split at h
        · rename_i c
          rw [if_pos c, if_pos c]
        · rename_i c
          rw [if_neg c, if_neg c]
          split at h
          · rename_i c
            rw [if_pos c, if_pos c]
          · rename_i c
            rw [if_neg c, if_neg c]; exact goP_err a b _ h
/-- one piece more -/
theorem goP_snoc (a : List (List UInt8)) (x : List UInt8) (h : (goP a []).2 = 0) : goP (a ++ [x]) [] = goP [x] (goP a []).1 := goP_append a [x] [] h
theorem parse_tail (t : List UInt8) (hl : t.length < 200) : parseP (47 :: t) = goP (cutS t) [] := by
  unfold parseP
  rw [if_neg (by simp), if_neg (by simp; omega), cutS_slash, goP_skip]
theorem parse_big (t : List UInt8) (hl : 200 ≤ t.length) : parseP (47 :: t) = ([], 16) := by
  unfold parseP
  rw [if_neg (by simp), if_pos (by simp; omega)]
theorem cutS_le (s : List UInt8) : (cutS s).length ≤ s.length + 1 := by
  have : ∀ (s : List UInt8) (L : List (List UInt8)), (s.foldl cutStep L).length ≤ L.length + s.length := fun s => by
    induction s with
    | nil => intro L; exact Nat.le_refl _
    | cons c s ih =>
      intro L
      have h := ih (cutStep L c)
      have h2 : (cutStep L c).length ≤ L.length + 1 := by
        unfold cutStep
        split
        · simp
        · simp only [List.length_append, List.length_dropLast, List.length_singleton]; omega
      rw [List.foldl_cons, List.length_cons]
      omega
  have h := this s [[]]
  unfold cutS
  simp only [List.length_singleton] at h
  omega
theorem cutS_len_le : ∀ (n : Nat) (s : List UInt8), s.length ≤ n → ∀ x ∈ cutS s, x.length ≤ s.length
  | 0, s, h, x, hx => by
    rw [List.length_eq_zero_iff.1 (show s.length = 0 by omega)] at hx
    have : x ∈ [[]] := hx
    rw [List.mem_singleton.1 this]; simp
  | n + 1, s, h, x, hx => by
    rcases slash_cases s with h1 | ⟨a, b, rfl, h1⟩
    · rw [cutS_none h1] at hx
      rw [List.mem_singleton.1 hx]; exact Nat.le_refl _
    · rw [cutS_at b h1] at hx
      simp only [List.length_append, List.length_cons] at h ⊢
      rcases List.mem_cons.1 hx with rfl | hx
      · omega
      · have := cutS_len_le n b (by omega) x hx
        omega
/-- joined with a 47 between, and one ahead -/
theorem slash_join : ∀ l : List (List UInt8), l ≠ [] → 47 :: Lib.join l [47] = slashed l
  | [], h => absurd rfl h
  | x :: l, _ => by
    rw [Lib.join_cons, slashed_cons]
    have : ∀ r : List (List UInt8), Lib.joinTail [47] r = slashed r := fun r => by
      unfold Lib.joinTail slashed
      induction r with
      | nil => rfl
      | cons y r ih => rw [List.map_cons, List.flatten_cons, List.flatMap_cons, ih]; rfl
    rw [this]
theorem joinR_eq (l : List (List UInt8)) (h : joinQ l = 0) : joinR l = 47 :: Lib.join l [47] := by
  unfold joinR
  rw [if_pos h]
  by_cases h0 : l = []
  · rw [if_pos h0, h0]; rfl
  · rw [if_neg h0, slash_join l h0]
end Go.Proofs.Ytlenfocdhchphaa
