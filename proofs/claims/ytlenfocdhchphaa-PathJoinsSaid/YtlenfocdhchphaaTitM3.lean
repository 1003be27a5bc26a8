/-
  What the language's library answers on texts, over lists of octets; heads, names and what is made of a text, step by step; no program is named here.
-/
import Derived.Test.YtlenfocdhchphaaTitDec2
import Derived.Test.YtlenfocdhchphaaTitMath2
import Derived.Test.YtlenfocdhchphaaTitOrd
import Derived.Lib.Small
import Derived.Lib.Strings
import Derived.Lib.Bytealg
namespace Go.Proofs.Ytlenfocdhchphaa
set_option maxRecDepth 100000
set_option linter.unusedVariables false

theorem runeLen_wid {l : List UInt8} {v n : Nat} (h : Rn l v n) : Lib.runeLen (v : Int) = (n : Int) := by
  have h1 := @on_is l 1
  have h2 := @on_is l 2
  have h3 := @on_is l 3
  unfold Lib.runeLen
  rcases h with ⟨rfl, h, rfl⟩ | ⟨rfl, a, b, c, d, e⟩ | ⟨rfl, a, b, c, d, e, f, g⟩ | ⟨rfl, a, b, c, d, e, f, g, i⟩
  · rw [if_neg (by omega), if_pos (by omega)]; rfl
  · have := h1 c
    rw [if_neg (by omega), if_neg (by omega), if_pos (by omega)]; rfl
  · have := h1 c; have := h2 d
    rw [if_neg (by omega), if_neg (by omega), if_neg (by omega), if_neg (by omega), if_pos (by omega)]; rfl
  · rw [if_neg (by omega), if_neg (by omega), if_neg (by omega), if_neg (by omega), if_neg (by omega), if_pos (by omega)]; rfl
theorem len_tk {l : List UInt8} (h : (tkOf l).odd = false) : Lib.runeLen (drawV l : Nat) = (widN l : Nat) := by
  cases hh : runeN l with
  | none => rw [(tk_none hh).1] at h; cases h
  | some p =>
    obtain ⟨a, b, c⟩ := tk_some (v := p.1) (n := p.2) hh
    rw [b, c]
    exact runeLen_wid ((rune_iff l p.1 p.2).1 hh)
theorem odd_tk {l : List UInt8} (h : (tkOf l).odd = true) : (tkOf l).v = -1 ∧ widN l = 1 ∧ drawV l = 65533 ∧ (tkOf l).s = l.take 1 := by
  cases hh : runeN l with
  | none => obtain ⟨a, b, c⟩ := tk_none hh; rw [a]; exact ⟨rfl, b, c, rfl⟩
  | some p => obtain ⟨a, b, c⟩ := tk_some (v := p.1) (n := p.2) hh; rw [a] at h; cases h
theorem pre_oct (l : List UInt8) : Lib.hasPrefix l [239, 191, 189] = decide (octN l 0 = 239 ∧ octN l 1 = 191 ∧ octN l 2 = 189) := by
  have hq : ∀ a b : UInt8, (a == b) = decide (b.toNat = a.toNat) := fun a b => by
    rw [Bool.eq_iff_iff, beq_iff_eq, decide_eq_true_eq, UInt8.toNat_inj]
    exact ⟨fun h => h.symm, fun h => h.symm⟩
  unfold Lib.hasPrefix
  match l with
  | [] => rfl
  | [a] => simp [List.isPrefixOf, octN]
  | [a, b] => simp [List.isPrefixOf, octN]
  | a :: b :: c :: r =>
    simp only [List.isPrefixOf, hq, Bool.and_true]
    rw [Bool.eq_iff_iff]
    simp only [Bool.and_eq_true, decide_eq_true_eq]
    exact Iff.rfl
theorem cmp_oct : ∀ a b : List UInt8, Lib.compareBytes a b = cmpL (octI a) (octI b)
  | [], [] => rfl
  | [], _ :: _ => rfl
  | _ :: _, [] => rfl
  | a :: l, b :: m => by
    show (if a < b then -1 else if b < a then 1 else Lib.compareBytes l m) = (if (a.toNat : Int) < (b.toNat : Int) then -1 else if (b.toNat : Int) < (a.toNat : Int) then 1 else cmpL (octI l) (octI m))
    rw [cmp_oct l m]
    have h1 : a < b ↔ (a.toNat : Int) < (b.toNat : Int) := by rw [UInt8.lt_iff_toNat_lt]; omega
    have h2 : b < a ↔ (b.toNat : Int) < (a.toNat : Int) := by rw [UInt8.lt_iff_toNat_lt]; omega
    by_cases c1 : a < b
    · rw [if_pos c1, if_pos (h1.1 c1)]
    · rw [if_neg c1, if_neg (fun h => c1 (h1.2 h))]
      by_cases c2 : b < a
      · rw [if_pos c2, if_pos (h2.1 c2)]
      · rw [if_neg c2, if_neg (fun h => c2 (h2.2 h))]
theorem compare_ord (a b : List UInt8) : Lib.compareBytes a b = ordT a b := by rw [cmp_oct, ordT_oct]

theorem headT_nil (n : Int) : headT [] n = [] := by unfold headT; rw [toks_nil]; simp [joinT]
theorem headT_none (l : List UInt8) {n : Int} (h : n < 1) : headT l n = [] := by unfold headT; rw [show n.toNat = 0 by omega]; rfl
theorem headT_cons {l : List UInt8} {n : Int} (h : l ≠ []) (hn : 1 ≤ n) : headT l n = (tkOf l).s ++ headT (l.drop (widN l)) (n - 1) := by
  unfold headT
  rw [toks_cons h, show n.toNat = (n - 1).toNat + 1 by omega, List.take_succ_cons, joinT_cons]
/-- one step of what is made of a text -/
theorem cutL_skip {l : List UInt8} {out : List UInt8} {n : Nat} (h : l ≠ []) (hs : signT (tkOf l) = false) : cutL (toks l) out n = cutL (toks (l.drop (widN l))) out n := by
  rw [toks_cons h, cutL, if_pos hs]
theorem cutL_stop {l : List UInt8} {out : List UInt8} {n : Nat} (h : l ≠ []) (hs : signT (tkOf l) = true) (hn : n = 16 ∨ 24 < out.length + (tkOf l).s.length) : cutL (toks l) out n = out := by
  rw [toks_cons h, cutL, if_neg (by rw [hs]; decide), if_pos hn]
theorem cutL_on {l : List UInt8} {out : List UInt8} {n : Nat} (h : l ≠ []) (hs : signT (tkOf l) = true) (hn : ¬ (n = 16 ∨ 24 < out.length + (tkOf l).s.length)) : cutL (toks l) out n = cutL (toks (l.drop (widN l))) (out ++ (tkOf l).s) (n + 1) := by
  rw [toks_cons h, cutL, if_neg (by rw [hs]; decide), if_neg hn]
theorem sign_v (l : List UInt8) : signT (tkOf l) = (decide (32 ≤ (tkOf l).v) && decide ((tkOf l).v ≠ 127) && decide ((tkOf l).v ≠ 47)) := by
  unfold signT
  cases ho : (tkOf l).odd with
  | false => simp
  | true => rw [(odd_tk ho).1]; rfl
theorem isT_other {l : List UInt8} (h0 : l ≠ []) (h1 : l ≠ [46]) (h2 : l ≠ [46, 46]) : isT l = decide (cutT l = l) := by
  rw [Bool.eq_iff_iff, decide_eq_true_eq]
  refine ⟨cutT_name, fun h => ?_⟩
  obtain ⟨a, b, c⟩ := cutT_is l
  rw [h] at a b c
  unfold isT
  rw [a, Bool.true_and, decide_eq_true_eq]
  have := List.length_pos_iff.2 h0
  exact ⟨by omega, c, b, h1, h2⟩
theorem isT_none : isT [] = false ∧ isT [46] = false ∧ isT [46, 46] = false := by
  refine ⟨?_, ?_, ?_⟩
  all_goals
    unfold isT
    simp
end Go.Proofs.Ytlenfocdhchphaa
