/-
  path.Parse, Join, Under, Parent at whatever arguments.
-/
import Derived.Test.YtlenfocdhchphaaPthP2
namespace Go.Proofs.Ytlenfocdhchphaa
open Go.RowKit
set_option maxRecDepth 100000
set_option linter.unusedVariables false

theorem parse_any (s : List UInt8) (w : World) (hl : s.length ≤ 10000) :
    Calls Try.prog 8 #[.string (str s)] w fun e w' => ∃ v, e = .returned (.tuple #[v, .int .i64 (parseP s).2]) ∧ StrW w' (parseP s).1 v ∧ Below w.heap.size w w' := by
  have early : ∀ q : Int, parseP s = ([], q) → ((Lib.hasPrefix s [47] = false ∧ q = 11) ∨ (Lib.hasPrefix s [47] = true ∧ 200 < s.length ∧ q = 16)) →
      Calls Try.prog 8 #[.string (str s)] w fun e w' => ∃ v, e = .returned (.tuple #[v, .int .i64 (parseP s).2]) ∧ StrW w' (parseP s).1 v ∧ Below w.heap.size w w' := fun q hp hq => by
    rw [hp]
    refine (parse_early s w q hl hq).mono ?_
    rintro e w' ⟨rfl, hb⟩
    exact ⟨_, rfl, StrW.nil_ _, hb⟩
  cases s with
  | nil => exact early 11 (by decide) (.inl ⟨rfl, rfl⟩)
  | cons c t =>
    by_cases hc : c = 47
    · subst hc
      by_cases h : t.length < 200
      · rw [parse_tail t h]; exact parse_walk t w h
      · exact early 16 (parse_big t (by omega)) (.inr ⟨by simp [Lib.hasPrefix], by simp; omega, rfl⟩)
    · refine early 11 ?_ (.inl ⟨?_, rfl⟩)
      · unfold parseP
        rw [if_pos (by simpa using hc)]
      · have hb : ((47 : UInt8) == c) = false := beq_false_of_ne fun h => hc h.symm
        simp only [Lib.hasPrefix, List.isPrefixOf, hb, Bool.false_and]
theorem joinF_any (x : List UInt8) (w : World) (hx : x.length ≤ 1000) :
    Calls Try.prog 27 #[.string (str x)] w fun e w' => e = .returned (.bool (!isT x)) ∧ Below w.heap.size w w' := by
  have HI := Lib.hid fun w' => is_any x w' (by omega)
  obtain ⟨S, hS⟩ : ∃ S, str x = S := ⟨_, rfl⟩
  obtain ⟨t, ht⟩ : ∃ t, isT x = t := ⟨_, rfl⟩
  rw [hS, ht] at HI
  rw [hS, ht]
  clear hS ht
  go_enter Try.func27, Try.ntmps27
  go_wp2_with fail
  refine (HI.out _).mono ?_
  rintro e w1 ⟨rfl, hb⟩
  have HB := Lib.hid hb
  clear hb
  go_wp2
  go_ret
  exact ⟨rfl, HB.out⟩
set_option maxHeartbeats 2000000 in
theorem joinP_any (l : List (List UInt8)) (A : Option Addr) (n c : Nat) (w : World) (hE : StrW w l (.slice A n c)) (hn : n ≤ 1000) (hs : ∀ x ∈ l, x.length ≤ 1000) :
    Calls Try.prog 15 #[.slice A n c] w fun e w' => e = .returned (.tuple #[.string (str (joinR l)), .int .i64 (joinQ l)]) ∧ Below w.heap.size w w' := by
  have HC := Lib.hid (contains_any 27 #[] (fun x => !isT x) l A n c w (enters_of Try.func27 (by kernel_rfl) rfl) hE (by omega) fun x hx w' _ => joinF_any x w' (hs x hx))
  have HJ := Lib.hid fun w' (hb : Below w.heap.size w w') => join_any l A n c w' (hE.up hb) (by omega) fun x hx => by have := hs x hx; omega
  have hln := hE.parts.1
  obtain ⟨t, ht⟩ : ∃ t, l.any (fun x => !isT x) = t := ⟨_, rfl⟩
  rw [ht] at HC
  have hq : joinQ l = if t = true then 11 else if 8 < n then 16 else 0 := by unfold joinQ; rw [ht, hln]
  have hR : joinQ l ≠ 0 → str (joinR l) = ⟨#[]⟩ := fun h => by unfold joinR; rw [if_neg h]; rfl
  have hR0 : joinQ l = 0 → str (joinR l) = (⟨#[47]⟩ : ByteArray) ++ str (Lib.join l [47]) ∧ (str (Lib.join l [47])).size ≤ 1000 := fun h => by
    rw [joinR_eq l h]
    refine ⟨(str_append [47] _).symm, ?_⟩
    rw [str_size]
    obtain ⟨h1, h2⟩ := joinQ_zero.1 h
    by_cases h0 : l = []
    · rw [h0]; exact Nat.zero_le _
    · have h3 := congrArg List.length (slash_join l h0)
      have h4 := slashed_len (l := l) fun x hx => (name_is (h1 x hx)).2.2.2.2
      simp only [List.length_cons] at h3
      omega
  obtain ⟨q, hq'⟩ : ∃ q, joinQ l = q := ⟨_, rfl⟩
  obtain ⟨R, hR'⟩ : ∃ R, str (joinR l) = R := ⟨_, rfl⟩
  obtain ⟨J, hJ'⟩ : ∃ J, str (Lib.join l [47]) = J := ⟨_, rfl⟩
  rw [hq'] at hq hR hR0
  rw [hR'] at hR hR0
  rw [hJ'] at hR0 HJ
  rw [hq', hR']
  clear hE hs hln ht hq' hR' hJ'
  cases t with
  | true =>
    rw [if_pos rfl] at hq
    subst hq
    obtain rfl := hR (by decide)
    clear hR hR0 HJ
    go_enter Try.func15, Try.ntmps15
    go_wp2_with fail
    refine HC.out.mono ?_
    rintro e w1 ⟨rfl, hb⟩
    have HB := Lib.hid hb
    clear hb
    go_wp2
    go_ret2
    exact ⟨rfl, HB.out⟩
  | false =>
    rw [if_neg (by decide)] at hq
    by_cases h8 : 8 < n
    · rw [if_pos h8] at hq
      subst hq
      obtain rfl := hR (by decide)
      have h8' : (8 : Int) < (n : Int) := by omega
      clear hR hR0 HJ
      go_enter Try.func15, Try.ntmps15
      go_wp2_with fail
      refine HC.out.mono ?_
      rintro e w1 ⟨rfl, hb⟩
      have HB := Lib.hid hb
      clear hb
      go_wp2
      go_ret2
      exact ⟨rfl, HB.out⟩
    · rw [if_neg h8] at hq
      subst hq
      obtain ⟨rfl, hJs⟩ := hR0 rfl
      have h8' : ¬ (8 : Int) < (n : Int) := by omega
      have hsum : 1 + J.size ≤ 9223372036854775807 := by omega
      clear hR hR0
      go_enter Try.func15, Try.ntmps15
      go_wp2_with fail
      refine HC.out.mono ?_
      rintro e w1 ⟨rfl, hb⟩
      have HB := Lib.hid hb
      clear hb
      go_wp2_with fail
      refine (HJ.out _ HB.out).mono ?_
      rintro e w2 ⟨rfl, hb⟩
      have HB2 := Lib.hid (HB.out.trans (hb.mono HB.out.size))
      clear hb
      go_wp2
      go_ret2
      exact ⟨rfl, HB2.out⟩
set_option maxHeartbeats 2000000 in
theorem underP_any (l top : List (List UInt8)) (A A' : Option Addr) (n c n' c' : Nat) (w : World) (hE : StrW w l (.slice A n c)) (hE' : StrW w top (.slice A' n' c')) (hn : n ≤ 1000) (hn' : n' ≤ 1000) :
    Calls Try.prog 17 #[.slice A n c, .slice A' n' c'] w fun e w' => e = .returned (.bool (underB l top)) ∧ Below w.heap.size w w' := by
  obtain ⟨p1, p2, p3, p4⟩ := hE.parts
  obtain ⟨q1, q2, q3, q4⟩ := hE'.parts
  by_cases hlt : n' < n
  · obtain ⟨b, o, rfl, -, -⟩ := p4.plain (by rw [strsV_len]; omega)
    have hT : StrW w (l.take n') (.slice (some ⟨b, o, none⟩) n' c) := ⟨_, _, _, rfl, by rw [List.length_take]; omega, by omega, p3, by rw [strsV_take]; exact p4.take _⟩
    have HX := Lib.hid (sequal_any (l.take n') top (some ⟨b, o, none⟩) A' n' c n' c' w hT hE' (by omega) (by omega))
    have hu : underB l top = decide (l.take n' = top) := by
      unfold underB
      rw [q1, p1]
      simp [hlt]
    obtain ⟨t, ht⟩ : ∃ t, decide (l.take n' = top) = t := ⟨_, rfl⟩
    rw [ht] at HX hu
    rw [hu]
    have h1 : (n' : Int) < (n : Int) := by omega
    have h2 : (n' : Int) ≤ (c : Int) := by omega
    have h3 : (c : Int) ≤ 9223372036854775807 := by unfold maxLen at p3; omega
    have h0 : (0 : Int) ≤ (n' : Int) := by omega
    clear hT ht hu hE hE' p1 p4 q1 q4
    go_enter Try.func17, Try.ntmps17
    go_wp2_with fail
    refine HX.out.mono ?_
    rintro e w1 ⟨rfl, hb⟩
    have HB := Lib.hid hb
    clear hb
    go_wp2
    go_ret
    exact ⟨rfl, HB.out⟩
  · have hu : underB l top = false := by
      unfold underB
      rw [q1, p1]
      simp [hlt]
    rw [hu]
    have h1 : ¬ (n' : Int) < (n : Int) := by omega
    clear hu hE hE' p1 p4 q1 q4
    go_enter Try.func17, Try.ntmps17
    go_wp2
    go_ret
    exact ⟨rfl, Below.refl _ _⟩
set_option maxHeartbeats 2000000 in
theorem parentP_any (s : List UInt8) (w : World) (hl : s.length ≤ 10000) :
    Calls Try.prog 10 #[.string (str s)] w fun e w' => ∃ v, e = .returned (.tuple #[v, .string (str (parX s)), .int .i64 (parQ s)]) ∧ StrW w' (parR s) v ∧ Below w.heap.size w w' := by
  have HP := Lib.hid (parse_any s w hl)
  have hbd := (parse_bd s).1
  have hq : parQ s = if (parseP s).2 ≠ 0 then (parseP s).2 else if (parseP s).1 = [] then 1 else 0 := rfl
  have hr : parR s = if parQ s = 0 then (parseP s).1.dropLast else [] := rfl
  have hx : parX s = if parQ s = 0 then (parseP s).1.getLast?.getD [] else [] := rfl
  obtain ⟨L, hL⟩ : ∃ L, (parseP s).1 = L := ⟨_, rfl⟩
  obtain ⟨z, hz⟩ : ∃ z, (parseP s).2 = z := ⟨_, rfl⟩
  obtain ⟨q, hq'⟩ : ∃ q, parQ s = q := ⟨_, rfl⟩
  obtain ⟨r, hr'⟩ : ∃ r, parR s = r := ⟨_, rfl⟩
  obtain ⟨x, hx'⟩ : ∃ x, parX s = x := ⟨_, rfl⟩
  obtain ⟨S, hS⟩ : ∃ S, str s = S := ⟨_, rfl⟩
  rw [hL, hz, hS] at HP
  rw [hL, hz, hq'] at hq
  rw [hq', hL] at hr hx
  rw [hr'] at hr
  rw [hx'] at hx
  rw [hL] at hbd
  rw [hq', hr', hx', hS]
  clear hL hz hq' hr' hx' hS
  by_cases hz0 : z = 0
  · subst hz0
    rw [if_neg (by simp)] at hq
    by_cases h0 : L = []
    · rw [if_pos h0] at hq
      subst hq
      rw [if_neg (by decide)] at hr hx
      subst hr hx h0
      go_enter Try.func10, Try.ntmps10
      go_wp2_with fail
      refine HP.out.mono ?_
      rintro e w1 ⟨v, rfl, hv, hb⟩
      have HB := Lib.hid hb
      obtain ⟨A, n, c, rfl, hn, -⟩ := hv
      obtain rfl : n = 0 := by simpa using hn.symm
      clear hb
      go_wp2
      go_ret3
      exact ⟨_, rfl, StrW.nil_ _, HB.out⟩
    · rw [if_neg h0] at hq
      subst hq
      rw [if_pos rfl] at hr hx
      obtain ⟨j, hj⟩ : ∃ j, L.length = j + 1 := ⟨L.length - 1, by have := List.length_pos_iff.2 h0; omega⟩
      have hxj : L[j]? = some x := by
        rw [hx, List.getLast?_eq_getElem?, hj, Nat.add_sub_cancel, List.getElem?_eq_getElem (by omega)]; rfl
      have HXJ := Lib.hid hxj
      have HR := Lib.hid (show r = L.take j by rw [hr, List.dropLast_eq_take, hj]; rfl)
      have HJ := Lib.hid hj
      have hj8 : j ≤ 8 := by omega
      obtain ⟨X, hX⟩ : ∃ X, str x = X := ⟨_, rfl⟩
      have HXX := Lib.hid hX
      rw [hX]
      clear hr hx h0 hxj hj hbd hX
      go_enter Try.func10, Try.ntmps10
      go_wp2_with fail
      refine HP.out.mono ?_
      rintro e w1 ⟨v, rfl, hv, hb⟩
      have HB := Lib.hid hb
      obtain ⟨A, n, c, rfl, hn, hnc, hcm, hr4⟩ := hv
      obtain rfl : n = j + 1 := by rw [← hn]; exact HJ.out
      obtain ⟨bb, oo, rfl, -, -⟩ := hr4.plain (by rw [strsV_len, HJ.out]; omega)
      have c0 := strs_at hr4 HXJ.out
      rw [HXX.out] at c0
      have HT : Hid (StrW w1 r (.slice (some ⟨bb, oo, none⟩) j c)) := ⟨_, _, _, rfl, by rw [HR.out, List.length_take, HJ.out]; omega, by omega, hcm, by rw [HR.out, strsV_take]; exact hr4.take _⟩
      have hkj : ((j + 1 : Nat) : Int) - 1 = (j : Int) := by omega
      have hkj' : (j : Int) + 1 - 1 = (j : Int) := by omega
      have hne : (((j + 1 : Nat) : Int) == 0) = false := beq_false_of_ne (by omega)
      have hne' : ((j : Int) + 1 == 0) = false := beq_false_of_ne (by omega)
      have g1 : (0 : Int) ≤ (j : Int) := by omega
      have g2 : (j : Int) ≤ (c : Int) := by omega
      have g3 : (j : Int) < (j : Int) + 1 := by omega
      have g4 : (c : Int) ≤ 9223372036854775807 := by unfold maxLen at hcm; omega
      clear hb hn hr4
      go_wp2_with fail
      go_quiet (fail)
      go_wp2
      go_ret3
      exact ⟨_, rfl, HT.out.up ((Below.refl _ _).drewN' _), HB.out.drewN' _⟩
  · rw [if_pos hz0] at hq
    subst hq
    rw [if_neg hz0] at hr hx
    subst hr hx
    have hne : (q != 0) = true := by simpa using hz0
    go_enter Try.func10, Try.ntmps10
    go_wp2_with fail
    refine HP.out.mono ?_
    rintro e w1 ⟨v, rfl, hv, hb⟩
    have HB := Lib.hid hb
    clear hb hv
    go_wp2
    go_ret3
    exact ⟨_, rfl, StrW.nil_ _, HB.out⟩
end Go.Proofs.Ytlenfocdhchphaa
