/-
  PathParses, PathParents: the walks, from the properties.
-/
import Derived.Test.YtlenfocdhchphaaPathC
namespace Go.Proofs.Ytlenfocdhchphaa
open Go.RowKit
set_option maxRecDepth 100000
set_option linter.unusedVariables false

theorem parR_len (s : List UInt8) : (parR s).length ≤ 8 := by
  unfold parR
  split
  · have := (parse_bd s).1
    rw [List.length_dropLast]; omega
  · exact Nat.zero_le _
set_option maxHeartbeats 4000000 in
theorem pathParses_walk (W : World) (HP : ParsePC W) (HR : ParentPC W) (s : List UInt8) (hs : s.length ≤ 9223372036854775807) :
    Calls Try.prog 3 #[.string (str s)] W fun e w' => e = .returned (.bool true) ∧ Below W.heap.size W w' := by
  have HAW := Lib.hid (awakeP_any HP HR)
  have HFX := Lib.hid fun w' => few11_any s w' hs
  have hTL : (s.take 260).length ≤ 260 := by rw [List.length_take]; omega
  obtain ⟨X, hX⟩ : ∃ X, str s = X := ⟨_, rfl⟩
  obtain ⟨t, ht⟩ : ∃ t, s.take 260 = t := ⟨_, rfl⟩
  rw [hX] at HFX ⊢
  rw [ht] at HFX hTL
  have H1 := Lib.hid fun w1 (hb : Below W.heap.size W w1) => HP.call t w1 (by omega) hb
  have H2 := Lib.hid fun w1 => refParse11_any t w1 (by omega)
  have H3 := Lib.hid fun w1 (hb : Below W.heap.size W w1) => HR.call t w1 (by omega) hb
  have H4 := Lib.hid fun w1 => refParent11_any t w1 (by omega)
  have hL8 := (parse_bd t).1
  have hR8 := parR_len t
  obtain ⟨L, hL⟩ : ∃ L, (parseP t).1 = L := ⟨_, rfl⟩
  obtain ⟨q, hq⟩ : ∃ q, (parseP t).2 = q := ⟨_, rfl⟩
  obtain ⟨R, hR⟩ : ∃ R, parR t = R := ⟨_, rfl⟩
  obtain ⟨Y, hY⟩ : ∃ Y, str (parX t) = Y := ⟨_, rfl⟩
  obtain ⟨p, hp⟩ : ∃ p, parQ t = p := ⟨_, rfl⟩
  obtain ⟨T, hT⟩ : ∃ T, str t = T := ⟨_, rfl⟩
  rw [hL, hq, hT] at H1 H2
  rw [hR, hY, hp, hT] at H3 H4
  rw [hL] at hL8
  rw [hR] at hR8
  rw [hT] at HFX
  have HL8 := Lib.hid hL8
  have HR8 := Lib.hid hR8
  clear hs hTL hX ht hL hq hR hY hp hT hL8 hR8 HP HR
  go_enter Try.func3, Try.ntmps3
  go_wp2_with fail
  refine (HFX.out _).mono ?_
  rintro e w0 ⟨rfl, rfl⟩
  clear HFX
  go_wp2_with fail
  refine (H1.out _ (Below.refl _ _)).mono ?_
  rintro e w1 ⟨v1, rfl, hE, hb⟩
  have B1 := Lib.hid hb
  have E1 := Lib.hid hE
  clear hE hb
  go_wp2_with fail
  refine (H2.out _).mono ?_
  rintro e w2 ⟨v2, rfl, hE, hb⟩
  have B2 := Lib.hid (B1.out.trans (hb.mono B1.out.size))
  have E2 := Lib.hid (E1.out.up hb)
  have F2 := Lib.hid hE
  clear hE hb
  go_wp2_with fail
  refine (H3.out _ B2.out).mono ?_
  rintro e w3 ⟨v3, rfl, hE, hb⟩
  have B3 := Lib.hid (B2.out.trans (hb.mono B2.out.size))
  have E3 := Lib.hid (E2.out.up hb)
  have F3 := Lib.hid (F2.out.up hb)
  have G3 := Lib.hid hE
  clear hE hb
  go_wp2_with fail
  refine (H4.out _).mono ?_
  rintro e w4 ⟨v4, rfl, hE, hb⟩
  have B4 := Lib.hid (B3.out.trans (hb.mono B3.out.size))
  have E4 := Lib.hid (E3.out.up hb)
  have F4 := Lib.hid (F3.out.up hb)
  have G4 := Lib.hid (G3.out.up hb)
  have K4 := Lib.hid hE
  clear hE hb
  go_wp2_with fail
  refine (rSameP E4.out F4.out (by have := HL8.out; omega) (by have := HL8.out; omega)).mono ?_
  rintro e w5 ⟨rfl, hb⟩
  have B5 := Lib.hid (B4.out.trans (hb.mono B4.out.size))
  have G5 := Lib.hid (G4.out.up hb)
  have K5 := Lib.hid (K4.out.up hb)
  rw [decide_eq_true (rfl : L = L)]
  clear hb
  go_wp2_with fail
  refine (rSameP G5.out K5.out (by have := HR8.out; omega) (by have := HR8.out; omega)).mono ?_
  rintro e w6 ⟨rfl, hb⟩
  have B6 := Lib.hid (B5.out.trans (hb.mono B5.out.size))
  rw [decide_eq_true (rfl : R = R)]
  clear hb
  go_wp2_with fail
  refine (HAW.out.call _ B6.out).mono ?_
  rintro e w7 ⟨rfl, hb⟩
  have B7 := Lib.hid (B6.out.trans (hb.mono B6.out.size))
  clear hb
  go_wp2
  go_ret
  exact ⟨rfl, B7.out⟩

theorem under_cut {l : List (List UInt8)} (h : l ≠ []) : underB l l.dropLast = true := by
  have := List.length_pos_iff.2 h
  unfold underB
  refine decide_eq_true ⟨by rw [List.length_dropLast]; omega, ?_⟩
  rw [List.length_dropLast, List.dropLast_eq_take]
theorem under_longer {l m : List (List UInt8)} (h : l.length ≤ m.length) : underB l m = false := decide_eq_false fun h1 => by omega
set_option maxHeartbeats 8000000 in
theorem pathParents_walk (W : World) (HP : ParsePC W) (HR : ParentPC W) (HU : UnderPC W) (s : List UInt8) (hs : s.length ≤ 9223372036854775807) :
    Calls Try.prog 6 #[.string (str s)] W fun e w' => e = .returned (.bool true) ∧ Below W.heap.size W w' := by
  obtain ⟨i0, hi, hz0, hz1, hz2⟩ := info_parts info_strP
  have hi := Lib.hid hi
  have hz0 := Lib.hid hz0
  have hz1 := Lib.hid hz1
  have hz2 := Lib.hid hz2
  have HAW := Lib.hid (awakeP_any HP HR)
  have HU := Lib.hid HU
  have HFX := Lib.hid fun w' => few11_any s w' hs
  have hTL : (s.take 260).length ≤ 260 := by rw [List.length_take]; omega
  obtain ⟨X, hX⟩ : ∃ X, str s = X := ⟨_, rfl⟩
  obtain ⟨t, ht⟩ : ∃ t, s.take 260 = t := ⟨_, rfl⟩
  rw [hX] at HFX ⊢
  rw [ht] at HFX hTL
  have H1 := Lib.hid fun w1 (hb : Below W.heap.size W w1) => HP.call t w1 (by omega) hb
  have H3 := Lib.hid fun w1 (hb : Below W.heap.size W w1) => HR.call t w1 (by omega) hb
  have hL8 := (parse_bd t).1
  obtain ⟨R, hR⟩ : ∃ R, parR t = R := ⟨_, rfl⟩
  obtain ⟨Y, hY⟩ : ∃ Y, parX t = Y := ⟨_, rfl⟩
  obtain ⟨p, hp⟩ : ∃ p, parQ t = p := ⟨_, rfl⟩
  have HDP : Hid (parQ t = if (parseP t).2 ≠ 0 then (parseP t).2 else if (parseP t).1 = [] then 1 else 0) := rfl
  have HDR : Hid (parR t = if parQ t = 0 then (parseP t).1.dropLast else []) := rfl
  have HDX : Hid (parX t = if parQ t = 0 then (parseP t).1.getLast?.getD [] else []) := rfl
  obtain ⟨L, hL⟩ : ∃ L, (parseP t).1 = L := ⟨_, rfl⟩
  obtain ⟨q, hq⟩ : ∃ q, (parseP t).2 = q := ⟨_, rfl⟩
  obtain ⟨T, hT⟩ : ∃ T, str t = T := ⟨_, rfl⟩
  rw [hL, hq, hT] at H1
  rw [hR, hY, hp, hT] at H3
  rw [hL] at hL8
  rw [hT] at HFX
  rw [hp, hq, hL] at HDP
  rw [hp, hL] at HDR HDX
  rw [hR] at HDR
  rw [hY] at HDX
  have HL8 := Lib.hid hL8
  clear hs hTL hX ht hL hq hR hY hp hT hL8 HP HR
  go_enter Try.func6, Try.ntmps6
  go_wp2_with fail
  refine (HFX.out _).mono ?_
  rintro e w0 ⟨rfl, rfl⟩
  clear HFX
  go_wp2_with fail
  refine (H1.out _ (Below.refl _ _)).mono ?_
  rintro e w1 ⟨v1, rfl, hE, hb⟩
  have B1 := Lib.hid hb
  have E1 := Lib.hid hE
  clear hE hb
  go_wp2_with fail
  refine (H3.out _ B1.out).mono ?_
  rintro e w3 ⟨v3, rfl, hE, hb⟩
  have B3 := Lib.hid (B1.out.trans (hb.mono B1.out.size))
  have E3 := Lib.hid (E1.out.up hb)
  have G3 := Lib.hid hE
  clear hE hb E1 B1 H1 H3
  obtain ⟨A1, n1, c1, rfl, hn1, -⟩ := id E3.out
  obtain ⟨A3, n3, c3, rfl, hn3, hnc3, hcm3, hr3⟩ := id G3.out
  have hn8 : n1 ≤ 8 := by have := HL8.out; omega
  have HN1 := Lib.hid hn1
  have HN3 := Lib.hid hn3
  have HR3 := Lib.hid hr3
  clear hn1 hn3 hr3
  by_cases h0 : q = 0
  · subst h0
    by_cases hL0 : L = []
    · obtain rfl : p = 1 := by have h := HDP.out; rw [if_neg (by simp), if_pos hL0] at h; exact h
      obtain rfl : R = [] := HDR.out
      obtain rfl : Y = [] := HDX.out
      obtain rfl : n1 = 0 := by rw [← HN1.out, hL0]; rfl
      obtain rfl : n3 = 0 := HN3.out.symm
      have hst : str [] = ⟨#[]⟩ := rfl
      rw [hst]
      clear hL0 hst
      go_wp2_with fail
      refine (HAW.out.call _ B3.out).mono ?_
      rintro e w7 ⟨rfl, hb⟩
      have B7 := Lib.hid (B3.out.trans (hb.mono B3.out.size))
      clear hb
      go_wp2
      go_ret
      exact ⟨rfl, B7.out⟩
    · obtain rfl : p = 0 := by have h := HDP.out; rw [if_neg (by simp), if_neg hL0] at h; exact h
      obtain rfl : R = L.dropLast := HDR.out
      have hY : L.dropLast ++ [Y] = L := by
        have h : Y = L.getLast?.getD [] := HDX.out
        rw [h, List.getLast?_eq_some_getLast hL0]
        exact List.dropLast_concat_getLast hL0
      have HY := Lib.hid hY
      have hn10 : ((n1 : Int) == 0) = false := by
        have := List.length_pos_iff.2 hL0
        have h := HN1.out
        exact beq_false_of_ne (by omega)
      have HUC := Lib.hid (under_cut hL0)
      have HUL : Hid (underB L.dropLast L = false) := under_longer (by rw [List.length_dropLast]; omega)
      have HUS : Hid (underB L L = false) := under_longer (Nat.le_refl _)
      obtain ⟨M, hM⟩ : ∃ M, L.dropLast = M := ⟨_, rfl⟩
      rw [hM] at HN3 HR3 HUC HUL HY G3
      have hn38 : n3 ≤ 8 := by
        have h := HN3.out
        rw [← hM, List.length_dropLast] at h
        have := HL8.out; omega
      have HO1 : Hid ((w3.alloc (.cells #[] 9)).ownsRow w3.heap.size 9 1 (.slice (some ⟨w3.heap.size, 0, none⟩) 0 0) 0 []) := own_of_bk (Bk.new w3 _ _) (Nat.le_refl _) rfl (Nat.zero_le _)
      have Q1 := Lib.hid ((Below.refl w3.heap.size w3).alloc (Nat.le_refl _) (.cells #[] 9))
      have HR4 : Hid (Rd (w3.alloc (.cells #[] 9)) w3.heap.size A3 (strsV M)) := HR3.out.alloc (Nat.le_refl _) _
      clear hY hL0 hM
      obtain ⟨Z, hZ⟩ : ∃ Z, str Y = Z := ⟨_, rfl⟩
      have HZ := Lib.hid hZ
      rw [hZ]
      clear hZ
      go_wp2_with (at_builtin; refine wpList_append_rd_want _ (by first | rfl | simp [Region.wanted, yielded]) _ _ 23 rfl w3.heap.size 9 i0 (.string ByteArray.empty) 1 16 Try.underlying23 hi.out hz0.out hz1.out hz2.out rfl (by decide) _ _ _ rfl HO1.out w3.heap.size A3 n3 c3 (strsV M) rfl ?cl HR4.out ?c2 ?c3 ?c4 ?c5 ?_)
      case cl => rw [strsV_len, HN3.out, Nat.mul_one]
      case c2 => exact strsV_one M
      case c3 => unfold maxLen; omega
      case c4 => omega
      case c5 => simp
      intro r' w4 hown4 hgrow
      have Q2 := Lib.hid (Q1.out.grown hgrow Q1.out.size (fun g hg => (HO1.out.lt g hg).1))
      have hown4 : w4.ownsRow w3.heap.size 9 1 r' n3 (strsV M) := by simpa using hown4
      have HO2 := Lib.hid (hown4.alloc (.cells #[.string Z] 9))
      have Q3 := Lib.hid (Q2.out.alloc Q2.out.size (.cells #[.string Z] 9))
      have HNW := Lib.hid (Rd.new w4 9 #[.string Z] (0, 0))
      clear hown4 hgrow
      go_wp2_with (at_builtin; refine wpList_append_rd_want _ (by first | rfl | simp [Region.wanted, yielded]) _ _ 23 rfl w3.heap.size 9 i0 (.string ByteArray.empty) 1 16 Try.underlying23 hi.out hz0.out hz1.out hz2.out rfl (by decide) _ _ _ rfl HO2.out (w4.heap.size + 1) (some ⟨w4.heap.size, 0, none⟩) 1 1 [.string Z] rfl rfl HNW.out ?e2 ?e3 ?e4 ?e5 ?_)
      case e2 => first | exact rfl | (intro u hu; simp only [List.mem_cons, List.not_mem_nil, or_false] at hu; subst hu; rfl)
      case e3 => unfold maxLen; omega
      case e4 => omega
      case e5 => have := Q2.out.size; simp; omega
      intro r5 w5 hown5 hgrow
      have Q4 := Lib.hid (Q3.out.grown hgrow Q3.out.size (fun g hg => (HO2.out.lt g hg).1))
      have hown6 : w5.ownsRow w3.heap.size 9 1 r5 (n3 + 1) (strsV L) := by
        rw [← HY.out, strsV_append, strsV, strsV, List.map_singleton, HZ.out]; exact hown5
      have E5 := Lib.hid (StrW.own hown6)
      have F5 := Lib.hid (E3.out.up Q4.out)
      have G5 := Lib.hid (G3.out.up Q4.out)
      have B5 := Lib.hid (B3.out.trans (Q4.out.mono B3.out.size))
      clear hown5 hown6 hgrow Q1 Q2 Q3 Q4 HO1 HO2 HNW HR4
      go_wp2_with fail
      refine (rSameP E5.out F5.out (by have := HL8.out; omega) (by have := HL8.out; omega)).mono ?_
      rintro e w6 ⟨rfl, hb⟩
      have B6 := Lib.hid (B5.out.trans (hb.mono B5.out.size))
      have F6 := Lib.hid (F5.out.up hb)
      have G6 := Lib.hid (G5.out.up hb)
      rw [decide_eq_true (rfl : L = L)]
      clear hb
      go_wp2_with fail
      refine (HU.out.call L M _ _ _ _ _ _ _ F6.out G6.out (by omega) (by omega) B6.out).mono ?_
      rintro e w7 ⟨rfl, hb⟩
      have B7 := Lib.hid (B6.out.trans (hb.mono B6.out.size))
      have F7 := Lib.hid (F6.out.up hb)
      have G7 := Lib.hid (G6.out.up hb)
      rw [HUC.out]
      clear hb
      go_wp2_with fail
      refine (HU.out.call M L _ _ _ _ _ _ _ G7.out F7.out (by omega) (by omega) B7.out).mono ?_
      rintro e w8 ⟨rfl, hb⟩
      have B8 := Lib.hid (B7.out.trans (hb.mono B7.out.size))
      have F8 := Lib.hid (F7.out.up hb)
      rw [HUL.out]
      clear hb
      go_wp2_with fail
      refine (HU.out.call L L _ _ _ _ _ _ _ F8.out F8.out (by omega) (by omega) B8.out).mono ?_
      rintro e w9 ⟨rfl, hb⟩
      have B9 := Lib.hid (B8.out.trans (hb.mono B8.out.size))
      rw [HUS.out]
      clear hb
      go_wp2_with fail
      refine (HAW.out.call _ B9.out).mono ?_
      rintro e w10 ⟨rfl, hb⟩
      have B10 := Lib.hid (B9.out.trans (hb.mono B9.out.size))
      clear hb
      go_wp2
      go_ret
      exact ⟨rfl, B10.out⟩
  · obtain rfl : p = q := by have h := HDP.out; rw [if_pos h0] at h; exact h
    obtain rfl : R = [] := by have h := HDR.out; rw [if_neg h0] at h; exact h
    obtain rfl : Y = [] := by have h := HDX.out; rw [if_neg h0] at h; exact h
    obtain rfl : n3 = 0 := HN3.out.symm
    have hqn : (p == 0) = false := beq_false_of_ne h0
    have hqn2 : (p != 0) = true := by rw [bne, hqn]; rfl
    have hst : str [] = ⟨#[]⟩ := rfl
    rw [hst]
    clear hst
    go_wp2_with fail
    refine (HAW.out.call _ B3.out).mono ?_
    rintro e w7 ⟨rfl, hb⟩
    have B7 := Lib.hid (B3.out.trans (hb.mono B3.out.size))
    clear hb
    go_wp2
    go_ret
    exact ⟨rfl, B7.out⟩
end Go.Proofs.Ytlenfocdhchphaa
