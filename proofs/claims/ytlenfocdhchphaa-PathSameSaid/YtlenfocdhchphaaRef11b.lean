/-
  What the document's answers of layer 11 are: Parse.
-/
import Derived.Test.YtlenfocdhchphaaRef11
import Derived.Test.YtlenfocdhchphaaRef09c
namespace Go.Proofs.Ytlenfocdhchphaa
open Go.RowKit
set_option maxRecDepth 100000
set_option linter.unusedVariables false

theorem cutS_len (s : List UInt8) : (cutS s).length ≤ s.length + 1 := by
  have h : ∀ (s : List UInt8) (L : List (List UInt8)), 1 ≤ L.length → (s.foldl cutStep L).length ≤ L.length + s.length := by
    intro s
    induction s with
    | nil => intro L _; exact Nat.le_refl _
    | cons c s ih =>
      intro L hL
      have h1 := ih (cutStep L c) (cutStep_len L c hL)
      have h2 : (cutStep L c).length ≤ L.length + 1 := by
        unfold cutStep
        split
        · simp
        · rw [List.length_append, List.length_dropLast, List.length_singleton]; omega
      simp only [List.foldl_cons, List.length_cons]; omega
  have := h s [[]] (by decide)
  unfold cutS
  simp only [List.length_singleton] at this
  omega
theorem cutS_short : ∀ (s : List UInt8) (L : List (List UInt8)) (m : Nat), (∀ x ∈ L, x.length ≤ m) → ∀ x ∈ s.foldl cutStep L, x.length ≤ m + s.length
  | [], L, m, h => fun x hx => by have := h x hx; simp only [List.length_nil]; omega
  | c :: s, L, m, h => by
    have h1 : ∀ x ∈ cutStep L c, x.length ≤ m + 1 := fun x hx => by
      unfold cutStep at hx
      split at hx
      · rcases List.mem_append.1 hx with hx | hx
        · have := h x hx; omega
        · rw [List.mem_singleton.1 hx]; simp
      · rcases List.mem_append.1 hx with hx | hx
        · have := h x (List.dropLast_subset _ hx); omega
        · rw [List.mem_singleton.1 hx, List.length_append, List.length_singleton]
          cases hl : L.getLast? with
          | none => simp
          | some y => have := h y (List.mem_of_getLast? hl); simp only [Option.getD_some]; omega
    intro x hx
    have := cutS_short s _ (m + 1) h1 x hx
    simp only [List.length_cons]; omega

set_option maxHeartbeats 8000000 in
theorem refParse11_any (s : List UInt8) (w : World) (hl : s.length ≤ 1000000) :
    Calls Try.prog 9 #[.string (str s)] w fun e w' => ∃ v, e = .returned (.tuple #[v, .int .i64 (parseP s).2]) ∧ StrW w' (parseP s).1 v ∧ Below w.heap.size w w' := by
  obtain ⟨i0, hi, hz0, hz1, hz2⟩ := info_parts info_strP
  have hi := Lib.hid hi
  have hz0 := Lib.hid hz0
  have hz1 := Lib.hid hz1
  have hz2 := Lib.hid hz2
  have hsz := str_size s
  have HIX := Lib.hid (index_str s)
  have HCU := Lib.hid (refCut11_any s w hl)
  have HPS : Hid (∀ x ∈ cutS s, x.length ≤ 1000000) := fun x hx => by
    have := cutS_short s [[]] 0 (fun x hx => by rw [List.mem_singleton.1 hx]; simp) x hx
    omega
  have HPL := Lib.hid (cutS_len s)
  obtain ⟨q, hq⟩ : ∃ q, (parseP s).2 = q := ⟨_, rfl⟩
  obtain ⟨R, hR⟩ : ∃ R, (parseP s).1 = R := ⟨_, rfl⟩
  have HPP : Hid (parseP s = (R, q)) := by show _ = _; rw [← hR, ← hq]
  rw [hq, hR]
  obtain ⟨S, hS⟩ : ∃ S, str s = S := ⟨_, rfl⟩
  obtain ⟨n, hn⟩ : ∃ n, s.length = n := ⟨_, rfl⟩
  rw [hS] at hsz HIX HCU ⊢
  rw [hn] at hsz hl HIX HPL
  have HN := Lib.hid hn
  clear hS hn hq hR
  by_cases h0 : n = 0
  · subst h0
    have hs0 : s = [] := List.length_eq_zero_iff.1 HN.out
    have hp : parseP s = ([], 11) := by rw [hs0]; rfl
    rw [HPP.out] at hp
    injection hp with e1 e2
    subst e1 e2
    go_enter Try.func9, Try.ntmps9
    go_wp2
    go_ret2
    exact ⟨_, rfl, StrW.nil_ _, Below.refl _ _⟩
  · have hix := HIX.out 0 (by omega) w
    obtain ⟨ch, hch⟩ : ∃ ch, s[0]? = some ch := ⟨_, List.getElem?_eq_getElem (by rw [HN.out]; omega)⟩
    rw [octP_some hch] at hix
    have hhd : s.head? = some ch := by rw [List.head?_eq_getElem?]; exact hch
    have hn0 : ((n : Int) == 0) = false := beq_false_of_ne (by omega)
    have hix : (Instr.index 9 (.string S) (.int .i64 0)).run Try.prog w = .ok (.int .u8 (ch.toNat : Int)) w := hix
    by_cases h47 : ch = 47
    · have hc47 : (ch.toNat : Int) = 47 := by rw [h47]; rfl
      rw [hc47] at hix
      by_cases h200 : 200 < n
      · have hp : parseP s = ([], 16) := by unfold parseP; rw [hhd, h47, if_neg (by simp), HN.out, if_pos h200]
        rw [HPP.out] at hp
        injection hp with e1 e2
        subst e1 e2
        have h200' : (200 : Int) < (n : Int) := by omega
        clear h0 h200 hch hhd h47 hc47
        go_enter Try.func9, Try.ntmps9
        go_wp2
        go_ret2
        exact ⟨_, rfl, StrW.nil_ _, Below.refl _ _⟩
      · have hp : parseP s = goP (cutS s) [] := by unfold parseP; rw [hhd, h47, if_neg (by simp), HN.out, if_neg h200]
        rw [HPP.out] at hp
        obtain ⟨P, hP⟩ : ∃ P, cutS s = P := ⟨_, rfl⟩
        rw [hP] at HPS HPL HCU hp
        have HGO := Lib.hid hp.symm
        have h200' : ¬ (200 : Int) < (n : Int) := by omega
        have hn2 : n ≤ 200 := by omega
        clear h0 h200 hch hhd h47 hc47 hp hP
        go_enter Try.func9, Try.ntmps9
        go_wp2_with fail
        refine HCU.out.mono ?_
        rintro e w1 ⟨v1, rfl, hE, hb⟩
        obtain ⟨A1, n1, c1, rfl, hn1, -, -, -⟩ := id hE
        have E1 := Lib.hid hE
        have HB1 := Lib.hid hb
        have hn1s : n1 ≤ 1000 := by have := HPL.out; omega
        clear hE hb hn1 hix HCU
        go_wp2
        go_loopw [5, 6] (fun r a wr => ∃ (i : Nat) (out : List (List UInt8)) (k : Nat), i ≤ n1 ∧ a = .int .i64 (i : Int) ∧ k ≤ 8 ∧ Hid (out.length = k) ∧ Hid (goP (P.drop i) out = (R, q)) ∧ Hid (wr.ownsRow w1.heap.size 9 1 r k (strsV out)) ∧ Hid (Below w1.heap.size w1 wr)) (fun _ a _ => n1 - (intOf a).toNat)
        case atStart => exact ⟨0, [], 0, Nat.zero_le _, rfl, Nat.zero_le _, rfl, HGO, ⟨rfl, .inl ⟨rfl, rfl⟩⟩, Below.refl _ _⟩
        case round =>
          clear HGO
          obtain ⟨i, out, k, hin, rfl, hk8, HOL, HG, HOWN, HB⟩ := hrel
          have E1 := Lib.hid (E1.out.up HB.out)
          obtain ⟨Ar, cr, hre, hcr, hcm⟩ := own_len HOWN.out
          subst hre
          by_cases hlt : i < n1
          · obtain ⟨x, hx⟩ : ∃ x, P[i]? = some x := ⟨_, List.getElem?_eq_getElem (by rw [E1.out.parts.1]; exact hlt)⟩
            have HRL := Lib.hid E1.out.parts.2.2.2
            obtain ⟨b, o, rfl, -, -⟩ := HRL.out.plain (by rw [strsV_len, E1.out.parts.1]; omega)
            have c0 := strs_at HRL.out hx
            have hd : P.drop i = x :: P.drop (i + 1) := by
              obtain ⟨h1, h2⟩ := List.getElem?_eq_some_iff.1 hx
              rw [List.drop_eq_getElem_cons h1, h2]
            have HG2 := HG.out
            rw [hd, goP] at HG2
            have HG2 := Lib.hid HG2
            have hxl := HPS.out x (List.mem_of_getElem? hx)
            have HIS := Lib.hid fun w' => refIs_any x w' (by omega)
            have hst : (str x).toList = x := str_toList x
            have HXX : Hid (str x = str x) := rfl
            obtain ⟨X, hX⟩ : ∃ X, str x = X := ⟨_, rfl⟩
            have HX0 := Lib.hid hX
            rw [hX] at c0 HIS hst
            clear hd HXX hX
            by_cases a1 : x = []
            · have hg : goP (P.drop (i + 1)) out = (R, q) := by have h := HG2.out; rwa [if_pos (.inl a1)] at h
              have HG3 := Lib.hid hg
              rw [a1] at hst
              clear hg a1 hx hxl
              go_wp2
              go_roundw
              case rel => exact ⟨i + 1, out, k, by omega, by go_num, hk8, HOL, HG3, HOWN, HB⟩
              case measure => simp [intOf]; omega
            · by_cases a2 : x = [46]
              · have hg : goP (P.drop (i + 1)) out = (R, q) := by have h := HG2.out; rwa [if_pos (.inr a2)] at h
                have HG3 := Lib.hid hg
                rw [a2] at hst
                clear hg a1 a2 hx hxl
                go_wp2
                go_roundw
                case rel => exact ⟨i + 1, out, k, by omega, by go_num, hk8, HOL, HG3, HOWN, HB⟩
                case measure => simp [intOf]; omega
              · by_cases a3 : x = [46, 46]
                · have hg : goP (P.drop (i + 1)) out.dropLast = (R, q) := by have h := HG2.out; rwa [if_neg (fun h => h.elim a1 a2), if_pos a3] at h
                  have HG3 := Lib.hid hg
                  rw [a3] at hst
                  clear hg a1 a2 a3 hx hxl
                  by_cases k0 : k = 0
                  · subst k0
                    have HD : Hid (out.dropLast = out) := by
                      show _ = _
                      rw [List.length_eq_zero_iff.1 HOL.out]; rfl
                    rw [HD.out] at HG3
                    go_wp2
                    go_roundw
                    case rel => exact ⟨i + 1, out, 0, by omega, by go_num, hk8, HOL, HG3, HOWN, HB⟩
                    case measure => simp [intOf]; omega
                  · obtain ⟨j, rfl⟩ : ∃ j, k = j + 1 := ⟨k - 1, by omega⟩
                    obtain ⟨g2, c2, hg2, -, -, -, -, -⟩ := own_some HOWN.out (by omega)
                    injection hg2 with hg2 _ hg3
                    subst hg2 hg3
                    have how := own_cut (m := j) HOWN.out (by omega)
                    have HOWN2 : Hid (wr.ownsRow w1.heap.size 9 1 (.slice (some ⟨g2, 0, none⟩) j cr) j (strsV out.dropLast)) := by
                      show World.ownsRow _ _ _ _ _ _ _
                      rw [List.dropLast_eq_take, strsV_take, HOL.out]; exact how
                    have HOL2 : Hid (out.dropLast.length = j) := by show _ = _; rw [List.length_dropLast, HOL.out]; rfl
                    have hkj : ((j + 1 : Nat) : Int) - 1 = (j : Int) := by omega
                    have hjc : (j : Int) ≤ (cr : Int) := by omega
                    have hpos : (0 : Int) < ((j + 1 : Nat) : Int) := by omega
                    have hcz : (cr : Int) ≤ 9223372036854775807 := by unfold maxLen at hcm; omega
                    clear how hcm k0
                    go_wp2
                    go_roundw
                    case rel => exact ⟨i + 1, out.dropLast, j, by omega, by go_num, by omega, HOL2, HG3, HOWN2, HB⟩
                    case measure => simp [intOf]; omega
                · have hg := HG2.out
                  rw [if_neg (fun h => h.elim a1 a2), if_neg a3] at hg
                  have z1 : x.isEmpty = false := by cases x with | nil => exact absurd rfl a1 | cons => rfl
                  have z2 : (x == [46]) = false := beq_false_of_ne a2
                  have z3 : (x == [46, 46]) = false := beq_false_of_ne a3
                  obtain ⟨t, ht⟩ : ∃ t, isT x = t := ⟨_, rfl⟩
                  rw [ht] at HIS hg
                  have HXI := Lib.hid hx
                  cases t with
                  | false =>
                    rw [if_pos rfl] at hg
                    injection hg with e1 e2
                    subst e1 e2
                    clear a1 a2 a3 hx hxl ht
                    go_wp2_with fail
                    refine (HIS.out _).mono ?_
                    rintro e w2 ⟨rfl, hb⟩
                    have HB2 := Lib.hid (HB.out.trans (hb.mono HB.out.size))
                    clear hb
                    go_wp2
                    go_ret2
                    exact ⟨_, rfl, StrW.nil_ _, HB1.out.trans (HB2.out.mono HB1.out.size)⟩
                  | true =>
                    rw [if_neg (by decide), HOL.out] at hg
                    by_cases k8 : 8 ≤ k
                    · rw [if_pos k8] at hg
                      injection hg with e1 e2
                      subst e1 e2
                      have hk8' : (8 : Int) ≤ (k : Int) := by omega
                      clear a1 a2 a3 hx hxl ht
                      go_wp2_with fail
                      refine (HIS.out _).mono ?_
                      rintro e w2 ⟨rfl, hb⟩
                      have HB2 := Lib.hid (HB.out.trans (hb.mono HB.out.size))
                      clear hb
                      go_wp2
                      go_ret2
                      exact ⟨_, rfl, StrW.nil_ _, HB1.out.trans (HB2.out.mono HB1.out.size)⟩
                    · rw [if_neg k8] at hg
                      have HG3 := Lib.hid hg
                      have hk8' : ¬ (8 : Int) ≤ (k : Int) := by omega
                      have HV : Hid (strsV (out ++ [x]) = strsV out ++ [.string X]) := by show _ = _; rw [strsV_append, ← HX0.out]; rfl
                      have HOL2 : Hid ((out ++ [x]).length = k + 1) := by show _ = _; rw [List.length_append, HOL.out]; rfl
                      clear a1 a2 a3 hx hxl ht hg
                      go_wp2_with fail
                      refine (HIS.out _).mono ?_
                      rintro e w2 ⟨rfl, hb⟩
                      have HB2 := Lib.hid (HB.out.trans (hb.mono HB.out.size))
                      have E2 := Lib.hid (E1.out.up hb)
                      have HOWN2 := Lib.hid ((own_upP HOWN.out hb).alloc (.cells #[.string X] 9))
                      have HB3 := Lib.hid (HB2.out.alloc HB2.out.size (.cells #[.string X] 9))
                      have HNW := Lib.hid (Rd.new w2 9 #[.string X] (0, 0))
                      have c1 := strs_at E2.out.parts.2.2.2 HXI.out
                      rw [HX0.out] at c1
                      clear hb
                      go_wp2_with (at_builtin; refine wpList_append_rd _ rfl _ _ 23 rfl w1.heap.size 9 i0 (.string ByteArray.empty) 1 16 Try.underlying23 hi.out hz0.out hz1.out hz2.out rfl (by decide) _ _ _ rfl HOWN2.out (w2.heap.size + 1) (some ⟨w2.heap.size, 0, none⟩) 1 1 [.string X] rfl rfl HNW.out ?c2 ?c3 ?c4 ?c5 ?_)
                      case c2 => first | exact rfl | (intro u hu; simp only [List.mem_cons, List.not_mem_nil, or_false] at hu; subst hu; rfl)
                      case c3 => unfold maxLen; omega
                      case c4 => omega
                      case c5 => have := HB2.out.size; simp; omega
                      intro r' w7 hown7 hgrow
                      have HB7 := Lib.hid (HB3.out.grown hgrow HB3.out.size (fun g hg => (HOWN2.out.lt g hg).1))
                      have HOWN7 : Hid (w7.ownsRow w1.heap.size 9 1 r' (k + 1) (strsV (out ++ [x]))) := by
                        show World.ownsRow _ _ _ _ _ _ _
                        rw [HV.out]; exact hown7
                      clear hown7 hgrow HOWN2 HB3 HNW c1
                      go_wp2
                      go_roundw
                      case rel => exact ⟨i + 1, out ++ [x], k + 1, by omega, by go_num, by omega, HOL2, HG3, HOWN7, HB7⟩
                      case measure => simp [intOf]; omega
          · obtain rfl : i = n1 := by omega
            have hg := HG.out
            rw [List.drop_of_length_le (by rw [E1.out.parts.1]; exact Nat.le_refl _), goP] at hg
            injection hg with e1 e2
            subst e1 e2
            have HE := Lib.hid (StrW.own HOWN.out)
            go_wp2
            go_ret2
            exact ⟨_, rfl, HE.out, HB1.out.trans (HB.out.mono HB1.out.size)⟩
    · have hp : parseP s = ([], 11) := by unfold parseP; rw [hhd, if_pos (by simpa using h47)]
      rw [HPP.out] at hp
      injection hp with e1 e2
      subst e1 e2
      have hne : ((ch.toNat : Int) == 47) = false := beq_false_of_ne fun e => h47 (UInt8.toNat_inj.1 (show ch.toNat = 47 by omega))
      clear h0 hch hhd h47
      go_enter Try.func9, Try.ntmps9
      go_wp2
      go_ret2
      exact ⟨_, rfl, StrW.nil_ _, Below.refl _ _⟩
end Go.Proofs.Ytlenfocdhchphaa
