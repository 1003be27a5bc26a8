/-
  What the document's answers of layer 9 are: cut.
-/
import Derived.Test.YtopjajfkncnihaaRef09d
namespace Go.Proofs.Ytopjajfkncnihaa
open Go.RowKit
set_option maxRecDepth 100000
set_option linter.unusedVariables false

theorem cutL_drop {X : List Tk} {k : Nat} {x : Tk} (h : X[k]? = some x) (out : List UInt8) (n : Nat) :
    cutL (X.drop k) out n = if signT x = false then cutL (X.drop (k + 1)) out n else if n = 16 ∨ 24 < out.length + x.s.length then out else cutL (X.drop (k + 1)) (out ++ x.s) (n + 1) := by
  obtain ⟨hk, rfl⟩ := List.getElem?_eq_some_iff.1 h
  rw [List.drop_eq_getElem_cons hk, cutL]

set_option maxHeartbeats 8000000 in
theorem refCut_any (l : List UInt8) (w : World) (hl : l.length ≤ 4398046511104) :
    Calls Try.prog 33 #[.string (str l)] w fun e w' => e = .returned (.string (str (cutT l))) ∧ Below w.heap.size w w' := by
  have HR := Lib.hid (refRunes_any l w hl)
  have htl := toks_len l
  have HJ := Lib.hid (joinT_take_len l)
  obtain ⟨H, hH⟩ : ∃ H, cutT l = H := ⟨_, rfl⟩
  obtain ⟨X, hX⟩ : ∃ X, toks l = X := ⟨_, rfl⟩
  have HH : Hid (cutL X [] 0 = H) := by show _ = _; rw [← hH, ← hX]; rfl
  rw [hX] at HR htl HJ
  rw [hH]
  obtain ⟨s, hs⟩ : ∃ s, str l = s := ⟨_, rfl⟩
  rw [hs] at HR ⊢
  clear hX hs hH
  go_enter Try.func33, Try.ntmps33
  go_wp2_with fail
  refine HR.out.mono ?_
  rintro e w1 ⟨v, rfl, ⟨A, n, c, rfl, hn, hnc, hcm, hr⟩, hb1⟩
  have HB := Lib.hid hb1
  have HRD := Lib.hid hr
  have HN := Lib.hid hn
  have hnl : n ≤ 4398046511104 := by omega
  unfold maxLen at hcm
  clear hr hb1 hn HR
  go_wp2
  go_loopw [4, 5, 6] (fun o u i wr => ∃ (k m z : Nat) (out : List UInt8) (S : ByteArray), k ≤ n ∧ i = .int .i64 (k : Int) ∧ u = .int .i64 (m : Int) ∧ m ≤ 16 ∧ z ≤ 24 ∧ Hid (out.length = z) ∧ Hid (str out = S) ∧ o = .string S ∧ Hid (cutL (X.drop k) out m = H) ∧ Hid (Below w1.heap.size w1 wr)) (fun _ _ i _ => n - (intOf i).toNat)
  case atStart => exact ⟨0, 0, 0, [], _, Nat.zero_le _, rfl, rfl, by omega, by omega, rfl, rfl, rfl, HH.out, Below.refl _ _⟩
  case round =>
    obtain ⟨k, m, z, out, S, hk, rfl, rfl, hm, hz, HZ, HS, rfl, HC, HBR⟩ := hrel
    by_cases hlt : k < n
    · obtain ⟨x, hx⟩ : ∃ x, X[k]? = some x := ⟨_, List.getElem?_eq_getElem (by rw [HN.out]; exact hlt)⟩
      obtain ⟨b, o, rfl, -, hc⟩ := (HRD.out.below HBR.out).plain (by rw [tksV_length, HN.out]; omega)
      obtain ⟨n0, n1, n2⟩ := tksV_get X k x hx
      have c0 := hc _ _ n0
      have c1 := hc _ _ n1
      have c2 := hc _ _ n2
      have hbB : b < wr.heap.size := by
        obtain ⟨ad, e, h1, _⟩ := ((HRD.out.below HBR.out).mono HBR.out.size) _ _ n0
        cases e; exact h1
      rw [← Nat.add_assoc] at c1 c2
      have HCD := Lib.hid (cutL_drop hx out m)
      cases ho : signT x with
      | false =>
        rw [ho, if_pos rfl] at HCD
        have HC2 : Hid (cutL (X.drop (k + 1)) out m = H) := by show _ = _; rw [← HCD.out]; exact HC.out
        have HSG := Lib.hid (refSign_any x false wr ho)
        obtain ⟨T, hT⟩ : ∃ T, str x.s = T := ⟨_, rfl⟩
        rw [hT] at c1 HSG
        clear hx hc n0 n1 n2 ho hT HCD
        go_wp2_with fail
        refine HSG.out.mono ?_
        rintro e w2 ⟨rfl, hb2⟩
        have HB2 := Lib.hid (HBR.out.trans (hb2.mono HBR.out.size))
        clear hb2
        go_wp2
        go_roundw
        case rel => exact ⟨k + 1, m, z, out, S, by omega, by go_num, rfl, hm, hz, HZ.out, HS.out, rfl, HC2.out, HB2.out⟩
        case measure => simp [intOf]; omega
      | true =>
        rw [ho, if_neg (by decide), HZ.out] at HCD
        have HSG := Lib.hid (refSign_any x true wr ho)
        have hxz : (str x.s).size = x.s.length := str_size x.s
        have hSz : S.size = z := by rw [← HS.out, str_size, HZ.out]
        obtain ⟨y, hy⟩ : ∃ y, x.s.length = y := ⟨_, rfl⟩
        have HY := Lib.hid hy
        rw [hy] at HCD hxz
        have hyb : y ≤ 4398046511104 := by
          have h1 := HJ.out (k + 1)
          rw [joinT_take_succ hx, List.length_append] at h1
          omega
        obtain ⟨T, hT⟩ : ∃ T, str x.s = T := ⟨_, rfl⟩
        rw [hT] at c1 HSG hxz
        have HTT := Lib.hid hT
        clear hx hc n0 n1 n2 ho hT hy
        go_wp2_with fail
        refine HSG.out.mono ?_
        rintro e w2 ⟨rfl, hb2⟩
        have HB2 := Lib.hid (HBR.out.trans (hb2.mono HBR.out.size))
        have d1 := (hb2.cell (p := ⟨b, o + k * 3 + 1, none⟩) hbB).trans c1
        clear hb2 c0 c1 c2 HSG
        by_cases g1 : m = 16
        · have HE : Hid (str out = str H) := by show _ = _; rw [← HC.out, HCD.out, if_pos (.inl g1)]
          have HBF := Lib.hid (HB.out.trans (HB2.out.mono HB.out.size))
          have HRS : Hid (S = str H) := by show _ = _; rw [← HS.out]; exact HE.out
          subst g1
          go_wp2
          go_ret
          exact ⟨ret_str HRS.out, HBF.out⟩
        · have g1' : ((m : Int) == 16) = false := by simp; omega
          by_cases g2 : 24 < z + y
          · have HE : Hid (str out = str H) := by show _ = _; rw [← HC.out, HCD.out, if_pos (.inr g2)]
            have HBF := Lib.hid (HB.out.trans (HB2.out.mono HB.out.size))
            have HRS : Hid (S = str H) := by show _ = _; rw [← HS.out]; exact HE.out
            have g2' : (24 : Int) < (z : Int) + (y : Int) := by omega
            go_wp2
            go_ret
            exact ⟨ret_str HRS.out, HBF.out⟩
          · have g2' : ¬ (24 : Int) < (z : Int) + (y : Int) := by omega
            have HC2 : Hid (cutL (X.drop (k + 1)) (out ++ x.s) (m + 1) = H) := by show _ = _; rw [← HC.out, HCD.out, if_neg (by omega)]
            have HS2 : Hid (str (out ++ x.s) = S ++ T) := by show _ = _; rw [← str_append, HS.out, HTT.out]
            have HZ2 : Hid ((out ++ x.s).length = z + y) := by show _ = _; rw [List.length_append, HZ.out, HY.out]
            have hos : S.size + T.size ≤ 4398046511104 := by omega
            have hm15 : m + 1 ≤ 16 := by omega
            have hzy : z + y ≤ 24 := by omega
            go_wp2
            all_goals first | (exfalso; omega; done) | skip
            go_roundw
            case rel => exact ⟨k + 1, m + 1, z + y, out ++ x.s, S ++ T, by omega, by go_num, by go_num, hm15, hzy, HZ2.out, HS2.out, rfl, HC2.out, HB2.out⟩
            case measure => simp [intOf]; omega
    · obtain rfl : k = n := by omega
      have HE : Hid (str out = str H) := by
        show _ = _
        rw [← HC.out, List.drop_of_length_le (by rw [HN.out]; exact Nat.le_refl _)]; rfl
      have HBF := Lib.hid (HB.out.trans (HBR.out.mono HB.out.size))
      have HRS : Hid (S = str H) := by show _ = _; rw [← HS.out]; exact HE.out
      go_wp2
      go_ret
      exact ⟨ret_str HRS.out, HBF.out⟩

end Go.Proofs.Ytopjajfkncnihaa
