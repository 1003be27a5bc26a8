/-
  What the document's answers of layer 9 are: Head, cut, Fit, Fold.
-/
import Derived.Test.YtopjajfkncnihaaRef09c
namespace Go.Proofs.Ytopjajfkncnihaa
open Go.RowKit
set_option maxRecDepth 100000
set_option linter.unusedVariables false

theorem joinT_take_succ {X : List Tk} {k : Nat} {x : Tk} (h : X[k]? = some x) : joinT (X.take (k + 1)) = joinT (X.take k) ++ x.s := by
  rw [List.take_add_one, h, joinT_append]; simp [joinT]
theorem joinT_take_len (l : List UInt8) (k : Nat) : (joinT ((toks l).take k)).length ≤ l.length := by
  have h : joinT ((toks l).take k) ++ joinT ((toks l).drop k) = l := by rw [← joinT_append, List.take_append_drop, join_toks]
  have := congrArg List.length h
  rw [List.length_append] at this
  omega

set_option maxHeartbeats 4000000 in
theorem refHead_any (l : List UInt8) (q : Int) (w : World) (hl : l.length ≤ 4398046511104) :
    Calls Try.prog 17 #[.string (str l), .int .i64 q] w fun e w' => e = .returned (.string (str (headT l q))) ∧ Below w.heap.size w w' := by
  have HR := Lib.hid (refRunes_any l w hl)
  have htl := toks_len l
  have HJ := Lib.hid (joinT_take_len l)
  obtain ⟨H, hH⟩ : ∃ H, headT l q = H := ⟨_, rfl⟩
  obtain ⟨X, hX⟩ : ∃ X, toks l = X := ⟨_, rfl⟩
  have HH : Hid (joinT (X.take q.toNat) = H) := by show _ = _; rw [← hH, ← hX]; rfl
  rw [hX] at HR htl HJ
  rw [hH]
  obtain ⟨s, hs⟩ : ∃ s, str l = s := ⟨_, rfl⟩
  rw [hs] at HR ⊢
  clear hX hs hH
  go_enter Try.func17, Try.ntmps17
  go_wp2_with fail
  refine HR.out.mono ?_
  rintro e w1 ⟨v, rfl, ⟨A, n, c, rfl, hn, hnc, hcm, hr⟩, hb1⟩
  have HB := Lib.hid hb1
  have HRD := Lib.hid hr
  have HN := Lib.hid hn
  have hnl : n ≤ 4398046511104 := by omega
  unfold maxLen at hcm
  clear hr hb1 hn HR
  go_wp2
  go_loop [6, 7] (fun o i => ∃ (k : Nat) (O : ByteArray), k ≤ n ∧ i = .int .i64 (k : Int) ∧ Hid (k ≤ q.toNat) ∧ Hid (str (joinT (X.take k)) = O) ∧ o = .string O) (fun _ i => n - (intOf i).toNat)
  case atStart => exact ⟨0, _, Nat.zero_le _, rfl, Nat.zero_le _, rfl, rfl⟩
  case round =>
    obtain ⟨k, O, hk, rfl, HKQ, HO, rfl⟩ := hrel
    by_cases hlt : k < n
    · by_cases hq : (k : Int) < q
      · obtain ⟨x, hx⟩ : ∃ x, X[k]? = some x := ⟨_, List.getElem?_eq_getElem (by rw [HN.out]; exact hlt)⟩
        obtain ⟨b, o, rfl, -, hc⟩ := HRD.out.plain (by rw [tksV_length, HN.out]; omega)
        obtain ⟨n0, n1, n2⟩ := tksV_get X k x hx
        have c1 := hc _ _ n1
        rw [← Nat.add_assoc] at c1
        have HS : Hid (str (joinT (X.take (k + 1))) = O ++ str x.s) := by show _ = _; rw [joinT_take_succ hx, ← HO.out, str_append]
        obtain ⟨S, hS⟩ : ∃ S, str x.s = S := ⟨_, rfl⟩
        rw [hS] at c1 HS
        have hos : O.size + S.size ≤ 4398046511104 := by
          have h1 := HJ.out (k + 1)
          rw [joinT_take_succ hx, List.length_append] at h1
          rw [← hS, ← HO.out, str_size, str_size]
          omega
        clear hx hc n0 n1 n2 hS
        go_wp2
        all_goals first | (exfalso; omega; done) | skip
        go_round
        case rel => exact ⟨k + 1, _, by omega, by go_num, by show _ ≤ _; omega, HS.out, rfl⟩
        case measure => simp [intOf]; omega
      · have hE : X.take k = X.take q.toNat := by
          have := HKQ.out
          rw [show k = q.toNat by omega]
        have HE : Hid (O = str H) := by show _ = _; rw [← HO.out, hE, HH.out]
        clear hE
        go_wp2
        go_ret
        exact ⟨ret_str HE.out, HB.out⟩
    · obtain rfl : k = n := by omega
      have hE : X.take k = X.take q.toNat := by
        have := HKQ.out
        rw [List.take_of_length_le (by rw [HN.out]; exact Nat.le_refl _), List.take_of_length_le (by rw [HN.out]; omega)]
      have HE : Hid (O = str H) := by show _ = _; rw [← HO.out, hE, HH.out]
      clear hE
      go_wp2
      go_ret
      exact ⟨ret_str HE.out, HB.out⟩

end Go.Proofs.Ytopjajfkncnihaa
