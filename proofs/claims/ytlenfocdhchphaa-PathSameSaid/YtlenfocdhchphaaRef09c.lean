/-
  What the document's answers of layer 9 are: sign, Is, Count, Head.
-/
import Derived.Test.YtlenfocdhchphaaRef09b
import Derived.Deep.DeepCutAuto
import Derived.Deep.CutRange
namespace Go.Proofs.Ytlenfocdhchphaa
open Go.RowKit
set_option maxRecDepth 100000
set_option linter.unusedVariables false

theorem ret_twoT {k k' : IntKind} {a b c d : Int} (h : a = b) (h' : c = d) : Ending.returned (.tuple #[.int k a, .int k' c]) = .returned (.tuple #[.int k b, .int k' d]) := by rw [h, h']
theorem ret_str {a b : ByteArray} (h : a = b) : Ending.returned (.string a) = .returned (.string b) := by rw [h]

set_option maxHeartbeats 2000000 in
theorem refSign_any (x : Tk) (t : Bool) (w : World) (ht : signT x = t) :
    Calls Try.prog 37 #[.agg #[.int .i64 x.v, .string (str x.s), .bool x.odd]] w fun e w' => e = .returned (.bool t) ∧ Below w.heap.size w w' := by
  obtain ⟨v, s, o⟩ := x
  show Calls _ _ #[.agg #[.int .i64 v, .string (str s), .bool o]] _ _
  obtain ⟨T, hT⟩ : ∃ T, str s = T := ⟨_, rfl⟩
  rw [hT]
  have HB := Lib.hid ((Below.refl w.heap.size w).alloc (Nat.le_refl _) (.cells #[.int .i64 v, .string T, .bool o] 58))
  unfold signT at ht
  simp only at ht
  have key : (o = true ∧ t = false) ∨ (o = false ∧ ((v < 32 ∧ t = false) ∨ (v = 127 ∧ t = false) ∨ (v = 47 ∧ t = false) ∨ (32 ≤ v ∧ (v != 127) = true ∧ (v != 47) = true ∧ t = true))) := by
    cases o with
    | true => exact .inl ⟨rfl, by rw [← ht]; rfl⟩
    | false =>
      refine .inr ⟨rfl, ?_⟩
      by_cases h1 : 32 ≤ v
      · by_cases h2 : v = 127
        · exact .inr (.inl ⟨h2, by rw [← ht, h2]; rfl⟩)
        · by_cases h3 : v = 47
          · exact .inr (.inr (.inl ⟨h3, by rw [← ht, h3]; rfl⟩))
          · exact .inr (.inr (.inr ⟨h1, by simp [h2], by simp [h3], by rw [← ht, decide_eq_true h1, decide_eq_true h2, decide_eq_true h3]; rfl⟩))
      · exact .inl ⟨by omega, by rw [← ht, decide_eq_false h1]; rfl⟩
  clear ht hT
  rcases key with ⟨rfl, rfl⟩ | ⟨rfl, ⟨h, rfl⟩ | ⟨rfl, rfl⟩ | ⟨rfl, rfl⟩ | ⟨h1, h2, h3, rfl⟩⟩
  all_goals
    go_enter Try.func37, Try.ntmps37
    go_wp2
    go_ret
    exact ⟨rfl, HB.out⟩

set_option maxHeartbeats 4000000 in
theorem refIs_any (l : List UInt8) (w : World) (hl : l.length ≤ 4398046511104) :
    Calls Try.prog 25 #[.string (str l)] w fun e w' => e = .returned (.bool (isT l)) ∧ Below w.heap.size w w' := by
  have HR := Lib.hid (refRunes_any l w hl)
  have htl := toks_len l
  have hsz := str_size l
  obtain ⟨t, ht⟩ : ∃ t, isT l = t := ⟨_, rfl⟩
  obtain ⟨X, hX⟩ : ∃ X, toks l = X := ⟨_, rfl⟩
  have HI : Hid ((X.all signT && decide (1 ≤ l.length ∧ l.length ≤ 24 ∧ X.length ≤ 16 ∧ l ≠ [46] ∧ l ≠ [46, 46])) = t) := by show _ = _; rw [← ht, ← hX]; rfl
  have HST : Hid ((str l).toList = l) := str_toList l
  rw [hX] at HR htl
  rw [ht]
  obtain ⟨s, hs⟩ : ∃ s, str l = s := ⟨_, rfl⟩
  rw [hs] at HR hsz HST ⊢
  obtain ⟨Z, hZ⟩ : ∃ Z, l.length = Z := ⟨_, rfl⟩
  rw [hZ] at hsz hl htl HI
  clear hX hs ht hZ
  go_enter Try.func25, Try.ntmps25
  go_wp2_with fail
  refine HR.out.mono ?_
  rintro e w1 ⟨v, rfl, ⟨A, n, c, rfl, hn, hnc, hcm, hr⟩, hb1⟩
  have HB := Lib.hid hb1
  have HRD := Lib.hid hr
  have HN := Lib.hid hn
  have hnl : n ≤ 4398046511104 := by omega
  unfold maxLen at hcm
  clear hr hb1 hn HR
  go_wp2
  go_loopw [4] (fun i wr => ∃ k : Nat, k ≤ n ∧ i = .int .i64 (k : Int) ∧ Hid ((X.take k).all signT = true) ∧ Hid (Below w1.heap.size w1 wr)) (fun i _ => n - (intOf i).toNat)
  case atStart => exact ⟨0, Nat.zero_le _, rfl, rfl, Below.refl _ _⟩
  case round =>
    obtain ⟨k, hk, rfl, HU, HBR⟩ := hrel
    by_cases hlt : k < n
    · obtain ⟨x, hx⟩ : ∃ x, X[k]? = some x := ⟨_, List.getElem?_eq_getElem (by rw [HN.out]; exact hlt)⟩
      obtain ⟨b, o, rfl, -, hc⟩ := (HRD.out.below HBR.out).plain (by rw [tksV_length, HN.out]; omega)
      obtain ⟨n0, n1, n2⟩ := tksV_get X k x hx
      have c0 := hc _ _ n0
      have c1 := hc _ _ n1
      have c2 := hc _ _ n2
      rw [← Nat.add_assoc] at c1 c2
      have HT : Hid (X.take (k + 1) = X.take k ++ [x]) := by show _ = _; rw [List.take_add_one, hx]; rfl
      have HXM : Hid (x ∈ X) := List.mem_of_getElem? hx
      cases ho : signT x with
      | false =>
        have HS := Lib.hid (refSign_any x false wr ho)
        have HE : Hid (t = false) := by
          show _ = _
          rw [← HI.out]
          have : X.all signT = false := by
            rw [Bool.eq_false_iff]
            intro h
            have := List.all_eq_true.1 h x HXM.out
            rw [ho] at this; cases this
          rw [this, Bool.false_and]
        obtain ⟨v, S, od⟩ := x
        have HS : Hid (Calls Try.prog 37 #[.agg #[.int .i64 v, .string (str S), .bool od]] wr fun e w' => e = .returned (.bool false) ∧ Below wr.heap.size wr w') := HS.out
        have c0 : wr.cell? ⟨b, o + k * 3, none⟩ = some (.int .i64 v) := c0
        have c1 : wr.cell? ⟨b, o + k * 3 + 1, none⟩ = some (.string (str S)) := c1
        have c2 : wr.cell? ⟨b, o + k * 3 + 2, none⟩ = some (.bool od) := c2
        clear hx hc n0 n1 n2 ho HT
        go_wp2_with fail
        refine HS.out.mono ?_
        rintro e w2 ⟨rfl, hb2⟩
        have HB2 := Lib.hid (HB.out.trans ((HBR.out.trans (hb2.mono HBR.out.size)).mono HB.out.size))
        clear hb2
        go_wp2
        go_ret
        exact ⟨ret_bool HE.out.symm, HB2.out⟩
      | true =>
        have HS := Lib.hid (refSign_any x true wr ho)
        have HU2 : Hid ((X.take (k + 1)).all signT = true) := by show _ = _; rw [HT.out, List.all_append, HU.out]; simp [ho]
        obtain ⟨v, S, od⟩ := x
        have HS : Hid (Calls Try.prog 37 #[.agg #[.int .i64 v, .string (str S), .bool od]] wr fun e w' => e = .returned (.bool true) ∧ Below wr.heap.size wr w') := HS.out
        have c0 : wr.cell? ⟨b, o + k * 3, none⟩ = some (.int .i64 v) := c0
        have c1 : wr.cell? ⟨b, o + k * 3 + 1, none⟩ = some (.string (str S)) := c1
        have c2 : wr.cell? ⟨b, o + k * 3 + 2, none⟩ = some (.bool od) := c2
        clear hx hc n0 n1 n2 ho HT
        go_wp2_with fail
        refine HS.out.mono ?_
        rintro e w2 ⟨rfl, hb2⟩
        have HB2 := Lib.hid (HBR.out.trans (hb2.mono HBR.out.size))
        clear hb2
        go_wp2
        go_roundw
        case rel => exact ⟨k + 1, by omega, by go_num, HU2.out, HB2.out⟩
        case measure => simp [intOf]; omega
    · obtain rfl : k = n := by omega
      have hE : decide (1 ≤ Z ∧ Z ≤ 24 ∧ k ≤ 16 ∧ l ≠ [46] ∧ l ≠ [46, 46]) = t := by
        have h := HU.out
        rw [← HN.out, List.take_length] at h
        rw [← HI.out, h, Bool.true_and, HN.out]
      have HE := Lib.hid hE
      have HB2 := Lib.hid (HB.out.trans (HBR.out.mono HB.out.size))
      clear hE
      by_cases g1 : 1 ≤ Z
      · by_cases g2 : Z ≤ 24
        · by_cases g3 : k ≤ 16
          · have hst := HST.out
            have hF : (!(l == [46]) && !(l == [46, 46])) = t := by
              rw [← HE.out]
              by_cases g4 : l = [46]
              · rw [decide_eq_false (fun h => h.2.2.2.1 g4), g4]; rfl
              · by_cases g5 : l = [46, 46]
                · rw [decide_eq_false (fun h => h.2.2.2.2 g5), g5]; rfl
                · rw [decide_eq_true ⟨g1, g2, g3, g4, g5⟩]; simp [g4, g5]
            have HF := Lib.hid hF
            clear hF
            go_wp2
            all_goals
              go_ret
              refine ⟨ret_bool ?_, HB2.out⟩
              first | exact HF.out | (rw [← HF.out]; simp_all)
          · obtain rfl : t = false := by rw [← HE.out, decide_eq_false (fun h => g3 h.2.2.1)]
            go_wp2
            go_ret
            exact ⟨rfl, HB2.out⟩
        · obtain rfl : t = false := by rw [← HE.out, decide_eq_false (fun h => g2 h.2.1)]
          go_wp2
          go_ret
          exact ⟨rfl, HB2.out⟩
      · obtain rfl : t = false := by rw [← HE.out, decide_eq_false (fun h => g1 h.1)]
        go_wp2
        go_ret
        exact ⟨rfl, HB2.out⟩
end Go.Proofs.Ytlenfocdhchphaa
