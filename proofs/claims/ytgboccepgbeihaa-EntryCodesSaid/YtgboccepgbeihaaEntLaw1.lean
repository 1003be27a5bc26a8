/-
  EntryCodes: the walk, from the properties. (Printed by wip/tools/entlaw1.py.)
-/
import Derived.Test.YtgboccepgbeihaaEntC
import Derived.Deep.DeepCutAuto
import Derived.Deep.CutRange
namespace Go.Proofs.Ytgboccepgbeihaa
open Go.RowKit
set_option maxRecDepth 100000
set_option linter.unusedVariables false

def slotL1 (i : Nat) : Nat := 79 + i
def waitL1 : Nat → List Nat
  | 1 => [0]
  | 3 => [2]
  | 4 => [1, 3]
  | 5 => [4]
  | 6 => [5]
  | 7 => [5, 6]
  | 8 => [5, 7]
  | 9 => [8]
  | 10 => [9]
  | 11 => [9]
  | 12 => [9, 10, 11]
  | 13 => [9, 12]
  | 14 => [13]
  | 15 => [14]
  | 16 => [14, 15]
  | 17 => [14, 16]
  | 18 => [17]
  | 19 => [18]
  | 20 => [18, 19]
  | _ => []
def leaveL1 (A1 A4 A5 : Option Addr) (n1 c1 n4 c4 n5 c5 : Nat) (X : ByteArray) : Nat → Value → World → Prop
  | 0, v, _ => v = .slice A4 n4 c4
  | 1, v, _ => v = .string X
  | 2, v, _ => v = .slice A1 n1 c1
  | 3, v, _ => v = .string X
  | 4, v, _ => v = .bool true
  | 5, v, _ => v = .bool true
  | 6, v, _ => v = .int .i64 0
  | 7, v, _ => v = .bool true
  | 8, v, _ => v = .bool true
  | 9, v, _ => v = .bool true
  | 10, v, _ => v = .slice A5 n5 c5
  | 11, v, _ => v = .slice A1 n1 c1
  | 12, v, _ => v = .bool true
  | 13, v, _ => v = .bool true
  | 14, v, _ => v = .bool true
  | 15, v, _ => v = .int .i64 0
  | 16, v, _ => v = .bool true
  | 17, v, _ => v = .bool true
  | 18, v, _ => v = .bool true
  | 19, v, _ => v = .bool true
  | _, _, _ => True
theorem splitE_len : ∀ (N : Nat) (b : List UInt8) (L : List Et), b.length ≤ N → splitE b = some L → 3 * L.length ≤ b.length := by
  intro N
  induction N with
  | zero =>
    intro b L hb h
    obtain rfl : b = [] := List.length_eq_zero_iff.1 (by omega)
    rw [splitE] at h
    cases h
    exact Nat.le_refl _
  | succ N ih =>
    intro b L hb h
    by_cases h0 : b.length = 0
    · obtain rfl : b = [] := List.length_eq_zero_iff.1 h0
      rw [splitE] at h
      cases h
      exact Nat.le_refl _
    · by_cases h3 : b.length < 3
      · rw [splitE_few (by omega) h3] at h; cases h
      · rw [splitE_three (by omega)] at h
        split at h
        · cases hs : splitE (b.drop (3 + octN b 2)) with
          | none => rw [hs] at h; cases h
          | some M =>
            rw [hs] at h
            cases h
            have := ih _ M (by rw [List.length_drop]; omega) hs
            rw [List.length_drop] at this
            simp only [List.length_cons]
            omega
        · cases h
theorem decE_len (b : List UInt8) : 3 * ((decE b).getD []).length ≤ b.length := by
  unfold decE
  cases h : splitE b with
  | none => exact Nat.zero_le _
  | some L =>
    have := splitE_len b.length b L (Nat.le_refl _) h
    show 3 * (Option.getD (if mayE L then some L else none) []).length ≤ b.length
    split
    · exact this
    · exact Nat.zero_le _

set_option maxHeartbeats 8000000 in
theorem entryCodes_walk (W : World) (HM : MayEC W) (HC : EncEC W) (HD : DecEC W) (HA : AddEC W) (HT : TakeEC W) (A A' : Option Addr) (n c n' c' : Nat) (l : List Et) (b : List UInt8)
    (hl : l.length = n) (hnc : n ≤ c) (hcm : c ≤ maxLen) (hr : Rd W W.heap.size A (etsV l)) (hs : ∀ x ∈ l, inE x) (hl' : b.length = n') (hnc' : n' ≤ c') (hcm' : c' ≤ maxLen) (hr' : Rd W W.heap.size A' (b.map bv)) :
    Calls Try.prog 3 #[.slice A n c, .slice A' n' c'] W fun e w' => e = .returned (.bool true) ∧ Below W.heap.size W w' := by
  have HAW := Lib.hid (awakeE_any HC HA HT)
  have HM := Lib.hid HM
  have HC := Lib.hid HC
  have HD := Lib.hid HD
  have HFW := Lib.hid (fewLoop_any W.heap.size A n c l W hl hnc hcm hr (Nat.le_refl _) hs)
  have HSH := Lib.hid (fewE_short hs)
  have hfl := fewE_len l
  obtain ⟨L, hL⟩ : ∃ L, fewE l = L := ⟨_, rfl⟩
  rw [hL] at HFW HSH hfl
  obtain ⟨nb, hnb⟩ : ∃ nb, nb = min 900 n' := ⟨_, rfl⟩
  have HBY : Hid (BytW W (b.take 900) (.slice A' nb c')) := ⟨_, _, _, rfl, by rw [List.length_take, hl', hnb], by omega, hcm', by rw [List.map_take]; exact hr'.take _⟩
  have hbl : (b.take 900).length ≤ 900 := by rw [List.length_take]; omega
  obtain ⟨bb, hbb⟩ : ∃ bb, b.take 900 = bb := ⟨_, rfl⟩
  rw [hbb] at HBY hbl
  have hDl := decE_len bb
  obtain ⟨D, hDD⟩ : ∃ D, (decE bb).getD [] = D := ⟨_, rfl⟩
  obtain ⟨ok, hok⟩ : ∃ ok, (decE bb).isSome = ok := ⟨_, rfl⟩
  have HDl : Hid (D.length ≤ 300) := by show _ ≤ _; rw [← hDD]; omega
  obtain ⟨q, hq⟩ : ∃ q : Int, (if ok then 0 else 3) = q := ⟨_, rfl⟩
  have HQ := Lib.hid hq
  have HD1 : Hid (∀ w', Below W.heap.size W w' → Calls Try.prog 8 #[.slice A' nb c'] w' fun e w'' => ∃ v, e = .returned (.tuple #[v, .int .i64 q]) ∧ EtsW w'' D v ∧ Below w'.heap.size w' w'') := fun w' hb => by
    have h := HD.out.call bb A' nb c' w' (HBY.out.up hb) (by omega) hb
    rw [hDD, hok, hq] at h
    exact h
  have HD2 : Hid (∀ w', Calls Try.prog 9 #[.string (str bb)] w' fun e w'' => ∃ v, e = .returned (.tuple #[v, .bool ok]) ∧ EtsW w'' D v ∧ Below w'.heap.size w' w'') := fun w' => by
    have h := refDecode10_any bb w' (by omega)
    rw [hDD, hok] at h
    exact h
  obtain ⟨m, hm⟩ : ∃ m, mayE L = m := ⟨_, rfl⟩
  have HMM := Lib.hid hm
  have hcz : (n' : Int) ≤ 9223372036854775807 := by unfold maxLen at hcm'; omega
  have hc9 : n' ≤ c' := hnc'
  clear hl hnc hcm hr hs hL hl' hr' hbb hDl hDD hok hm hcm' hbl hq
  go_enter Try.func3, Try.ntmps3
  go_wp2_with fail
  refine HFW.out.mono ?_
  rintro e w1 ⟨v1, rfl, ⟨A1, n1, c1, rfl, hn1, hnc1, hcm1, hr1⟩, hb1⟩
  have HB1 := Lib.hid hb1
  have HL1 : Hid (EtsW w1 L (.slice A1 n1 c1)) := ⟨_, _, _, rfl, hn1, hnc1, hcm1, hr1⟩
  have hn1s : n1 ≤ 33 := by omega
  clear hn1 hnc1 hcm1 hr1 hb1
  have hfl := hfl
  go_upto_if 17 with fail
  go_cut [1] from 18 to 19 (fun s wx => w1 = wx ∧ s = .slice A' nb c')
  case first =>
    by_cases h : n' ≤ 900
    · have hno : ¬ (900 : Int) < (n' : Int) := by omega
      have hnb' : nb = n' := by omega
      clear hnb h
      subst hnb'
      go_wp2_with fail
      go_meet
      exact ⟨rfl, rfl⟩
    · have hyes : (900 : Int) < (n' : Int) := by omega
      have hcap : (900 : Int) ≤ (c' : Int) := by omega
      have hnb9 : nb = 900 := by omega
      clear hnb h
      subst hnb9
      go_wp2_with fail
      go_meet
      exact ⟨rfl, rfl⟩
  case rest =>
    obtain ⟨rfl, rfl⟩ := hcut
    clear hnb
    go_wp2_with fail
    refine (HD1.out _ HB1.out).mono ?_
    rintro e w2 ⟨v2, rfl, ⟨A2, n2, c2, rfl, hn2, hnc2, hcm2, hr2⟩, hb⟩
    have HB2 := Lib.hid (HB1.out.trans (hb.mono HB1.out.size))
    have HL2 := Lib.hid (HL1.out.up hb)
    have HD2x : Hid (EtsW w2 D (.slice A2 n2 c2)) := ⟨_, _, _, rfl, hn2, hnc2, hcm2, hr2⟩
    have hn2s : n2 ≤ 300 := by rw [← hn2]; exact HDl.out
    have hcv : (convert 23 9 (.slice A' nb c')).run Try.prog w2 = .ok (.string (str bb)) w2 := by
      obtain ⟨p1, p2, p3, p4⟩ := (HBY.out.up HB2.out).parts
      exact run_conv 23 5 9 Try.underlying23 Try.underlying5 Try.underlying9 nb c' p1 p4
    clear hn2 hnc2 hcm2 hr2 hb
    go_wp2_with fail
    refine (HD2.out _).mono ?_
    rintro e w3 ⟨v3, rfl, ⟨A3, n3, c3, rfl, hn3, hnc3, hcm3, hr3⟩, hb⟩
    have HB3 := Lib.hid (HB2.out.trans (hb.mono HB2.out.size))
    have HL3 := Lib.hid (HL2.out.up hb)
    have HD3 := Lib.hid (HD2x.out.up hb)
    have HD3x : Hid (EtsW w3 D (.slice A3 n3 c3)) := ⟨_, _, _, rfl, hn3, hnc3, hcm3, hr3⟩
    have hn3s : n3 ≤ 300 := by rw [← hn3]; exact HDl.out
    clear hn3 hnc3 hcm3 hr3 hb hcv
    go_wp2_with fail
    refine (rSameE HD3.out HD3x.out (by omega) (by omega) true ⟨fun _ => rfl, fun _ => rfl⟩).mono ?_
    rintro e w4 ⟨rfl, hb⟩
    have HB4 := Lib.hid (HB3.out.trans (hb.mono HB3.out.size))
    have HL4 := Lib.hid (HL3.out.up hb)
    clear hb
    rcases (show (ok = true ∧ q = 0) ∨ (ok = false ∧ q = 3) by have h := HQ.out; cases ok; exact .inr ⟨rfl, h.symm⟩; exact .inl ⟨rfl, h.symm⟩) with ⟨rfl, rfl⟩ | ⟨rfl, rfl⟩
    all_goals
      go_wp2_with fail
      refine (HM.out.call L A1 n1 c1 _ HL4.out (by omega) HSH.out HB4.out).mono ?_
      rintro e w5 ⟨rfl, hb⟩
      have HB5 := Lib.hid (HB4.out.trans (hb.mono HB4.out.size))
      have HL5 := Lib.hid (HL4.out.up hb)
      clear hb
      go_wp2_with fail
      refine (rMayE HL5.out (by omega) HSH.out).mono ?_
      rintro e w6 ⟨rfl, hb⟩
      have HB6 := Lib.hid (HB5.out.trans (hb.mono HB5.out.size))
      have HL6 := Lib.hid (HL5.out.up hb)
      clear hb
      rw [HMM.out]
      have hmn : (m != m) = false := by simp
      have hec := HC.out.call L A1 n1 c1 w6 HL6.out (by omega) HSH.out HB6.out
      rw [HMM.out] at hec
      cases m with
      | false =>
        have HEC : Hid (Calls Try.prog 13 #[.slice A1 n1 c1] w6 fun e w' => ∃ v, e = .returned (.tuple #[v, .int .i64 1]) ∧ BytW w' [] v ∧ Below w6.heap.size w6 w') := hec
        clear hmn hec
        go_wp2_with fail
        refine HEC.out.mono ?_
        rintro e w7 ⟨v4, rfl, ⟨A4, n4, c4, rfl, hn4, hnc4, hcm4, hr4⟩, hb⟩
        have HB7 := Lib.hid (HB6.out.trans (hb.mono HB6.out.size))
        have HL7 := Lib.hid (HL6.out.up hb)
        obtain rfl : n4 = 0 := by simpa using hn4.symm
        clear hn4 hnc4 hcm4 hr4 hb
        go_wp2_with fail
        refine (rMayE HL7.out (by omega) HSH.out).mono ?_
        rintro e w8 ⟨rfl, hb⟩
        have HB8 := Lib.hid (HB7.out.trans (hb.mono HB7.out.size))
        clear hb
        rw [HMM.out]
        go_wp2_with fail
        refine (HAW.out.call _ HB8.out).mono ?_
        rintro e w9 ⟨rfl, hb⟩
        have HB9 := Lib.hid (HB8.out.trans (hb.mono HB8.out.size))
        clear hb
        go_wp2
        go_ret
        exact ⟨rfl, HB9.out⟩
      | true =>
        have HEC : Hid (Calls Try.prog 13 #[.slice A1 n1 c1] w6 fun e w' => ∃ v, e = .returned (.tuple #[v, .int .i64 0]) ∧ BytW w' (encE L) v ∧ Below w6.heap.size w6 w') := hec
        clear hmn hec
        have hel := encE_len (l := L) ((mayE_iff L).1 HMM.out).1
        go_wp2_with fail
        refine HEC.out.mono ?_
        rintro e w7 ⟨v4, rfl, hv4, hb⟩
        have HB7 := Lib.hid (HB6.out.trans (hb.mono HB6.out.size))
        have HL7 := Lib.hid (HL6.out.up hb)
        obtain ⟨A4, n4, c4, rfl, hn4, -, -, -⟩ := id hv4
        have HS7 := Lib.hid hv4
        have hn4s : n4 ≤ 1000 := by omega
        clear hn4 hv4 hb hel
        go_wp2_with fail
        refine (rMayE HL7.out (by omega) HSH.out).mono ?_
        rintro e w8 ⟨rfl, hb⟩
        have HB8 := Lib.hid (HB7.out.trans (hb.mono HB7.out.size))
        have HL8 := Lib.hid (HL7.out.up hb)
        have HS8 := Lib.hid (HS7.out.up hb)
        clear hb
        rw [HMM.out]
        have hdec := HD.out.call (encE L) A4 n4 c4 w8 HS8.out hn4s HB8.out
        rw [decE_enc HMM.out] at hdec
        have HDC : Hid (Calls Try.prog 8 #[.slice A4 n4 c4] w8 fun e w' => ∃ v, e = .returned (.tuple #[v, .int .i64 0]) ∧ EtsW w' L v ∧ Below w8.heap.size w8 w') := hdec
        clear hdec
        go_wp2_with fail
        refine HDC.out.mono ?_
        rintro e w5 ⟨v5, rfl, ⟨A5, n5, c5, rfl, hn5, hnc5, hcm5, hr5⟩, hb⟩
        have HD5 : Hid (EtsW w5 L (.slice A5 n5 c5)) := ⟨_, _, _, rfl, hn5, hnc5, hcm5, hr5⟩
        have hn5s : n5 ≤ 1000 := by omega
        have HB7 := Lib.hid (HB8.out.trans (hb.mono HB8.out.size))
        have HL9 := Lib.hid (HL8.out.up hb)
        have HS9 := Lib.hid (HS8.out.up hb)
        clear hn5 hnc5 hcm5 hr5 hb
        have HCV : Hid (∀ w', Below w5.heap.size w5 w' → (convert 23 9 (.slice A4 n4 c4)).run Try.prog w' = .ok (.string (str (encE L))) w') := fun w' hb => by
          obtain ⟨p1, p2, p3, p4⟩ := (HS9.out.up hb).parts
          exact run_conv 23 5 9 Try.underlying23 Try.underlying5 Try.underlying9 n4 c4 p1 p4
        have HEN : Hid (∀ w', Below w5.heap.size w5 w' → Calls Try.prog 15 #[.slice A1 n1 c1] w' fun e w'' => e = .returned (.string (str (encE L))) ∧ Below w'.heap.size w' w'') := fun w' hb => rEncE (HL9.out.up hb) (by omega) HMM.out
        have HSA : Hid (∀ w', Below w5.heap.size w5 w' → Calls Try.prog 10 #[.slice A5 n5 c5, .slice A1 n1 c1] w' fun e w'' => e = .returned (.bool true) ∧ Below w'.heap.size w' w'') := fun w' hb => rSameE (HD5.out.up hb) (HL9.out.up hb) (by omega) (by omega) true ⟨fun _ => rfl, fun _ => rfl⟩
        obtain ⟨X, hX⟩ : ∃ X, str (encE L) = X := ⟨_, rfl⟩
        rw [hX] at HCV HEN
        clear hX
        go_wp2_with fail
        refine wp_region_tail (by kernel_rfl) 20 100 slotL1 waitL1 (leaveL1 A1 A4 A5 n1 c1 n4 c4 n5 c5 X) rfl
          (by kernel_rfl) (fun i v w w' _ _ h => by unfold leaveL1 at *; split at h <;> exact h) ?_ ?_
        · intro i hi
          match i, hi with
          | 0, _ =>
            intro o ho a wc hk hb hd K hK
            cases ho
            have e0 := hk.rest 9 (.slice A4 n4 c4) (by omega) (by kernel_rfl) rfl
            rw [Array.getD_eq_getD_getElem?] at e0
            go_simp
            exact hK _ _ (Below.refl _ _) rfl
          | 1, _ =>
            intro o ho a wc hk hb hd K hK
            cases ho
            have e0 := hd 0 (by simp [waitL1])
            simp only [leaveL1, slotL1, Nat.reduceAdd, Array.getD_eq_getD_getElem?] at e0
            have q := HCV.out _ hb
            go_simp
            exact hK _ _ (Below.refl _ _) rfl
          | 2, _ =>
            intro o ho a wc hk hb hd K hK
            cases ho
            have e0 := hk.rest 0 (.slice A1 n1 c1) (by omega) (by kernel_rfl) rfl
            rw [Array.getD_eq_getD_getElem?] at e0
            go_simp
            exact hK _ _ (Below.refl _ _) rfl
          | 3, _ =>
            intro o ho a wc hk hb hd K hK
            cases ho
            have e0 := hd 2 (by simp [waitL1])
            simp only [leaveL1, slotL1, Nat.reduceAdd, Array.getD_eq_getD_getElem?] at e0
            go_simp
            refine (HEN.out _ hb).mono ?_
            rintro e w9 ⟨rfl, hb9⟩
            exact hK _ _ hb9 rfl
          | 4, _ =>
            intro o ho a wc hk hb hd K hK
            cases ho
            have e0 := hd 1 (by simp [waitL1])
            have e1 := hd 3 (by simp [waitL1])
            simp only [leaveL1, slotL1, Nat.reduceAdd, Array.getD_eq_getD_getElem?] at e0 e1
            go_simp
            exact hK _ _ (Below.refl _ _) rfl
          | 5, _ =>
            intro o ho a wc hk hb hd K hK
            cases ho
            have e0 := hd 4 (by simp [waitL1])
            simp only [leaveL1, slotL1, Nat.reduceAdd, Array.getD_eq_getD_getElem?] at e0
            go_simp
            exact hK _ _ (Below.refl _ _) rfl
          | 6, _ =>
            intro o ho a wc hk hb hd K hK
            cases ho
            have e0 := hk.rest 10 (.int .i64 0) (by omega) (by kernel_rfl) rfl
            rw [Array.getD_eq_getD_getElem?] at e0
            have e1 := hd 5 (by simp [waitL1])
            simp only [leaveL1, slotL1, Nat.reduceAdd, Array.getD_eq_getD_getElem?] at e1
            have gs := hk.some_ (s := 84) (by omega) e1
            go_simp
            exact hK _ _ (Below.refl _ _) rfl
          | 7, _ =>
            intro o ho a wc hk hb hd K hK
            cases ho
            have e0 := hd 5 (by simp [waitL1])
            have e1 := hd 6 (by simp [waitL1])
            simp only [leaveL1, slotL1, Nat.reduceAdd, Array.getD_eq_getD_getElem?] at e0 e1
            have gs := hk.some_ (s := 84) (by omega) e0
            go_simp
            exact hK _ _ (Below.refl _ _) rfl
          | 8, _ =>
            intro o ho a wc hk hb hd K hK
            cases ho
            have e0 := hd 5 (by simp [waitL1])
            have e1 := hd 7 (by simp [waitL1])
            simp only [leaveL1, slotL1, Nat.reduceAdd, Array.getD_eq_getD_getElem?] at e0 e1
            go_simp
            exact hK _ _ (Below.refl _ _) rfl
          | 9, _ =>
            intro o ho a wc hk hb hd K hK
            cases ho
            have e0 := hd 8 (by simp [waitL1])
            simp only [leaveL1, slotL1, Nat.reduceAdd, Array.getD_eq_getD_getElem?] at e0
            go_simp
            exact hK _ _ (Below.refl _ _) rfl
          | 10, _ =>
            intro o ho a wc hk hb hd K hK
            cases ho
            have e0 := hk.rest 11 (.slice A5 n5 c5) (by omega) (by kernel_rfl) rfl
            rw [Array.getD_eq_getD_getElem?] at e0
            have e1 := hd 9 (by simp [waitL1])
            simp only [leaveL1, slotL1, Nat.reduceAdd, Array.getD_eq_getD_getElem?] at e1
            have gs := hk.some_ (s := 88) (by omega) e1
            go_simp
            exact hK _ _ (Below.refl _ _) rfl
          | 11, _ =>
            intro o ho a wc hk hb hd K hK
            cases ho
            have e0 := hk.rest 0 (.slice A1 n1 c1) (by omega) (by kernel_rfl) rfl
            rw [Array.getD_eq_getD_getElem?] at e0
            have e1 := hd 9 (by simp [waitL1])
            simp only [leaveL1, slotL1, Nat.reduceAdd, Array.getD_eq_getD_getElem?] at e1
            have gs := hk.some_ (s := 88) (by omega) e1
            go_simp
            exact hK _ _ (Below.refl _ _) rfl
          | 12, _ =>
            intro o ho a wc hk hb hd K hK
            cases ho
            have e0 := hd 9 (by simp [waitL1])
            have e1 := hd 10 (by simp [waitL1])
            have e2 := hd 11 (by simp [waitL1])
            simp only [leaveL1, slotL1, Nat.reduceAdd, Array.getD_eq_getD_getElem?] at e0 e1 e2
            have gs := hk.some_ (s := 88) (by omega) e0
            go_simp
            refine (HSA.out _ hb).mono ?_
            rintro e w9 ⟨rfl, hb9⟩
            exact hK _ _ hb9 rfl
          | 13, _ =>
            intro o ho a wc hk hb hd K hK
            cases ho
            have e0 := hd 9 (by simp [waitL1])
            have e1 := hd 12 (by simp [waitL1])
            simp only [leaveL1, slotL1, Nat.reduceAdd, Array.getD_eq_getD_getElem?] at e0 e1
            go_simp
            exact hK _ _ (Below.refl _ _) rfl
          | 14, _ =>
            intro o ho a wc hk hb hd K hK
            cases ho
            have e0 := hd 13 (by simp [waitL1])
            simp only [leaveL1, slotL1, Nat.reduceAdd, Array.getD_eq_getD_getElem?] at e0
            go_simp
            exact hK _ _ (Below.refl _ _) rfl
          | 15, _ =>
            intro o ho a wc hk hb hd K hK
            cases ho
            have e0 := hk.rest 12 (.int .i64 0) (by omega) (by kernel_rfl) rfl
            rw [Array.getD_eq_getD_getElem?] at e0
            have e1 := hd 14 (by simp [waitL1])
            simp only [leaveL1, slotL1, Nat.reduceAdd, Array.getD_eq_getD_getElem?] at e1
            have gs := hk.some_ (s := 93) (by omega) e1
            go_simp
            exact hK _ _ (Below.refl _ _) rfl
          | 16, _ =>
            intro o ho a wc hk hb hd K hK
            cases ho
            have e0 := hd 14 (by simp [waitL1])
            have e1 := hd 15 (by simp [waitL1])
            simp only [leaveL1, slotL1, Nat.reduceAdd, Array.getD_eq_getD_getElem?] at e0 e1
            have gs := hk.some_ (s := 93) (by omega) e0
            go_simp
            exact hK _ _ (Below.refl _ _) rfl
          | 17, _ =>
            intro o ho a wc hk hb hd K hK
            cases ho
            have e0 := hd 14 (by simp [waitL1])
            have e1 := hd 16 (by simp [waitL1])
            simp only [leaveL1, slotL1, Nat.reduceAdd, Array.getD_eq_getD_getElem?] at e0 e1
            go_simp
            exact hK _ _ (Below.refl _ _) rfl
          | 18, _ =>
            intro o ho a wc hk hb hd K hK
            cases ho
            have e0 := hd 17 (by simp [waitL1])
            simp only [leaveL1, slotL1, Nat.reduceAdd, Array.getD_eq_getD_getElem?] at e0
            go_simp
            exact hK _ _ (Below.refl _ _) rfl
          | 19, _ =>
            intro o ho a wc hk hb hd K hK
            cases ho
            have e0 := hd 18 (by simp [waitL1])
            simp only [leaveL1, slotL1, Nat.reduceAdd, Array.getD_eq_getD_getElem?] at e0
            have gs := hk.some_ (s := 97) (by omega) e0
            go_simp
            refine (HAW.out.call _ (HB7.out.trans (hb.mono HB7.out.size))).mono ?_
            rintro e w9 ⟨rfl, hb9⟩
            exact hK _ _ hb9 rfl
          | _ + 20, h => exact absurd h (by omega)
        · intro vals w8 hb hR
          have v0 := hR 0 (by omega)
          have v1 := hR 1 (by omega)
          have v2 := hR 2 (by omega)
          have v3 := hR 3 (by omega)
          have v4 := hR 4 (by omega)
          have v5 := hR 5 (by omega)
          have v6 := hR 6 (by omega)
          have v7 := hR 7 (by omega)
          have v8 := hR 8 (by omega)
          have v9 := hR 9 (by omega)
          have v10 := hR 10 (by omega)
          have v11 := hR 11 (by omega)
          have v12 := hR 12 (by omega)
          have v13 := hR 13 (by omega)
          have v14 := hR 14 (by omega)
          have v15 := hR 15 (by omega)
          have v16 := hR 16 (by omega)
          have v17 := hR 17 (by omega)
          have v18 := hR 18 (by omega)
          have v19 := hR 19 (by omega)
          simp only [leaveL1] at v0 v1 v2 v3 v4 v5 v6 v7 v8 v9 v10 v11 v12 v13 v14 v15 v16 v17 v18 v19
          clear hR
          simp only [putAll, slotL1, Nat.reduceAdd, List.setIfInBounds_toArray, List.set_cons_zero, List.set_cons_succ, List.drop_succ_cons, List.drop_zero, v0, v1, v2, v3, v4, v5, v6, v7, v8, v9, v10, v11, v12, v13, v14, v15, v16, v17, v18, v19]
          clear v0 v1 v2 v3 v4 v5 v6 v7 v8 v9 v10 v11 v12 v13 v14 v15 v16 v17 v18 v19
          have HB8 := Lib.hid (HB7.out.trans (hb.mono HB7.out.size))
          clear hb
          go_wp2
          go_ret
          exact ⟨rfl, HB8.out⟩
end Go.Proofs.Ytgboccepgbeihaa
