/-
  What summary.May does.
-/
import Derived.Test.YtjibjojnkieliaaDoorSum1
namespace Go.Proofs.YtjibjojnkieliaaDoor
open Go.RowKit
set_option linter.unusedVariables false

set_option maxHeartbeats 1000000 in
theorem sumMay_head (s x : Int) (f : Bool) (A : Option Addr) (n c : Nat) (w : World) (hn : n ≤ 9223372036854775807) (h : ¬ (1 ≤ s ∧ s ≤ 281474976710655 ∧ 0 ≤ x ∧ x ≤ 2147483647 ∧ 1 ≤ n ∧ n ≤ 13)) :
    Calls Tryd.prog 10 #[ptV s x f A n c] w fun e w' => e = .returned (.bool false) ∧ Below w.heap.size w w' := by
  have K0 := Bk.new w 24 #[.int .i64 s, .int .i64 x, .bool f, .slice A n c]
  have HB0 := Lib.hid ((Below.refl w.heap.size w).alloc (Nat.le_refl _) (.cells #[.int .i64 s, .int .i64 x, .bool f, .slice A n c] 24))
  obtain ⟨k0, k1, k2, k3, -⟩ := ent_cells K0
  unfold ptV
  by_cases h1 : 1 ≤ s ∧ s ≤ 281474976710655
  · by_cases h2 : 0 ≤ x ∧ x ≤ 2147483647
    · have h3 : decide ((1 : Int) ≤ n ∧ (n : Int) ≤ 13) = false := by simp; omega
      have H1 := Lib.hid (decide_eq_true h1)
      have H2 := Lib.hid (decide_eq_true h2)
      have H3 := Lib.hid h3
      clear h h1 h2 h3
      go_enter Tryd.func10, Tryd.ntmps10
      go_wp2_with fail
      refine (sumwithin_any _ _ _ _ _ H1.out).mono ?_
      rintro e w1 ⟨rfl, rfl⟩
      go_wp2_with fail
      refine (sumwithin_any _ _ _ _ _ H2.out).mono ?_
      rintro e w1 ⟨rfl, rfl⟩
      go_wp2_with fail
      refine (sumwithin_any _ _ _ _ _ H3.out).mono ?_
      rintro e w1 ⟨rfl, rfl⟩
      go_wp2
      go_ret
      exact ⟨rfl, HB0.out⟩
    · have H1 := Lib.hid (decide_eq_true h1)
      have H2 := Lib.hid (decide_eq_false h2)
      clear h h1 h2
      go_enter Tryd.func10, Tryd.ntmps10
      go_wp2_with fail
      refine (sumwithin_any _ _ _ _ _ H1.out).mono ?_
      rintro e w1 ⟨rfl, rfl⟩
      go_wp2_with fail
      refine (sumwithin_any _ _ _ _ _ H2.out).mono ?_
      rintro e w1 ⟨rfl, rfl⟩
      go_wp2
      go_ret
      exact ⟨rfl, HB0.out⟩
  · have H1 := Lib.hid (decide_eq_false h1)
    clear h h1
    go_enter Tryd.func10, Tryd.ntmps10
    go_wp2_with fail
    refine (sumwithin_any _ _ _ _ _ H1.out).mono ?_
    rintro e w1 ⟨rfl, rfl⟩
    go_wp2
    go_ret
    exact ⟨rfl, HB0.out⟩

set_option maxHeartbeats 2000000 in
theorem sumMay_rest (s x : Int) (f : Bool) (B : Nat) (A : Option Addr) (n c : Nat) (l : List En) (t : Bool) (w : World) (hl : l.length = n) (hr : Rd w B A (ensV l)) (hB : B ≤ w.heap.size) (h : 1 ≤ s ∧ s ≤ 281474976710655 ∧ 0 ≤ x ∧ x ≤ 2147483647 ∧ 1 ≤ n ∧ n ≤ 13) (ht : l.all enOk = t) :
    Calls Tryd.prog 10 #[ptV s x f A n c] w fun e w' => e = .returned (.bool t) ∧ Below w.heap.size w w' := by
  obtain ⟨m1, m2, m3, m4, m5, m6⟩ := h
  have K0 := Bk.new w 24 #[.int .i64 s, .int .i64 x, .bool f, .slice A n c]
  have HB0 := Lib.hid ((Below.refl w.heap.size w).alloc (Nat.le_refl _) (.cells #[.int .i64 s, .int .i64 x, .bool f, .slice A n c] 24))
  obtain ⟨k0, k1, k2, k3, -⟩ := ent_cells K0
  have HR := Lib.hid hr
  have HL := Lib.hid hl
  have HT := Lib.hid ht
  have H1 : Hid (decide (1 ≤ s ∧ s ≤ 281474976710655) = true) := decide_eq_true ⟨m1, m2⟩
  have H2 : Hid (decide (0 ≤ x ∧ x ≤ 2147483647) = true) := decide_eq_true ⟨m3, m4⟩
  have H3 : Hid (decide ((1 : Int) ≤ n ∧ (n : Int) ≤ 13) = true) := decide_eq_true ⟨by omega, by omega⟩
  clear hr hl ht m1 m2 m3 m4 K0
  unfold ptV
  go_enter Tryd.func10, Tryd.ntmps10
  go_wp2_with fail
  refine (sumwithin_any _ _ _ _ _ H1.out).mono ?_
  rintro e w1 ⟨rfl, rfl⟩
  go_wp2_with fail
  refine (sumwithin_any _ _ _ _ _ H2.out).mono ?_
  rintro e w1 ⟨rfl, rfl⟩
  go_wp2_with fail
  refine (sumwithin_any _ _ _ _ _ H3.out).mono ?_
  rintro e w1 ⟨rfl, rfl⟩
  go_wp2
  go_loopw [25] (fun i wr => ∃ k : Nat, k ≤ n ∧ i = .int .i64 k ∧ (∀ j y, j < k → l[j]? = some y → enOk y = true) ∧ Hid (Below w.heap.size w wr)) (fun i _ => n - (intOf i).toNat)
  case atStart => exact ⟨0, Nat.zero_le _, rfl, fun j p h => absurd h (by omega), HB0.out⟩
  case round =>
    obtain ⟨k, hk, rfl, hall, HB⟩ := hrel
    have HALL := Lib.hid hall
    clear hall k0 k1 k2 k3
    by_cases hlt : k < n
    · obtain ⟨y, hy⟩ : ∃ y, l[k]? = some y := ⟨_, List.getElem?_eq_getElem (by have := HL.out; omega)⟩
      obtain ⟨b, o, rfl, hbB, hc⟩ := (HR.out.below (HB.out.mono hB)).plain (by rw [ensV_length]; have := HL.out; omega)
      obtain ⟨n0, n1, n2, n3⟩ := ensV_get l k y hy
      have c0 := hc _ _ n0
      have c1 := hc _ _ n1
      have c2 := hc _ _ n2
      have c3 := hc _ _ n3
      rw [← Nat.add_assoc] at c1 c2 c3
      have HY := Lib.hid hy
      obtain ⟨y1, y2, y3, y4⟩ := y
      have K2 := Bk.new wr 60 #[.int .i64 y1, .int .i64 y2, .int .i64 y3, .int .u32 (y4 : Int)]
      obtain ⟨p0, p1, p2, p3, -⟩ := ent_cells K2
      have HB2 := Lib.hid (HB.out.alloc HB.out.size (.cells #[.int .i64 y1, .int .i64 y2, .int .i64 y3, .int .u32 (y4 : Int)] 60))
      simp only at c0 c1 c2 c3
      clear hc n0 n1 n2 n3 hy K2
      go_wp2_with fail
      obtain ⟨w5, hw5⟩ : ∃ w5, wr.alloc (.cells #[.int .i64 y1, .int .i64 y2, .int .i64 y3, .int .u32 (y4 : Int)] 60) = w5 := ⟨_, rfl⟩
      rw [hw5] at p0 p1 p2 p3 HB2 ⊢
      clear hw5 c0 c1 c2 c3
      by_cases hok : enOk ⟨y1, y2, y3, y4⟩ = true
      · obtain ⟨q1, q2, q3, q4, q5, q6⟩ := enOk_yes hok
        have HOK := Lib.hid hok
        simp only at q1 q2 q3 q4 q5 q6
        clear hok
        refine (sumwithin_any _ _ _ true _ (decide_eq_true ⟨q1, q2⟩)).mono ?_
        rintro e w1 ⟨rfl, rfl⟩
        go_wp2_with fail
        refine (sumwithin_any _ _ _ true _ (decide_eq_true ⟨q3, q4⟩)).mono ?_
        rintro e w1 ⟨rfl, rfl⟩
        go_wp2_with fail
        refine (sumwithin_any _ _ _ true _ (decide_eq_true ⟨q5, q6⟩)).mono ?_
        rintro e w1 ⟨rfl, rfl⟩
        go_wp2
        go_roundw
        case rel =>
          refine ⟨k + 1, by omega, by go_num, fun j z hj hz => ?_, HB2.out⟩
          by_cases e : j = k
          · subst e; rw [HY.out] at hz; cases hz; exact HOK.out
          · exact HALL.out j z (by omega) hz
        case measure => simp [intOf]; omega
      · have HF : Hid (t = false) := by
          show _ = _
          rw [← HT.out, List.all_eq_false]
          exact ⟨_, List.mem_of_getElem? HY.out, hok⟩
        have hbad : ¬ (1 ≤ y1 ∧ y1 ≤ 4 ∧ 0 ≤ y2 ∧ y2 ≤ 255 ∧ 0 ≤ y3 ∧ y3 ≤ 65535) := by simpa [enOk] using hok
        have HBAD := Lib.hid hbad
        clear hok HALL hbad
        by_cases q1 : 1 ≤ y1 ∧ y1 ≤ 4
        · refine (sumwithin_any _ _ _ true _ (decide_eq_true q1)).mono ?_
          rintro e w1 ⟨rfl, rfl⟩
          go_wp2_with fail
          by_cases q2 : 0 ≤ y2 ∧ y2 ≤ 255
          · refine (sumwithin_any _ _ _ true _ (decide_eq_true q2)).mono ?_
            rintro e w1 ⟨rfl, rfl⟩
            go_wp2_with fail
            refine (sumwithin_any _ _ _ false _ (decide_eq_false (fun q3 => HBAD.out ⟨q1.1, q1.2, q2.1, q2.2, q3.1, q3.2⟩))).mono ?_
            rintro e w1 ⟨rfl, rfl⟩
            clear q1 q2
            go_wp2
            go_ret
            exact ⟨ret_bool HF.out.symm, HB2.out⟩
          · refine (sumwithin_any _ _ _ false _ (decide_eq_false q2)).mono ?_
            rintro e w1 ⟨rfl, rfl⟩
            clear q1 q2
            go_wp2
            go_ret
            exact ⟨ret_bool HF.out.symm, HB2.out⟩
        · refine (sumwithin_any _ _ _ false _ (decide_eq_false q1)).mono ?_
          rintro e w1 ⟨rfl, rfl⟩
          clear q1
          go_wp2
          go_ret
          exact ⟨ret_bool HF.out.symm, HB2.out⟩
    · have HF : Hid (t = true) := by
        show _ = _
        rw [← HT.out, List.all_eq_true]
        intro z hz
        obtain ⟨j, hj, rfl⟩ := List.mem_iff_getElem.1 hz
        exact HALL.out j _ (by have := HL.out; omega) (List.getElem?_eq_getElem hj)
      clear HALL
      go_wp2
      go_ret
      exact ⟨ret_bool HF.out.symm, HB.out⟩

theorem sumMay_any (s x : Int) (f : Bool) (B : Nat) (A : Option Addr) (n c : Nat) (l : List En) (t : Bool) (w : World) (hl : l.length = n) (hn : n ≤ 9223372036854775807) (hr : Rd w B A (ensV l)) (hB : B ≤ w.heap.size) (ht : ptOk ⟨s, x, f, l⟩ = t) :
    Calls Tryd.prog 10 #[ptV s x f A n c] w fun e w' => e = .returned (.bool t) ∧ Below w.heap.size w w' := by
  by_cases h : 1 ≤ s ∧ s ≤ 281474976710655 ∧ 0 ≤ x ∧ x ≤ 2147483647 ∧ 1 ≤ n ∧ n ≤ 13
  · have hh : headOk ⟨s, x, f, l⟩ = true := by simp only [headOk, hl]; exact decide_eq_true h
    exact sumMay_rest s x f B A n c l t w hl hr hB h (by rw [← ht, ptOk, hh]; rfl)
  · have hh : headOk ⟨s, x, f, l⟩ = false := by simp only [headOk, hl]; exact decide_eq_false h
    obtain rfl : t = false := by rw [← ht, ptOk, hh]; rfl
    exact sumMay_head s x f A n c w hn h
end Go.Proofs.YtjibjojnkieliaaDoor
