/-
  What the document's answers of layer 6 are: May, Same.
-/
import Derived.Test.YtjibjojnkieliaaDoorSumMem
import Derived.Test.YtjibjojnkieliaaDoorCrc
import Derived.BigQuiet
import Derived.BigRegion
namespace Go.Proofs.YtjibjojnkieliaaDoor
open Go.RowKit
set_option linter.unusedVariables false

theorem en_bad {y : En} (h : enOk y = false) : (y.kind < 1) ∨ (1 ≤ y.kind ∧ 4 < y.kind) ∨ (1 ≤ y.kind ∧ y.kind ≤ 4 ∧ y.ino < 0) ∨ (1 ≤ y.kind ∧ y.kind ≤ 4 ∧ 0 ≤ y.ino ∧ 255 < y.ino)
    ∨ (1 ≤ y.kind ∧ y.kind ≤ 4 ∧ 0 ≤ y.ino ∧ y.ino ≤ 255 ∧ y.index < 0) ∨ (1 ≤ y.kind ∧ y.kind ≤ 4 ∧ 0 ≤ y.ino ∧ y.ino ≤ 255 ∧ 0 ≤ y.index ∧ 65535 < y.index) := by
  have : ¬ (1 ≤ y.kind ∧ y.kind ≤ 4 ∧ 0 ≤ y.ino ∧ y.ino ≤ 255 ∧ 0 ≤ y.index ∧ y.index ≤ 65535) := by simpa [enOk] using h
  omega
theorem head_bad {s x : Int} {n : Nat} (h : ¬ (1 ≤ s ∧ s ≤ 281474976710655 ∧ 0 ≤ x ∧ x ≤ 2147483647 ∧ 1 ≤ n ∧ n ≤ 13)) : (s < 1) ∨ (1 ≤ s ∧ 281474976710655 < s) ∨ (1 ≤ s ∧ s ≤ 281474976710655 ∧ x < 0) ∨ (1 ≤ s ∧ s ≤ 281474976710655 ∧ 0 ≤ x ∧ 2147483647 < x)
    ∨ (1 ≤ s ∧ s ≤ 281474976710655 ∧ 0 ≤ x ∧ x ≤ 2147483647 ∧ (n : Int) < 1) ∨ (1 ≤ s ∧ s ≤ 281474976710655 ∧ 0 ≤ x ∧ x ≤ 2147483647 ∧ 1 ≤ (n : Int) ∧ 13 < (n : Int)) := by omega

set_option maxHeartbeats 4000000 in
theorem refMay_any (s x : Int) (f : Bool) (B : Nat) (A : Option Addr) (n c : Nat) (l : List En) (t : Bool) (w : World) (hl : l.length = n) (hn : n ≤ 9223372036854775807) (hr : Rd w B A (ensV l)) (hB : B ≤ w.heap.size) (ht : ptOk ⟨s, x, f, l⟩ = t) :
    Calls Tryd.prog 11 #[ptV s x f A n c] w fun e w' => e = .returned (.bool t) ∧ Below w.heap.size w w' := by
  have K0 := Lib.hid (Bk.new w 24 #[.int .i64 s, .int .i64 x, .bool f, .slice A n c])
  have HB0 := Lib.hid ((Below.refl w.heap.size w).alloc (Nat.le_refl _) (.cells #[.int .i64 s, .int .i64 x, .bool f, .slice A n c] 24))
  have HR := Lib.hid hr
  have HL := Lib.hid hl
  have HT := Lib.hid ht
  clear hr hl ht
  unfold ptV
  go_enter Tryd.func11, Tryd.ntmps11
  go_wp2
  go_loopw [3] (fun i wr => ∃ k : Nat, k ≤ n ∧ i = .int .i64 k ∧ (∀ j y, j < k → l[j]? = some y → enOk y = true) ∧ Hid (Bk wr w.heap.size 24 #[.int .i64 s, .int .i64 x, .bool f, .slice A n c]) ∧ Hid (Below w.heap.size w wr)) (fun i _ => n - (intOf i).toNat)
  case atStart => exact ⟨0, Nat.zero_le _, rfl, fun j p h => absurd h (by omega), K0.out, HB0.out⟩
  case round =>
    obtain ⟨k, hk, rfl, hall, HK, HB⟩ := hrel
    have HALL := Lib.hid hall
    clear hall K0 HB0
    obtain ⟨k0, k1, k2, k3, -⟩ := ent_cells HK.out
    by_cases hlt : k < n
    · obtain ⟨y, hy⟩ : ∃ y, l[k]? = some y := ⟨_, List.getElem?_eq_getElem (by have := HL.out; omega)⟩
      obtain ⟨b, o, rfl, hbB, hc⟩ := (HR.out.below (HB.out.mono hB)).plain (by rw [ensV_length]; have := HL.out; omega)
      obtain ⟨n0, n1, n2, n3⟩ := ensV_get l k y hy
      have c0 := hc _ _ n0
      have c1 := hc _ _ n1
      have c2 := hc _ _ n2
      have c3 := hc _ _ n3
      rw [← Nat.add_assoc] at c1 c2 c3
      have HY := Lib.hid hy
      obtain ⟨y1, y2, y3, y4⟩ := y
      simp only at c0 c1 c2 c3
      have HK2 := Lib.hid (HK.out.alloc (.cells #[.int .i64 y1, .int .i64 y2, .int .i64 y3, .int .u32 (y4 : Int)] 60))
      have HB2 := Lib.hid (HB.out.alloc HB.out.size (.cells #[.int .i64 y1, .int .i64 y2, .int .i64 y3, .int .u32 (y4 : Int)] 60))
      obtain ⟨p0, p1, p2, p3, -⟩ := ent_cells (Bk.new wr 60 #[.int .i64 y1, .int .i64 y2, .int .i64 y3, .int .u32 (y4 : Int)])
      clear hc n0 n1 n2 n3 hy HK HB
      cases hok : enOk ⟨y1, y2, y3, y4⟩ with
      | true =>
        obtain ⟨q1, q2, q3, q4, q5, q6⟩ := enOk_yes hok
        have HOK := Lib.hid hok
        simp only at q1 q2 q3 q4 q5 q6
        clear hok
        go_wp2
        go_roundw
        case rel =>
          refine ⟨k + 1, by omega, by go_num, fun j z hj hz => ?_, HK2.out, HB2.out⟩
          by_cases e : j = k
          · subst e; rw [HY.out] at hz; cases hz; exact HOK.out
          · exact HALL.out j z (by omega) hz
        case measure => simp [intOf]; omega
      | false =>
        have HF : Hid (t = false) := by
          show _ = _
          rw [← HT.out]
          exact ptOk_at HY.out hok
        have hb := en_bad hok
        simp only at hb
        clear hok HALL
        rcases hb with q1 | ⟨q1, q2⟩ | ⟨q1, q2, q3⟩ | ⟨q1, q2, q3, q4⟩ | ⟨q1, q2, q3, q4, q5⟩ | ⟨q1, q2, q3, q4, q5, q6⟩
        all_goals
          go_wp2
          go_ret
          exact ⟨ret_bool HF.out.symm, HB2.out⟩
    · have hall : ∀ y ∈ l, enOk y = true := by
        intro z hz
        obtain ⟨j, hj, rfl⟩ := List.mem_iff_getElem.1 hz
        exact HALL.out j _ (by have := HL.out; omega) (List.getElem?_eq_getElem hj)
      clear HALL
      by_cases hh : 1 ≤ s ∧ s ≤ 281474976710655 ∧ 0 ≤ x ∧ x ≤ 2147483647 ∧ 1 ≤ n ∧ n ≤ 13
      · have HF : Hid (t = true) := by
          show _ = _
          rw [← HT.out]
          exact ptOk_mk (by simp only [headOk, HL.out]; exact decide_eq_true hh) hall
        obtain ⟨q1, q2, q3, q4, q5, q6⟩ := hh
        clear hall
        go_wp2
        go_ret
        exact ⟨ret_bool ((decide_eq_true (by omega)).trans HF.out.symm), HB.out⟩
      · have HF : Hid (t = false) := by
          show _ = _
          rw [← HT.out]
          exact ptOk_head (by simp only [headOk, HL.out]; exact decide_eq_false hh)
        have hb := head_bad hh
        clear hall hh
        rcases hb with q1 | ⟨q1, q2⟩ | ⟨q1, q2, q3⟩ | ⟨q1, q2, q3, q4⟩ | ⟨q1, q2, q3, q4, q5⟩ | ⟨q1, q2, q3, q4, q5, q6⟩
        all_goals
          go_wp2
          go_ret
          first | exact ⟨ret_bool HF.out.symm, HB.out⟩ | exact ⟨ret_bool ((decide_eq_false (by omega)).trans HF.out.symm), HB.out⟩
end Go.Proofs.YtjibjojnkieliaaDoor
