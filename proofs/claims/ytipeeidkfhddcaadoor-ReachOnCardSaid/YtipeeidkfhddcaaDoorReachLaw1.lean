/-
  What the statements ReachPaths and ReachNodes answer, by the properties of reach's functions.
-/
import Derived.Test.YtipeeidkfhddcaaDoorReachC
import Derived.Lib.SliceRun
import Derived.WalkSpells
namespace Go.Proofs.YtipeeidkfhddcaaDoor
open Go.RowKit
set_option maxRecDepth 100000
set_option linter.unusedVariables false

theorem fewR_any (B : Nat) (A : Option Addr) (n m c : Nat) (l : List Int) (w : World) (hl : l.length = n) (hm : (l.take 6).length = m) (hr : Rd w B A (l.map iv)) (hc : n ≤ c) (hcm : c ≤ maxLen) :
    Calls Tryd.prog 9 #[.slice A n c] w fun e w' => e = .returned (.slice A m c) ∧ w = w' := by
  unfold maxLen at hcm
  rw [List.length_take] at hm
  by_cases h : 6 < n
  · obtain ⟨b, o, rfl, _, _⟩ := hr.plain (by rw [List.length_map]; omega)
    have h' : (6 : Int) < (n : Int) := by omega
    obtain rfl : m = 6 := by omega
    clear hr hl hm
    go_enter Tryd.func9, Tryd.ntmps9
    go_wp2
    go_ret
    exact ⟨rfl, rfl⟩
  · have h' : ¬ (6 : Int) < (n : Int) := by omega
    obtain rfl : m = n := by omega
    clear hr hl hm
    go_enter Tryd.func9, Tryd.ntmps9
    go_wp2
    go_ret
    exact ⟨rfl, rfl⟩
theorem isBlk_ex (l : List Int) : ∃ r, IsBlk l r := by
  by_cases h : ∃ k : Nat, k < 3621 ∧ pathI k = l
  · obtain ⟨k, h1, h2⟩ := h; exact ⟨k, .inl ⟨k, h1, h2, rfl⟩⟩
  · exact ⟨-1, .inr ⟨fun k h1 h2 => h ⟨k, h1, h2⟩, rfl⟩⟩
theorem isNum_ex (l : List Int) : ∃ r, IsNum l r := by
  by_cases h : ∃ k : Nat, k < 258 ∧ nodI k = l
  · obtain ⟨k, h1, h2⟩ := h; exact ⟨k, .inl ⟨k, h1, h2, rfl⟩⟩
  · exact ⟨-1, .inr ⟨fun k h1 h2 => h ⟨k, h1, h2⟩, rfl⟩⟩
theorem refP_cases (n : Int) : (errP n = 0 ∧ 1 ≤ (refP n).length ∧ (refP n).length ≤ 4) ∨ (errP n = 4 ∧ refP n = []) := by
  unfold errP refP
  by_cases h : 0 ≤ n ∧ n ≤ 3620
  · rw [if_pos h, if_pos h]; exact .inl ⟨rfl, path_length _⟩
  · rw [if_neg h, if_neg h]; exact .inr ⟨rfl, rfl⟩
theorem refN_cases (n : Int) : (errN n = 0 ∧ 0 ≤ n ∧ n < 258 ∧ 1 ≤ (refN n).length ∧ (refN n).length ≤ 3) ∨ (errN n = 4 ∧ ¬ (0 ≤ n ∧ n < 258) ∧ refN n = []) := by
  unfold errN refN
  by_cases h : 0 ≤ n ∧ n < 258
  · rw [if_pos h, if_pos h]; exact .inl ⟨rfl, h.1, h.2, nod_length _⟩
  · rw [if_neg h, if_neg h]; exact .inr ⟨rfl, h, rfl⟩

set_option maxHeartbeats 1000000 in
theorem reachPaths_walk (w : World) (HPC : PathC w) (HBC : BlockC w) (HNC : NumberC w) (HCC : CountC w) (n : Int) (A : Option Addr) (m c : Nat) (l : List Int) (hl : l.length = m) (hc : m ≤ c) (hm : c ≤ maxLen) (hr : Rd w w.heap.size A (l.map iv)) (hn0 : -9223372036854775808 ≤ n ∧ n ≤ 9223372036854775807) :
    Calls Tryd.prog 3 #[.int .i64 n, .slice A m c] w fun e w' => e = .returned (.bool true) ∧ Below w.heap.size w w' := by
  have HPC := Lib.hid HPC
  have HBC := Lib.hid HBC
  have HAW := Lib.hid (awakeR_any HPC.out HNC HCC)
  obtain ⟨l', hl'⟩ : ∃ l', l.take 6 = l' := ⟨_, rfl⟩
  obtain ⟨m', hm'⟩ : ∃ m', (l.take 6).length = m' := ⟨_, rfl⟩
  have HF := Lib.hid (fewR_any w.heap.size A m m' c l w hl hm' hr hc hm)
  have hm6 : m' ≤ m := by rw [← hm', ← hl, List.length_take]; omega
  have hr' : Rd w w.heap.size A (l'.map iv) := by rw [← hl', List.map_take]; exact hr.take 6
  rw [hl'] at hm'
  have HR0 := Lib.hid hr'
  have HL := Lib.hid hm'
  have HM := Lib.hid hm
  have hc' : m' ≤ c := by omega
  have hm2 : m' ≤ 9223372036854775807 := by unfold maxLen at hm; omega
  clear hl hm hr hr' hl' hm' hm6 HNC HCC
  have qE : ∀ (w : World) (a : Option Addr) (n c n' c' : Nat), (binOp .eql 22 (.slice a n c) (.slice none n' c')).run Tryd.prog w = .ok (.bool a.isNone) w := fun w a n c n' c' => Lib.run_eql_slice_nil w _ _ a n c n' c' Tryd.underlying22
  have qN : ∀ (w : World) (a : Option Addr) (n c n' c' : Nat), (binOp .neq 22 (.slice a n c) (.slice none n' c')).run Tryd.prog w = .ok (.bool (!a.isNone)) w := fun w a n c n' c' => run_neq_slice_nil_any w _ _ a n c n' c' Tryd.underlying22
  go_enter Tryd.func3, Tryd.ntmps3
  go_wp2_with fail
  refine HF.out.mono ?_
  rintro e w0 ⟨rfl, rfl⟩
  clear HF
  go_wp2_with fail
  refine (HPC.out.call n (refP n) (errP n) _ rfl rfl).mono ?_
  rintro e w1 ⟨A1, k1, c1, rfl, hl1, -, hm1, hr1, hb1⟩
  have HR0 := Lib.hid ((HR0.out.below hb1).mono hb1.size)
  have HB := Lib.hid hb1
  have HR1 := Lib.hid hr1
  clear hb1 hr1
  go_wp2_with fail
  refine (refPath8_any n _).mono ?_
  rintro e w2 ⟨v2, rfl, ⟨A2, k2, c2, rfl, hl2, hk2, hm2', hr2, hnil⟩, hb2⟩
  have HR0 := Lib.hid ((HR0.out.below hb2).mono hb2.size)
  have HR1 := Lib.hid ((HR1.out.below hb2).mono hb2.size)
  have HB := Lib.hid (HB.out.trans (hb2.mono HB.out.size))
  have HR2 := Lib.hid hr2
  have HN := Lib.hid hnil
  have hlen : (refP n).length ≤ 4 := by rcases refP_cases n with h | h <;> simp [h]
  clear hb2 hr2 hnil
  go_wp2_with fail
  refine (refSame8_any w2.heap.size w2.heap.size A1 A2 k1 c1 k2 c2 (refP n) (refP n) true _ hl1 hl2 (by omega) (by omega) HR1.out HR2.out (Nat.le_refl _) (Nat.le_refl _) (by simp)).mono ?_
  rintro e w3 ⟨rfl, hb3⟩
  have HR0 := Lib.hid ((HR0.out.below hb3).mono hb3.size)
  have HB := Lib.hid (HB.out.trans (hb3.mono HB.out.size))
  have key : (errP n = 0 ∧ ∃ a, A2 = some a) ∨ (errP n = 4 ∧ A2 = none ∧ k2 = 0 ∧ c2 = 0) := by
    rcases refP_cases n with ⟨h1, h2, _⟩ | ⟨h1, h2⟩
    · obtain ⟨b, o, h, _⟩ := HR2.out.plain (by rw [List.length_map]; exact h2)
      exact .inl ⟨h1, _, h⟩
    · have := HN.out h2
      injection this with e1 e2 e3
      exact .inr ⟨h1, e1, e2, e3⟩
  obtain ⟨r, hrr⟩ := isBlk_ex l'
  obtain ⟨x, hx⟩ : ∃ x, valR r = x := ⟨_, rfl⟩
  obtain ⟨q, hq⟩ : ∃ q, errR r = q := ⟨_, rfl⟩
  have HRR := Lib.hid hrr
  have HX := Lib.hid hx
  have HQ := Lib.hid hq
  obtain ⟨q1, hq1⟩ : ∃ q1, errP n = q1 := ⟨_, rfl⟩
  rw [hq1] at key ⊢
  clear hb3 HR1 HR2 HN hrr hx hq hl1 hl2 hlen hq1
  rcases key with ⟨rfl, a2, rfl⟩ | ⟨rfl, rfl, rfl, rfl⟩
  all_goals
    go_wp2_with fail
    refine (HBC.out.call A m' c l' r x q _ HL.out hc' HM.out HR0.out HRR.out HX.out HQ.out).mono ?_
    rintro e w4 ⟨rfl, hb4⟩
    have HR4 := Lib.hid ((HR0.out.below hb4).mono hb4.size)
    have HB4 := Lib.hid (HB.out.trans (hb4.mono HB.out.size))
    clear hb4
    go_wp2_with fail
    refine (refBlock8_any A m' c l' r _ HL.out hm2 HR4.out HRR.out).mono ?_
    rintro e w5 ⟨rfl, hb5⟩
    have HB5 := Lib.hid (HB4.out.trans (hb5.mono HB4.out.size))
    clear hb5
    by_cases hneg : r < 0
    · obtain rfl : x = 0 := by rw [← HX.out, valR, if_pos hneg]
      obtain rfl : q = 4 := by rw [← HQ.out, errR, if_pos hneg]
      go_wp2_with fail
      refine (HAW.out.call _).mono ?_
      rintro e w6 ⟨rfl, hb6⟩
      have HB6 := Lib.hid (HB5.out.trans (hb6.mono HB5.out.size))
      clear hb6
      go_wp2
      go_ret
      exact ⟨rfl, HB6.out⟩
    · obtain rfl : x = r := by rw [← HX.out, valR, if_neg hneg]
      obtain rfl : q = 0 := by rw [← HQ.out, errR, if_neg hneg]
      go_wp2_with fail
      refine (HAW.out.call _).mono ?_
      rintro e w6 ⟨rfl, hb6⟩
      have HB6 := Lib.hid (HB5.out.trans (hb6.mono HB5.out.size))
      clear hb6
      go_wp2
      go_ret
      exact ⟨rfl, HB6.out⟩
end Go.Proofs.YtipeeidkfhddcaaDoor
