/-
  Head, the whole; what of a text a name may have.
-/
import Derived.Test.YtlenfocdhchphaaTitP2
namespace Go.Proofs.Ytlenfocdhchphaa
open Go.RowKit
set_option maxRecDepth 100000
set_option linter.unusedVariables false

theorem Bd.fresh (w : World) (B : Nat) (hB : B ≤ w.heap.size) : Bd (w.alloc (.cells #[.pointer none, .slice none 0 0] 62)) B w.heap.size [] :=
  Lib.IsBuilderF.of (Or.inl ⟨hB, .slice none 0 0, heap_alloc_new w _, World.ownsRow_nil _ _ _ _, by simp [Value.ownBlock]⟩)
theorem RunH.done {w wr : World} {B n b : Nat} {l : List UInt8} {m0 : Int} (h : RunH w B n b l m0 l.length wr) : DoneH w B b (headT l m0) wr := by
  obtain ⟨⟨m, L, h1, h2, h3, h4, h6⟩, h5⟩ := h
  rw [List.drop_length, headT_nil, List.append_nil] at h6
  exact ⟨h6 ▸ h3, h5⟩
theorem allowed_any (v : Int) (a : Bool) (w : World) (ha : (decide (32 ≤ v) && decide (v ≠ 127) && decide (v ≠ 47)) = a) :
    Calls Try.prog 44 #[.int .i32 v] w fun e w' => e = .returned (.bool a) ∧ w = w' := by
  have h : (v < 32 ∧ a = false) ∨ (v = 127 ∧ a = false) ∨ (v = 47 ∧ a = false) ∨ (32 ≤ v ∧ ¬ v = 127 ∧ ¬ v = 47 ∧ a = true) := by
    rw [← ha]
    by_cases h1 : 32 ≤ v
    · by_cases h2 : v = 127
      · exact .inr (.inl ⟨h2, by simp [h2]⟩)
      · by_cases h3 : v = 47
        · exact .inr (.inr (.inl ⟨h3, by simp [h3]⟩))
        · exact .inr (.inr (.inr ⟨h1, h2, h3, by simp [h1, h2, h3]⟩))
    · exact .inl ⟨by omega, by simp [h1]⟩
  clear ha
  rcases h with ⟨h1, rfl⟩ | ⟨rfl, rfl⟩ | ⟨rfl, rfl⟩ | ⟨h1, h2, h3, rfl⟩
  · have h1' : ¬ 32 ≤ v := by omega
    go_enter Try.func44, Try.ntmps44
    go_wp2
    go_ret
    exact ⟨rfl, rfl⟩
  · go_enter Try.func44, Try.ntmps44
    go_wp2
    go_ret
    exact ⟨rfl, rfl⟩
  · go_enter Try.func44, Try.ntmps44
    go_wp2
    go_ret
    exact ⟨rfl, rfl⟩
  · go_enter Try.func44, Try.ntmps44
    go_wp2
    go_ret
    show Ending.returned (.bool (v != 127 && v != 47)) = _ ∧ w = w
    exact ⟨ret_bool (by simp [h2, h3]), rfl⟩

/-! the closure of kept: each of its four ways -/
set_option maxHeartbeats 1000000 in
theorem kept1_skip (w : World) (n b : Nat) (r : Int) (T : List UInt8) (hr : (decide (32 ≤ r) && decide (r ≠ 127) && decide (r ≠ 47)) = false) :
    Calls Try.prog 43 #[.int .i32 r, .string (str T), .pointer (some ⟨n, 0, none⟩), .pointer (some ⟨b, 0, none⟩)] w
      fun e w' => e = .returned (.bool true) ∧ w = w' := by
  have H := Lib.hid hr
  clear hr
  go_enter Try.func43, Try.ntmps43
  go_wp2_with fail
  refine (allowed_any r false _ H.out).mono ?_
  rintro e w1 ⟨rfl, rfl⟩
  go_wp2
  go_ret
  exact ⟨rfl, rfl⟩
set_option maxHeartbeats 1000000 in
theorem kept1_full (w : World) (n b : Nat) (r : Int) (T : List UInt8) (hr : (decide (32 ≤ r) && decide (r ≠ 127) && decide (r ≠ 47)) = true) (hn : Bk w n 3 #[.int .i64 16]) :
    Calls Try.prog 43 #[.int .i32 r, .string (str T), .pointer (some ⟨n, 0, none⟩), .pointer (some ⟨b, 0, none⟩)] w
      fun e w' => e = .returned (.bool false) ∧ w = w' := by
  have H := Lib.hid hr
  have c1 := hn.cell 0
  clear hr hn
  go_enter Try.func43, Try.ntmps43
  go_wp2_with fail
  refine (allowed_any r true _ H.out).mono ?_
  rintro e w1 ⟨rfl, rfl⟩
  go_wp2
  go_ret
  exact ⟨rfl, rfl⟩
set_option maxHeartbeats 1000000 in
theorem kept1_long (w : World) (B n b : Nat) (r : Int) (T L : List UInt8) (c : Nat) (hr : (decide (32 ≤ r) && decide (r ≠ 127) && decide (r ≠ 47)) = true) (hn : Bk w n 3 #[.int .i64 c]) (hc : c < 16) (hb : Bd w B b L) (hL : L.length ≤ 24) (hT : T.length ≤ 100000) (h24 : 24 < L.length + T.length) :
    Calls Try.prog 43 #[.int .i32 r, .string (str T), .pointer (some ⟨n, 0, none⟩), .pointer (some ⟨b, 0, none⟩)] w
      fun e w' => e = .returned (.bool false) ∧ w = w' := by
  have H := Lib.hid hr
  have HB := Lib.hid hb
  have c1 := hn.cell 0
  have hsz := str_size T
  have hc' : ¬ (c : Int) = 16 := by omega
  have h24' : (24 : Int) < (L.length : Int) + (T.length : Int) := by omega
  obtain ⟨x, hx⟩ : ∃ x, L.length = x := ⟨_, rfl⟩
  obtain ⟨y, hy⟩ : ∃ y, T.length = y := ⟨_, rfl⟩
  rw [hx] at hL h24'
  rw [hy] at hT h24' hsz
  have HX := Lib.hid hx
  clear hr hn hb h24 hx hy
  go_enter Try.func43, Try.ntmps43
  go_wp2_with fail
  refine (allowed_any r true _ H.out).mono ?_
  rintro e w1 ⟨rfl, rfl⟩
  go_wp2_with fail
  refine (len_any HB.out).mono ?_
  rintro e w1 ⟨rfl, rfl⟩
  rw [HX.out]
  go_wp2
  go_ret
  exact ⟨rfl, rfl⟩
set_option maxHeartbeats 1000000 in
theorem kept1_on (w : World) (B n b : Nat) (r : Int) (T L : List UInt8) (c : Nat) (hr : (decide (32 ≤ r) && decide (r ≠ 127) && decide (r ≠ 47)) = true) (hn : Bk w n 3 #[.int .i64 c]) (hc : c < 16) (hb : Bd w B b L) (h24 : L.length + T.length ≤ 24) (hBn : B ≤ n) (hnb : n ≠ b) :
    Calls Try.prog 43 #[.int .i32 r, .string (str T), .pointer (some ⟨n, 0, none⟩), .pointer (some ⟨b, 0, none⟩)] w
      fun e w' => e = .returned (.bool true) ∧ Bk w' n 3 #[.int .i64 ((c + 1 : Nat) : Int)] ∧ Bd w' B b (L ++ T) ∧ Below B w w' ∧ Its w w' := by
  have H := Lib.hid hr
  have HB0 := Lib.hid hb
  have c1 := hn.cell 0
  have f1 := hn.free 0
  have hsz := str_size T
  have hc' : ¬ (c : Int) = 16 := by omega
  have h24' : ¬ (24 : Int) < (L.length : Int) + (T.length : Int) := by omega
  obtain ⟨x, hx⟩ : ∃ x, L.length = x := ⟨_, rfl⟩
  obtain ⟨y, hy⟩ : ∃ y, T.length = y := ⟨_, rfl⟩
  have HN := Lib.hid (hn.set_ 0 (.int .i64 ((c : Int) + 1)))
  have HB := Lib.hid (hb.far hn hnb (by decide) 0 (.int .i64 ((c : Int) + 1)))
  have HL := Lib.hid ((Below.refl B w).setCell (p := ⟨n, 0, none⟩) hBn (.int .i64 ((c : Int) + 1)))
  have HK := Lib.hid (Its.set_ hn 0 (.int .i64 ((c : Int) + 1)))
  have hBw : B ≤ (w.setCell ⟨n, 0, none⟩ (.int .i64 ((c : Int) + 1))).heap.size := by rw [World.setCell_size']; have := hn.lt; omega
  have HBw := Lib.hid hBw
  have HS : Hid (L.length + T.length ≤ 140737488355328) := show _ ≤ _ by omega
  rw [hx] at h24 h24'
  rw [hy] at h24 h24' hsz
  have HX := Lib.hid hx
  have hq : ((c : Int) == 16) = false := beq_false_of_ne hc'
  have hq2 : decide ((24 : Int) < (x : Int) + (y : Int)) = false := decide_eq_false h24'
  clear hr hn hb hx hy hBw
  go_enter Try.func43, Try.ntmps43
  go_wp2_with fail
  refine (allowed_any r true _ H.out).mono ?_
  rintro e w1 ⟨rfl, rfl⟩
  go_wp2_with fail
  refine (len_any HB0.out).mono ?_
  rintro e w1 ⟨rfl, rfl⟩
  rw [HX.out]
  go_wp2_with fail
  refine (write_any HB.out T HS.out HBw.out).mono ?_
  rintro e w1 ⟨rfl, h1, h2, h3⟩
  have H1 := Lib.hid h1
  have H2 := Lib.hid h2
  have H3 := Lib.hid h3
  clear h1 h2 h3
  go_wp2
  go_ret
  exact ⟨rfl, H3.out.bk HN.out hnb (by decide), H1.out, HL.out.trans H2.out, HK.out.trans (Its.oth H3.out HB.out)⟩
end Go.Proofs.Ytlenfocdhchphaa
