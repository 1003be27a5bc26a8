/-
  Count: the closure that counts, and the whole.
-/
import Derived.Test.YtopjajfkncnihaaTitVisit
import Derived.Test.YtopjajfkncnihaaTitC
import Derived.BigQuiet
namespace Go.Proofs.Ytopjajfkncnihaa
open Go.RowKit
set_option maxRecDepth 100000
set_option linter.unusedVariables false

theorem count1_any (w : World) (n m : Nat) (r : Int) (T : ByteArray) (d : Bool) (a b : Int) (hn : Bk w n 3 #[.int .i64 a]) (hm : Bk w m 3 #[.int .i64 b]) (ha : 0 ≤ a ∧ a ≤ 100000) (hb : 0 ≤ b ∧ b ≤ 100000) (hd : (r = -1 ∧ d = true) ∨ (¬ r = -1 ∧ d = false)) :
    Calls Try.prog 25 #[.int .i32 r, .string T, .pointer (some ⟨m, 0, none⟩), .pointer (some ⟨n, 0, none⟩)] w
      fun e w' => e = .returned (.bool true) ∧ w' = (if d then w.setCell ⟨m, 0, none⟩ (.int .i64 (b + 1)) else w.setCell ⟨n, 0, none⟩ (.int .i64 (a + 1))) := by
  have c1 := hn.cell 0
  have c2 := hm.cell 0
  have f1 := hn.free 0
  have f2 := hm.free 0
  clear hn hm
  rcases hd with ⟨rfl, rfl⟩ | ⟨hr, rfl⟩
  all_goals
    go_enter Try.func25, Try.ntmps25
    go_wp2
    go_ret
    exact ⟨rfl, rfl⟩
theorem cnt_step {l : List UInt8} (h : l ≠ []) : cntT l = (if (tkOf l).odd then 0 else 1) + cntT (l.drop (widN l)) ∧ oddT l = (if (tkOf l).odd then 1 else 0) + oddT (l.drop (widN l)) := by
  have h1 := cnt_odd l
  have h2 := cnt_odd (l.drop (widN l))
  have h3 : oddT l = (if (tkOf l).odd then 1 else 0) + oddT (l.drop (widN l)) := by
    unfold oddT
    rw [toks_cons h, List.countP_cons]
    omega
  have h4 : (toks l).length = (toks (l.drop (widN l))).length + 1 := by rw [toks_cons h]; rfl
  refine ⟨?_, h3⟩
  cases ho : (tkOf l).odd <;> rw [ho] at h3 <;> simp at h3 ⊢ <;> omega
theorem drop_ne {l : List UInt8} {p : Nat} (hp : p < l.length) : l.drop p ≠ [] := by intro e; have := congrArg List.length e; rw [List.length_drop] at this; simp at this; omega

/-- what is so between two runes: of the rest at p -/
structure RunC (w : World) (n m : Nat) (l : List UInt8) (p : Nat) (wr : World) : Prop where
  cells : ∃ a b : Nat, Bk wr n 3 #[.int .i64 a] ∧ Bk wr m 3 #[.int .i64 b] ∧ a + cntT (l.drop p) = cntT l ∧ b + oddT (l.drop p) = oddT l
  below : Below n w wr
theorem cntVis {w : World} {l : List UInt8} {n m b : Nat} (hnm : n < m) (hmb : m < b) (hl : l.length ≤ 100000) :
    Vis 25 (.pointer (some ⟨m, 0, none⟩)) (.pointer (some ⟨n, 0, none⟩)) l b (RunC w n m l) (fun _ => False) where
  turn p wt pos q h hk := by
    obtain ⟨⟨x, y, h1, h2, h3⟩, h4⟩ := h
    exact ⟨⟨x, y, (turn_else wt b n (str l) pos (by omega)).trans h1, (turn_else wt b m (str l) pos (by omega)).trans h2, h3⟩, h4.trans (turn_below wt n b (str l) pos (by omega))⟩
  one p wt pos hp h hk := by
    obtain ⟨⟨x, y, h1, h2, h3, h4⟩, h5⟩ := h
    obtain ⟨s1, s2⟩ := cnt_step (drop_ne hp)
    rw [List.drop_drop] at s1 s2
    have hle := cnt_odd l
    have htl := toks_len l
    cases ho : (tkOf (l.drop p)).odd with
    | false =>
      rw [ho] at s1 s2
      refine (count1_any wt n m _ _ false x y h1 h2 (by omega) (by omega) (.inr ⟨by rw [draw_rune ho]; omega, rfl⟩)).mono ?_
      rintro e w' ⟨rfl, rfl⟩
      refine ⟨(Below.heap_setCell _ _ _ _ (show b ≠ n by omega)).trans hk, .inl ⟨rfl, ⟨x + 1, y, h1.set_ 0 _, h2.far (by simp; omega) _, ?_, ?_⟩, h5.trans ((Below.refl n wt).setCell (p := ⟨n, 0, none⟩) (Nat.le_refl _) _)⟩⟩
      · simp at s1; omega
      · simp at s2; omega
    | true =>
      rw [ho] at s1 s2
      refine (count1_any wt n m _ _ true x y h1 h2 (by omega) (by omega) (.inl ⟨(odd_tk ho).1, rfl⟩)).mono ?_
      rintro e w' ⟨rfl, rfl⟩
      refine ⟨(Below.heap_setCell _ _ _ _ (show b ≠ m by omega)).trans hk, .inl ⟨rfl, ⟨x, y + 1, h1.far (by simp; omega) _, h2.set_ 0 _, ?_, ?_⟩, h5.trans ((Below.refl n wt).setCell (p := ⟨m, 0, none⟩) (by simp; omega) _)⟩⟩
      · simp at s1; omega
      · simp at s2; omega

set_option maxHeartbeats 2000000 in
theorem countT_any (l : List UInt8) (w : World) (hl : l.length ≤ 100000) : Calls Try.prog 11 #[.string (str l)] w fun e w' => e = .returned (.tuple #[.int .i64 (cntT l : Int), .int .i64 (oddT l : Int)]) ∧ Below w.heap.size w w' := by
  have HV := Lib.hid (cntVis (w := w) (l := l) (n := w.heap.size) (m := w.heap.size + 1) (b := w.heap.size + 2) (by omega) (by omega) hl)
  have H0 : Hid (RunC w w.heap.size (w.heap.size + 1) l 0 (((w.alloc (.cells #[.int .i64 0] 3)).alloc (.cells #[.int .i64 0] 3)).alloc (.stringIter (str l) 0))) :=
    ⟨⟨0, 0, ((Bk.new w _ _).alloc _).alloc _, by have := (Bk.new (w.alloc (.cells #[.int .i64 0] 3)) 3 #[.int .i64 0]).alloc (.stringIter (str l) 0); rwa [World.alloc_size'] at this, by simp, by simp⟩,
      (((Below.refl w.heap.size w).alloc (Nat.le_refl _) _).alloc (by simp) _).alloc (by simp; omega) _⟩
  go_enter Try.func11, Try.ntmps11
  go_wp2_with fail
  refine (visit_any 25 _ _ _ l (RunC w w.heap.size (w.heap.size + 1) l) (fun _ => False) hl (enters_of Try.func25 (by kernel_rfl) rfl) (by simpa using HV.out) H0.out).mono ?_
  rintro e w1 ⟨rfl, h | h⟩
  · obtain ⟨⟨x, y, h1, h2, h3, h4⟩, h5⟩ := h
    rw [List.drop_length] at h3 h4
    have q1 : cntT [] = 0 := by unfold cntT; rw [toks_nil]; exact Nat.zero_sub _
    have q2 : oddT [] = 0 := by unfold oddT; rw [toks_nil]; rfl
    obtain rfl : x = cntT l := by omega
    obtain rfl : y = oddT l := by omega
    have c1 := h1.cell 0
    have c2 := h2.cell 0
    have H5 := Lib.hid h5
    clear h1 h2 h3 h4 h5 q1 q2
    go_wp2
    go_quiet (fail)
    go_wp2
    go_ret2
    exact ⟨rfl, H5.out.drewN' _⟩
  · exact h.elim
end Go.Proofs.Ytopjajfkncnihaa
