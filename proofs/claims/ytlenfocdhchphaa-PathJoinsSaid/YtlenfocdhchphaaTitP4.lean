/-
  kept, the whole: what of a text a name may have; Is, Fit and Order.
-/
import Derived.Test.YtlenfocdhchphaaTitP3
namespace Go.Proofs.Ytlenfocdhchphaa
open Go.RowKit
set_option maxRecDepth 100000
set_option linter.unusedVariables false

structure RunK (w : World) (B n b : Nat) (l : List UInt8) (p : Nat) (wr : World) : Prop where
  cells : ∃ (c : Nat) (L : List UInt8), Bk wr n 3 #[.int .i64 c] ∧ c ≤ 16 ∧ Bd wr B b L ∧ L.length ≤ 24 ∧ cutL (toks (l.drop p)) L c = cutT l
  below : Below B w wr
theorem RunK.done {w wr : World} {B n b : Nat} {l : List UInt8} (h : RunK w B n b l l.length wr) : DoneH w B b (cutT l) wr := by
  obtain ⟨⟨c, L, h1, h2, h3, h4, h6⟩, h5⟩ := h
  rw [List.drop_length, toks_nil] at h6
  have h6' : L = cutT l := h6
  exact ⟨h6' ▸ h3, h5⟩
theorem keptVis {w : World} {l : List UInt8} {B n b k : Nat} (hB : B ≤ n) (hnb : n ≠ b) (hBk : B ≤ k) (hl : l.length ≤ 100000) :
    Vis 43 (.pointer (some ⟨n, 0, none⟩)) (.pointer (some ⟨b, 0, none⟩)) l k (RunK w B n b l) (DoneH w B b (cutT l)) where
  turn p wt pos q h hk := by
    obtain ⟨⟨c, L, h1, h2, h3, h4⟩, h5⟩ := h
    exact ⟨⟨c, L, (turn_else wt k n (str l) pos (fun e => h1.ne_iter hk e.symm)).trans h1, h2, h3.turn hk pos, h4⟩, h5.trans (turn_below wt B k (str l) pos hBk)⟩
  one p wt pos hp h hk := by
    obtain ⟨⟨c, L, h1, h2, h3, h4, h6⟩, h5⟩ := h
    have hne := drop_ne hp
    have hw := wid_le hne
    have hs := tk_len hne
    have hv := sign_v (l.drop p)
    cases hg : signT (tkOf (l.drop p)) with
    | false =>
      rw [hg] at hv
      refine (kept1_skip wt n b _ _ hv.symm).mono ?_
      rintro e w' ⟨rfl, rfl⟩
      refine ⟨hk, .inl ⟨rfl, ⟨⟨c, L, h1, h2, h3, h4, ?_⟩, h5⟩⟩⟩
      rw [← h6, cutL_skip hne hg, List.drop_drop]
    | true =>
      rw [hg] at hv
      by_cases hc : c = 16
      · subst hc
        refine (kept1_full wt n b _ _ hv.symm h1).mono ?_
        rintro e w' ⟨rfl, rfl⟩
        rw [cutL_stop hne hg (.inl rfl)] at h6
        exact ⟨hk, .inr ⟨rfl, ⟨h6 ▸ h3, h5⟩⟩⟩
      · by_cases h24 : 24 < L.length + (tkOf (l.drop p)).s.length
        · refine (kept1_long wt B n b _ _ L c hv.symm h1 (by omega) h3 h4 (by omega) h24).mono ?_
          rintro e w' ⟨rfl, rfl⟩
          rw [cutL_stop hne hg (.inr h24)] at h6
          exact ⟨hk, .inr ⟨rfl, ⟨h6 ▸ h3, h5⟩⟩⟩
        · refine (kept1_on wt B n b _ _ L c hv.symm h1 (by omega) h3 (by omega) hB hnb).mono ?_
          rintro e w' ⟨rfl, g1, g2, g3, g4⟩
          refine ⟨g4 _ _ _ hk, .inl ⟨rfl, ⟨⟨c + 1, _, g1, by omega, g2, ?_, ?_⟩, h5.trans g3⟩⟩⟩
          · rw [List.length_append]; omega
          · rw [← h6, cutL_on hne hg (fun h => h.elim hc h24), List.drop_drop]
set_option maxHeartbeats 2000000 in
theorem kept_any (l : List UInt8) (w : World) (hl : l.length ≤ 100000) :
    Calls Try.prog 31 #[.string (str l)] w fun e w' => e = .returned (.string (str (cutT l))) ∧ Below w.heap.size w w' := by
  have HV := Lib.hid (keptVis (w := w) (l := l) (B := w.heap.size) (n := w.heap.size + 1) (b := w.heap.size) (k := w.heap.size + 2) (by omega) (by omega) (by omega) hl)
  have H0 : Hid (RunK w w.heap.size (w.heap.size + 1) w.heap.size l 0 (((w.alloc (.cells #[.pointer none, .slice none 0 0] 62)).alloc (.cells #[.int .i64 0] 3)).alloc (.stringIter (str l) 0))) :=
    ⟨⟨0, [], by have := (Bk.new (w.alloc (.cells #[.pointer none, .slice none 0 0] 62)) 3 #[.int .i64 0]).alloc (.stringIter (str l) 0); rwa [World.alloc_size'] at this, by omega, ((Bd.fresh w w.heap.size (Nat.le_refl _)).alloc _).alloc _, by simp, rfl⟩,
      (((Below.refl w.heap.size w).alloc (Nat.le_refl _) _).alloc (by simp) _).alloc (by simp; omega) _⟩
  go_enter Try.func31, Try.ntmps31
  go_wp2_with fail
  refine (visit_any 43 _ _ _ l (RunK w w.heap.size (w.heap.size + 1) w.heap.size l) (DoneH w w.heap.size w.heap.size (cutT l)) hl (enters_of Try.func43 (by kernel_rfl) rfl) (by simpa using HV.out) H0.out).mono ?_
  rintro e w1 ⟨rfl, h⟩
  have HD : Hid (DoneH w w.heap.size w.heap.size (cutT l) w1) := h.elim (fun x => x.done) id
  clear h
  go_wp2_with fail
  refine (string_any HD.out.built HD.out.below.size).mono ?_
  rintro e w2 ⟨rfl, hb⟩
  have HB := Lib.hid hb
  clear hb
  go_wp2
  go_ret
  exact ⟨rfl, HD.out.below.trans HB.out⟩

set_option maxHeartbeats 1000000 in
theorem is_any (l : List UInt8) (w : World) (hl : l.length ≤ 100000) :
    Calls Try.prog 21 #[.string (str l)] w fun e w' => e = .returned (.bool (isT l)) ∧ Below w.heap.size w w' := by
  obtain ⟨d0, d1, d2⟩ := isT_none
  by_cases h0 : l = []
  · subst h0
    rw [d0]
    have hst : (str []).toList = [] := str_toList _
    obtain ⟨s, hs⟩ : ∃ s, str [] = s := ⟨_, rfl⟩
    rw [hs] at hst ⊢
    clear hs
    go_enter Try.func21, Try.ntmps21
    go_wp2
    go_ret
    exact ⟨rfl, Below.refl _ _⟩
  · by_cases h1 : l = [46]
    · subst h1
      rw [d1]
      have hst : (str [46]).toList = [46] := str_toList _
      obtain ⟨s, hs⟩ : ∃ s, str [46] = s := ⟨_, rfl⟩
      rw [hs] at hst ⊢
      clear hs
      go_enter Try.func21, Try.ntmps21
      go_wp2
      go_ret
      exact ⟨rfl, Below.refl _ _⟩
    · by_cases h2 : l = [46, 46]
      · subst h2
        rw [d2]
        have hst : (str [46, 46]).toList = [46, 46] := str_toList _
        obtain ⟨s, hs⟩ : ∃ s, str [46, 46] = s := ⟨_, rfl⟩
        rw [hs] at hst ⊢
        clear hs
        go_enter Try.func21, Try.ntmps21
        go_wp2
        go_ret
        exact ⟨rfl, Below.refl _ _⟩
      · have HK := Lib.hid (kept_any l w hl)
        have hi := isT_other h0 h1 h2
        obtain ⟨t, ht⟩ : ∃ t, isT l = t := ⟨_, rfl⟩
        have hst : (str l).toList = l := str_toList l
        have hst2 : (str (cutT l)).toList = cutT l := str_toList _
        rw [ht] at hi ⊢
        go_enter Try.func21, Try.ntmps21
        go_wp2_with fail
        refine HK.out.mono ?_
        rintro e w1 ⟨rfl, hb⟩
        have HB := Lib.hid hb
        clear hb
        go_wp2
        go_ret
        show Ending.returned (.bool (!l.isEmpty && !l == [46] && !l == [46, 46] && cutT l == l)) = _ ∧ _
        refine ⟨ret_bool ?_, HB.out⟩
        rw [hi]
        have e0 : l.isEmpty = false := by cases l with | nil => exact absurd rfl h0 | cons => rfl
        have e1 : (l == [46]) = false := beq_false_of_ne h1
        have e2 : (l == [46, 46]) = false := beq_false_of_ne h2
        rw [e0, e1, e2, Bool.eq_iff_iff]
        simp
end Go.Proofs.Ytlenfocdhchphaa
