/-
  Head: the closure that takes as many as are asked, and the whole.
-/
import Derived.Test.YtopjajfkncnihaaTitP1
namespace Go.Proofs.Ytopjajfkncnihaa
open Go.RowKit
set_option maxRecDepth 100000
set_option linter.unusedVariables false

/-- a builder, when a cell of another block, no row of octets, is set -/
theorem Bd.far {w : World} {B b n : Nat} {l : List UInt8} {t : TypeId} {cs : Array Value} (h : Bd w B b l) (hn : Bk w n t cs) (hnb : n ≠ b) (ht : t ≠ 5) (i : Nat) (u : Value) : Bd (w.setCell ⟨n, i, none⟩ u) B b l := by
  have aux : ∀ p, Lib.BuilderAtF 43 5 B b p (Lib.byteCells l) w → Lib.BuilderAtF 43 5 B b p (Lib.byteCells l) (w.setCell ⟨n, i, none⟩ u) := by
    rintro p ⟨hB, v, hb, hown, hne⟩
    exact ⟨hB, v, (Below.heap_setCell _ _ _ _ (fun e => hnb e.symm)).trans hb, hown.kept (row := some n) ⟨rfl, rfl, rfl, by simp [World.setCell], fun k _ hk => Below.heap_setCell _ _ _ _ (fun e => hk (by simp [e]))⟩ (.inr (Lib.ownBlock_neF hown hn ht)), hne⟩
  exact h.elim (fun x => .inl (aux _ x)) (fun x => .inr (aux _ x))
theorem Bd.ne_iter {w : World} {B b k : Nat} {l : List UInt8} {s : ByteArray} {p : Nat} (h : Bd w B b l) (hk : w.heap[k]? = some (Obj.stringIter s p)) : k ≠ b := by
  rintro rfl
  rcases h with ⟨_, _, hb, _⟩ | ⟨_, _, hb, _⟩ <;> rw [hk] at hb <;> cases hb
theorem Bd.turn {w : World} {B b k q : Nat} {l : List UInt8} {s : ByteArray} (h : Bd w B b l) (hk : w.heap[k]? = some (Obj.stringIter s q)) (pos : Nat) : Bd (turnW w k s pos) B b l := Lib.IsBuilderF.iterAt h hk pos
theorem Bk.ne_iter {w : World} {n k : Nat} {t : TypeId} {cs : Array Value} {s : ByteArray} {p : Nat} (h : Bk w n t cs) (hk : w.heap[k]? = some (Obj.stringIter s p)) : k ≠ n := by
  rintro rfl
  rw [show w.heap[k]? = _ from h] at hk
  cases hk
/-- the places of strings' ranges stand -/
def Its (w w' : World) : Prop := ∀ (k : Nat) (s : ByteArray) (p : Nat), w.heap[k]? = some (Obj.stringIter s p) → w'.heap[k]? = some (Obj.stringIter s p)
theorem Its.trans {a b c : World} (h : Its a b) (h' : Its b c) : Its a c := fun k s p hk => h' k s p (h k s p hk)
theorem Its.set_ {w : World} {n : Nat} {t : TypeId} {cs : Array Value} (h : Bk w n t cs) (i : Nat) (u : Value) : Its w (w.setCell ⟨n, i, none⟩ u) := fun k s p hk => (Below.heap_setCell _ _ _ _ (h.ne_iter hk)).trans hk
theorem Its.oth {w w' : World} {B b : Nat} {l : List UInt8} (h : Oth b w w') (hb : Bd w B b l) : Its w w' := fun k s p hk => h.iter hk (hb.ne_iter hk)

set_option maxHeartbeats 1000000 in
theorem head1_stop (w : World) (n b : Nat) (r : Int) (T : List UInt8) (m : Int) (hn : Bk w n 3 #[.int .i64 m]) (hm : m < 1) :
    Calls Try.prog 29 #[.int .i32 r, .string (str T), .pointer (some ⟨n, 0, none⟩), .pointer (some ⟨b, 0, none⟩)] w
      fun e w' => e = .returned (.bool false) ∧ w = w' := by
  have c1 := hn.cell 0
  clear hn
  go_enter Try.func29, Try.ntmps29
  go_wp2
  go_ret
  exact ⟨rfl, rfl⟩
set_option maxHeartbeats 1000000 in
theorem head1_on (w : World) (B n b : Nat) (r : Int) (T L : List UInt8) (m : Int) (hn : Bk w n 3 #[.int .i64 m]) (hm : 1 ≤ m ∧ m ≤ 9223372036854775807) (hb : Bd w B b L) (hT : L.length + T.length ≤ 1000000) (hBn : B ≤ n) (hnb : n ≠ b) :
    Calls Try.prog 29 #[.int .i32 r, .string (str T), .pointer (some ⟨n, 0, none⟩), .pointer (some ⟨b, 0, none⟩)] w
      fun e w' => e = .returned (.bool true) ∧ Bk w' n 3 #[.int .i64 (m - 1)] ∧ Bd w' B b (L ++ T) ∧ Below B w w' ∧ Its w w' := by
  have c1 := hn.cell 0
  have f1 := hn.free 0
  have hm' : ¬ m < 1 := by omega
  have HN := Lib.hid (hn.set_ 0 (.int .i64 (m - 1)))
  have HB := Lib.hid (hb.far hn hnb (by decide) 0 (.int .i64 (m - 1)))
  have HL := Lib.hid ((Below.refl B w).setCell (p := ⟨n, 0, none⟩) hBn (.int .i64 (m - 1)))
  have HK := Lib.hid (Its.set_ hn 0 (.int .i64 (m - 1)))
  have hBw : B ≤ (w.setCell ⟨n, 0, none⟩ (.int .i64 (m - 1))).heap.size := by rw [World.setCell_size']; have := hn.lt; omega
  have HBw := Lib.hid hBw
  clear hBw
  clear hn hb
  go_enter Try.func29, Try.ntmps29
  go_wp2_with fail
  refine (write_any HB.out T (by omega) HBw.out).mono ?_
  rintro e w1 ⟨rfl, h1, h2, h3⟩
  have H1 := Lib.hid h1
  have H2 := Lib.hid h2
  have H3 := Lib.hid h3
  clear h1 h2 h3
  go_wp2
  go_ret
  exact ⟨rfl, H3.out.bk HN.out hnb (by decide), H1.out, HL.out.trans H2.out, HK.out.trans (Its.oth H3.out HB.out)⟩

/-- what is so between two runes: of the rest at p -/
structure RunH (w : World) (B n b : Nat) (l : List UInt8) (m0 : Int) (p : Nat) (wr : World) : Prop where
  cells : ∃ (m : Int) (L : List UInt8), Bk wr n 3 #[.int .i64 m] ∧ (-9223372036854775808 ≤ m ∧ m ≤ 9223372036854775807) ∧ Bd wr B b L ∧ L.length ≤ p ∧ L ++ headT (l.drop p) m = headT l m0
  below : Below B w wr
structure DoneH (w : World) (B b : Nat) (out : List UInt8) (wr : World) : Prop where
  built : Bd wr B b out
  below : Below B w wr
theorem headVis {w : World} {l : List UInt8} {B n b k : Nat} {m0 : Int} (hB : B ≤ n) (hnb : n ≠ b) (hBk : B ≤ k) (hl : l.length ≤ 100000) :
    Vis 29 (.pointer (some ⟨n, 0, none⟩)) (.pointer (some ⟨b, 0, none⟩)) l k (RunH w B n b l m0) (DoneH w B b (headT l m0)) where
  turn p wt pos q h hk := by
    obtain ⟨⟨m, L, h1, h2, h3, h4⟩, h5⟩ := h
    exact ⟨⟨m, L, (turn_else wt k n (str l) pos (fun e => h1.ne_iter hk e.symm)).trans h1, h2, h3.turn hk pos, h4⟩, h5.trans (turn_below wt B k (str l) pos hBk)⟩
  one p wt pos hp h hk := by
    obtain ⟨⟨m, L, h1, h2, h3, h4, h6⟩, h5⟩ := h
    have hne := drop_ne hp
    have hw := wid_le hne
    have hs := tk_len hne
    by_cases hm : m < 1
    · refine (head1_stop wt n b _ _ m h1 hm).mono ?_
      rintro e w' ⟨rfl, rfl⟩
      rw [headT_none _ hm, List.append_nil] at h6
      exact ⟨hk, .inr ⟨rfl, ⟨h6 ▸ h3, h5⟩⟩⟩
    · refine (head1_on wt B n b _ _ L m h1 ⟨by omega, h2.2⟩ h3 (by omega) hB hnb).mono ?_
      rintro e w' ⟨rfl, g1, g2, g3, g4⟩
      refine ⟨g4 _ _ _ hk, .inl ⟨rfl, ⟨⟨m - 1, _, g1, by omega, g2, ?_, ?_⟩, h5.trans g3⟩⟩⟩
      · rw [List.length_append]; omega
      · rw [← h6, headT_cons hne (by omega), List.drop_drop, List.append_assoc]
end Go.Proofs.Ytopjajfkncnihaa
