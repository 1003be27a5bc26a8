/-
  What the landed entry's small functions answer: whether an entry's numbers may be, an entry with octets of its own, lists one behind the other.
-/
import Derived.Test.YtgboccepgbeihaaEntMem
import Derived.Test.YtgboccepgbeihaaEntShelf
import Derived.Test.YtgboccepgbeihaaRef10f
import Derived.LoopTactic
import Derived.BigQuiet
namespace Go.Proofs.Ytgboccepgbeihaa
open Go.RowKit
set_option maxRecDepth 100000
set_option linter.unusedVariables false

theorem sound_any (s : ByteArray) (i t : Int) (r : Bool) (w : World) (hr : decide (1 ≤ i ∧ i ≤ 39 ∧ (t = 1 ∨ t = 2)) = r) :
    Calls Try.prog 25 #[.agg #[.string s, .int .i64 i, .int .i64 t]] w fun e w' => e = .returned (.bool r) ∧ Below w.heap.size w w' := by
  have HB := Lib.hid ((Below.refl w.heap.size w).alloc (Nat.le_refl _) (.cells #[.string s, .int .i64 i, .int .i64 t] 38))
  have key : (i < 1 ∧ ¬ 1 ≤ i ∧ r = false) ∨ (39 < i ∧ 1 ≤ i ∧ ¬ i ≤ 39 ∧ r = false) ∨ (1 ≤ i ∧ i ≤ 39 ∧ t = 1 ∧ r = true) ∨ (1 ≤ i ∧ i ≤ 39 ∧ t = 2 ∧ r = true) ∨ (1 ≤ i ∧ i ≤ 39 ∧ (t == 1) = false ∧ (t == 2) = false ∧ r = false) := by
    rw [← hr]
    by_cases h1 : 1 ≤ i
    · by_cases h2 : i ≤ 39
      · by_cases h3 : t = 1
        · exact .inr (.inr (.inl ⟨h1, h2, h3, decide_eq_true ⟨h1, h2, .inl h3⟩⟩))
        · by_cases h4 : t = 2
          · exact .inr (.inr (.inr (.inl ⟨h1, h2, h4, decide_eq_true ⟨h1, h2, .inr h4⟩⟩)))
          · exact .inr (.inr (.inr (.inr ⟨h1, h2, beq_false_of_ne h3, beq_false_of_ne h4, decide_eq_false (by omega)⟩)))
      · exact .inr (.inl ⟨by omega, h1, h2, decide_eq_false (by omega)⟩)
    · exact .inl ⟨by omega, h1, decide_eq_false (by omega)⟩
  clear hr
  rcases key with ⟨h0, h, rfl⟩ | ⟨h0, h1, h2, rfl⟩ | ⟨h1, h2, rfl, rfl⟩ | ⟨h1, h2, rfl, rfl⟩ | ⟨h1, h2, h3, h4, rfl⟩
  all_goals
    go_enter Try.func25, Try.ntmps25
    go_wp2
    go_ret
    exact ⟨rfl, HB.out⟩

theorem results_et1 {fn : Func} {p : Tmp} (h : fn.results = #[.cell p 38]) (tmps : Array Value) (w : World) (g : Nat) (t : TypeId) (x y z : Value) (hp : tmps.getD p undef = .pointer (some ⟨g, 0, none⟩)) (hk : Bk w g t #[x, y, z]) :
    (results fn tmps).run Try.prog w = .ok (.agg #[x, y, z]) w := by
  obtain ⟨c0, c1, c2, -⟩ := et_cells hk
  rw [Array.getD_eq_getD_getElem?] at hp
  simp [results, h, go_sem, hp, c0, c1, c2]

set_option maxHeartbeats 4000000 in
theorem own_any (l : List UInt8) (i t : Int) (w : World) (hl : l.length ≤ 100000) :
    Calls Try.prog 33 #[.agg #[.string (str l), .int .i64 i, .int .i64 t]] w fun e w' => e = .returned (.agg #[.string (str l), .int .i64 i, .int .i64 t]) ∧ Below w.heap.size w w' := by
  have HC := Lib.hid fun w' => clone_any l w' hl
  obtain ⟨X, hX⟩ : ∃ X, str l = X := ⟨_, rfl⟩
  rw [hX] at HC ⊢
  clear hX hl
  have HB0 := Lib.hid (((Below.refl w.heap.size w).alloc (Nat.le_refl _) (.cells #[.string X, .int .i64 i, .int .i64 t] 38)).alloc (by simp) (.cells #[.string ByteArray.empty, .int .i64 0, .int .i64 0] 38))
  have K0 := Lib.hid ((Bk.new w 38 #[.string X, .int .i64 i, .int .i64 t]).alloc (.cells #[.string ByteArray.empty, .int .i64 0, .int .i64 0] 38))
  have R0 := Bk.new (w.alloc (.cells #[.string X, .int .i64 i, .int .i64 t] 38)) 38 #[.string ByteArray.empty, .int .i64 0, .int .i64 0]
  rw [World.alloc_size'] at R0
  have R0 := Lib.hid R0
  go_enter Try.func33, Try.ntmps33
  obtain ⟨c0, c1, c2, f0, f1, f2⟩ := et_cells K0.out
  go_wp2_with fail
  refine (HC.out _).mono ?_
  rintro e w1 ⟨rfl, hb⟩
  have K1 := Lib.hid (K0.out.below hb K0.out.lt)
  have R1 := Lib.hid (R0.out.below hb R0.out.lt)
  have HB1 := Lib.hid (HB0.out.trans (hb.mono HB0.out.size))
  clear hb HB0 K0 R0 c0 c1 c2 f0 f1 f2 HC
  obtain ⟨k0, k1, k2, f0, f1, f2⟩ := et_cells K1.out
  have K2 := Lib.hid (K1.out.set_ 0 (.string X))
  have R2 := Lib.hid (R1.out.far (p := ⟨w.heap.size, 0, none⟩) (by simp) (.string X))
  have HB2 := Lib.hid (HB1.out.setCell (p := ⟨w.heap.size, 0, none⟩) (Nat.le_refl _) (.string X))
  obtain ⟨m0, m1, m2, -⟩ := et_cells K2.out
  obtain ⟨r0, r1, r2, q0, q1, q2⟩ := et_cells R2.out
  obtain ⟨p0, p1, p2, R3⟩ := et_puts R2.out (.string X) (.int .i64 i) (.int .i64 t)
  have R3 := Lib.hid R3
  have HB3 := Lib.hid (((HB2.out.setCell (p := ⟨w.heap.size + 1, 0, none⟩) (by simp) (.string X)).setCell (p := ⟨w.heap.size + 1, 1, none⟩) (by simp) (.int .i64 i)).setCell (p := ⟨w.heap.size + 1, 2, none⟩) (by simp) (.int .i64 t))
  go_wp2
  refine bodyPost_ret (results_et1 rfl _ _ (w.heap.size + 1) _ _ _ _ rfl R3.out) rfl ⟨rfl, HB3.out⟩
end Go.Proofs.Ytgboccepgbeihaa
