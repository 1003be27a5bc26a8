/-
  An argument that is a part, blocks, and which bits are turned over, by value.
-/
import Derived.Test.YtjibjojnkieliaaDoorOpenPart
namespace Go.Proofs.YtjibjojnkieliaaDoor
open Go.Joins Go.ChangeShapes Go.WideShapes Go.ChangeAt Go.RowKit Go.Deep
set_option linter.unusedVariables false

theorem array7 {α : Type} {cs : Array α} (h : cs.size = 7) : ∃ c0 c1 c2 c3 c4 c5 c6, cs = #[c0, c1, c2, c3, c4, c5, c6] := by
  obtain ⟨l⟩ := cs
  match l, h with
  | [c0, c1, c2, c3, c4, c5, c6], _ => exact ⟨c0, c1, c2, c3, c4, c5, c6, rfl⟩
theorem cells_part : Tryd.prog.cellsOf 24 = 4 := by kernel_rfl
theorem cells_rows : Tryd.prog.cellsOf 39 = 1 := by kernel_rfl
theorem cells_ents : Tryd.prog.cellsOf 22 = 1 := by kernel_rfl
theorem cells_bool : Tryd.prog.cellsOf 4 = 1 := by kernel_rfl
theorem cells_intP : Tryd.prog.cellsOf 3 = 1 := by kernel_rfl
theorem cells_uintP : Tryd.prog.cellsOf 48 = 1 := by kernel_rfl
theorem cells_u32P : Tryd.prog.cellsOf 49 = 1 := by kernel_rfl
theorem cells_turned : Tryd.prog.cellsOf 51 = 7 := by kernel_rfl
section
variable {H : Type} {enc : TypeId × Value → H} {w : World} {hd : Bool}
theorem rows_field {n : Nat} {v : Value} {y : DataW H × List MemPlace} (h : DataW.trod enc Tryd.prog w 0 (fun _ => true) hd n 39 [v] = some y) :
    ∃ (A : Option Addr) (c : Nat) (ps : List Part), v = .slice A ps.length c ∧ ps.length ≤ c ∧ c ≤ maxLen ∧ PartsIn w w.heap.size A ps := by
  have hf : ∃ a len cap, v = .slice a len cap := by
    rcases open_slice Tryd.underlying39 h with ⟨hcs, _⟩ | ⟨x, l, c, m, n, D, Pl, hcs, _⟩
    · simp only [List.cons.injEq, and_true] at hcs
      exact ⟨_, _, _, hcs⟩
    · simp only [List.cons.injEq, and_true] at hcs
      exact ⟨_, _, _, hcs⟩
  obtain ⟨a, len, cap, rfl⟩ := hf
  obtain ⟨ps, rfl, h1, h2, h3⟩ := rows_in (d := y.1) (p := y.2) (a := a) (len := len) (cap := cap) Tryd.underlying39 Tryd.underlying26 Tryd.underlying5 (by kernel_rfl) (by kernel_rfl) ⟨n, h⟩
  exact ⟨a, cap, ps, rfl, h1, h2, h3⟩
theorem part_field {n : Nat} {v0 v1 v2 v3 : Value} {y : DataW H × List MemPlace} (h : DataW.trod enc Tryd.prog w 0 (fun _ => true) hd n 24 [v0, v1, v2, v3] = some y) :
    ∃ (s x : Int) (f : Bool) (A : Option Addr) (c : Nat) (l : List En), EntsAt w A c l ∧ v0 = .int .i64 s ∧ v1 = .int .i64 x ∧ v2 = .bool f ∧ v3 = .slice A l.length c := by
  obtain ⟨y0, y1, y2, y3, m, _, _, h0, h1, h2, h3⟩ := trod_struct4 Tryd.underlying24 h
  dsimp only at h0 h1 h2 h3
  rw [cells_intP] at h0 h1
  rw [cells_bool] at h2
  rw [cells_ents] at h3
  obtain ⟨s, rfl, _⟩ := int_field (v := v0) h0
  obtain ⟨x, rfl, _⟩ := int_field (v := v1) h1
  obtain ⟨f, e2, _⟩ := DataW.trod_bool Tryd.underlying4 (cs := [v2]) h2
  simp only [List.cons.injEq, and_true] at e2
  subst e2
  obtain ⟨A, c, l, rfl, hl⟩ := ents_field (v := v3) h3
  exact ⟨s, x, f, A, c, l, hl, rfl, rfl, rfl, rfl⟩
theorem turned_in {r : Reach} {b0 : Nat} {v : Value} {d : DataW H} {p : List MemPlace} (hv : Value.okWide Tryd.prog w r b0 51 v) (h : DataW.Trod enc Tryd.prog w 0 (fun _ => true) hd 51 v d p) :
    ∃ (s x : Int) (f : Bool) (A : Option Addr) (c : Nat) (l : List En) (A' : Option Addr) (c' : Nat) (ps : List Part) (at_ turn : Int), (EntsAt w A c l ∧ ps.length ≤ c' ∧ c' ≤ maxLen ∧ PartsIn w w.heap.size A' ps ∧ (0 ≤ at_ ∧ at_ ≤ 18446744073709551615) ∧ 0 ≤ turn ∧ turn ≤ 4294967295)
      ∧ v = .agg #[.int .i64 s, .int .i64 x, .bool f, .slice A l.length c, .slice A' ps.length c', .int .u64 at_, .int .u32 turn] := by
  obtain ⟨cs, rfl, hsz⟩ := okWide_struct Tryd.underlying51 hv
  obtain ⟨c0, c1, c2, c3, c4, c5, c6, rfl⟩ := array7 (hsz.trans cells_turned)
  obtain ⟨fuel, hf⟩ := h
  obtain ⟨y0, y1, y2, y3, m, _, _, h0, h1, h2, h3⟩ := trod_struct4 Tryd.underlying51 hf
  dsimp only at h0 h1 h2 h3
  rw [cells_part] at h0
  rw [cells_rows] at h1
  rw [cells_uintP] at h2
  rw [cells_u32P] at h3
  obtain ⟨s, x, f, A, c, l, hl, rfl, rfl, rfl, rfl⟩ := part_field (v0 := c0) (v1 := c1) (v2 := c2) (v3 := c3) h0
  obtain ⟨A', c', ps, rfl, hc, hm, hp⟩ := rows_field (v := c4) h1
  obtain ⟨q2, e2, _, w2⟩ := DataW.trod_int Tryd.underlying48 (cs := [c5]) h2
  obtain ⟨q3, e3, _, w3⟩ := DataW.trod_int Tryd.underlying49 (cs := [c6]) h3
  simp only [List.cons.injEq, and_true] at e2 e3
  subst e2 e3
  have := bounds_u64 w2
  have := bounds_u32 w3
  exact ⟨s, x, f, A, c, l, A', c', ps, q2, q3, ⟨hl, hc, hm, hp, by omega, by omega⟩, rfl⟩
end
end Go.Proofs.YtjibjojnkieliaaDoor
