/-
  The landed reach: its tables loaded and indexed; parts, way, which, Size.
-/
import Derived.Test.YtnipfonglheofaaDoorReachT
import Derived.Test.YtnipfonglheofaaDoorRef08
import Derived.Laws.Rows
import Derived.Laws.Tables
import Derived.Deep.MidRow
import Derived.DeepKeys
import Derived.ChangeKeysEq
namespace Go.Proofs.YtnipfonglheofaaDoor
open Go.RowKit
set_option maxRecDepth 100000
set_option linter.unusedVariables false

theorem inf_rch : (Tryd.prog.info? 53).map (·.size) = some 9 := by kernel_rfl
theorem inf_grp : (Tryd.prog.info? 51).map (·.size) = some 12 := by kernel_rfl
theorem und_rch : ∃ d, Tryd.prog.underlying 53 = some d ∧ d.isRow = true := ⟨_, Tryd.underlying53, rfl⟩
theorem und_grp : ∃ d, Tryd.prog.underlying 51 = some d ∧ d.isRow = true := ⟨_, Tryd.underlying51, rfl⟩
section
variable {ops : Array Oper} {rest : List Oper} {o : Oper} {a : Act} {w : World} {Q : Exit → Act → World → Prop}
theorem wpList_load_rch (hw : Region.wanted o (yielded ops a.tmps) = true) (y : Operand) (ho : o.op = .load 53 y) (hy : a.eval y = .pointer (some ⟨1, 0, none⟩)) (ht : RTab w)
    (h : wpList Tryd.prog ops Q rest (a.put o.dst (.agg rchA)) w) : wpList Tryd.prog ops Q (o :: rest) a w :=
  BigFrame.wpList_want hw fun K hK => by
    obtain ⟨d, hu, hd⟩ := und_rch
    exact wp_load_mid 53 y ho 1 0 hy rchV d (fun j v hv => by rw [Nat.zero_add]; exact ht.rch j v hv) hu hd (by rw [inf_rch]; rfl) (hK _ _ h)
theorem wpList_load_grp (hw : Region.wanted o (yielded ops a.tmps) = true) (y : Operand) (ho : o.op = .load 51 y) (hy : a.eval y = .pointer (some ⟨0, 0, none⟩)) (ht : RTab w)
    (h : wpList Tryd.prog ops Q rest (a.put o.dst (.agg grpA)) w) : wpList Tryd.prog ops Q (o :: rest) a w :=
  BigFrame.wpList_want hw fun K hK => by
    obtain ⟨d, hu, hd⟩ := und_grp
    exact wp_load_mid 51 y ho 0 0 hy grpV d (fun j v hv => by rw [Nat.zero_add]; exact ht.grp j v hv) hu hd (by rw [inf_grp]; rfl) (hK _ _ h)
end
theorem index_rch (k s : Nat) (hk : k < 9) (hs : 15 ^ kR k = s) (w : World) : (Instr.index 53 (.agg rchA) (.int .i64 (k : Int))).run Tryd.prog w = .ok (.int .i64 (s : Int)) w := by
  subst hs
  refine nine (p := fun k => (Instr.index 53 (.agg rchA) (.int .i64 (k : Int))).run Tryd.prog w = .ok (.int .i64 ((15 ^ kR k : Nat) : Int)) w) ⟨?_, ?_, ?_, ?_, ?_, ?_, ?_, ?_, ?_⟩ k hk <;> kernel_rfl
theorem index_grp (k f s : Nat) (hk : k < 6) (hf : fG k = f) (hs : 15 ^ kG k = s) (w : World) : (Instr.index 51 (.agg grpA) (.int .i64 (k : Int))).run Tryd.prog w = .ok (.agg #[.int .i64 (f : Int), .int .i64 (s : Int)]) w := by
  subst hs
  subst hf
  refine six (p := fun k => (Instr.index 51 (.agg grpA) (.int .i64 (k : Int))).run Tryd.prog w = .ok (.agg #[.int .i64 ((fG k : Nat) : Int), .int .i64 ((15 ^ kG k : Nat) : Int)]) w) ⟨?_, ?_, ?_, ?_, ?_, ?_⟩ k hk <;> kernel_rfl

end Go.Proofs.YtnipfonglheofaaDoor
