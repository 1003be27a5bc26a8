/-
  The tables of package reach: what the condition on them gives.
-/
import Derived.Test.YtnipfonglheofaaDoorRows
import Derived.Test.YtnipfonglheofaaDoorReachT
import Derived.ProofKit
import Derived.LaidMore
import Derived.OpenShut
import Derived.Stop.Joined
import Derived.Lib.LaidU8
namespace Go.Proofs.YtnipfonglheofaaDoor
open Go.ChangeShapes Go.WideShapes Go.ChangeAt Go.WideMaps Go.WideElems Go.RowKit
set_option linter.unusedVariables false

theorem gRch : Tryd.prog.globalNamed "haymow/reach.reached" = some 1 := by kernel_rfl
theorem tRch : (Tryd.prog.globals[1]?).map (·.type) = some 53 := by kernel_rfl
theorem gGrp : Tryd.prog.globalNamed "haymow/reach.groups" = some 0 := by kernel_rfl
theorem tGrp : (Tryd.prog.globals[0]?).map (·.type) = some 51 := by kernel_rfl
theorem cInt : Tryd.prog.cellsOf 3 = 1 := by kernel_rfl
theorem cGroup : Tryd.prog.cellsOf 50 = 2 := by kernel_rfl
theorem rch_datum : ∀ i, i < 9 → ∃ l, (Rows.laid_haymow_reach_reached : DataW Unit) = .agg l ∧ l[i]? = some (.lit (.int .i64 ((15 ^ kR i : Nat) : Int))) := nine ⟨⟨_, rfl, rfl⟩, ⟨_, rfl, rfl⟩, ⟨_, rfl, rfl⟩, ⟨_, rfl, rfl⟩, ⟨_, rfl, rfl⟩, ⟨_, rfl, rfl⟩, ⟨_, rfl, rfl⟩, ⟨_, rfl, rfl⟩, ⟨_, rfl, rfl⟩⟩
theorem grp_datum : ∀ i, i < 6 → ∃ l, (Rows.laid_haymow_reach_groups : DataW Unit) = .agg l ∧ l[i]? = some (.agg ([((fG i : Nat) : Int), ((15 ^ kG i : Nat) : Int)].map fun z => .lit (.int .i64 z))) := six ⟨⟨_, rfl, rfl⟩, ⟨_, rfl, rfl⟩, ⟨_, rfl, rfl⟩, ⟨_, rfl, rfl⟩, ⟨_, rfl, rfl⟩, ⟨_, rfl, rfl⟩⟩

theorem rtab_of_reads {W : World} (h3 : Lib.VarReads Tryd.prog W "haymow/reach.reached" Rows.laid_haymow_reach_reached) (h4 : Lib.VarReads Tryd.prog W "haymow/reach.groups" Rows.laid_haymow_reach_groups) : RTab W := by
  refine ⟨fun j v hv => ?_, fun j v hv => ?_⟩
  · obtain ⟨g, t, cs, fuel, p, hg, hty, hvar, hd⟩ := h3
    obtain rfl := Option.some.inj (gRch.symm.trans hg)
    obtain rfl := Option.some.inj (tRch.symm.trans hty)
    have hj : j < 9 := by
      rcases Nat.lt_or_ge j 9 with h | h
      · exact h
      · rw [List.getElem?_eq_none (by simpa [rchV] using h)] at hv; cases hv
    obtain ⟨l, hl, hlj⟩ := rch_datum j hj
    rw [hl] at hd
    obtain ⟨fuel', d, q, hdi, he⟩ := Lib.array_elem Tryd.underlying53 hd j hj
    rw [hlj] at hdi
    obtain rfl := Option.some.inj hdi
    rw [cInt, Nat.mul_one] at he
    obtain ⟨n, e1, e2, _⟩ := DataW.trod_int Tryd.underlying3 he
    obtain ⟨N, hN⟩ : ∃ N : Int, ((15 ^ kR j : Nat) : Int) = N := ⟨_, rfl⟩
    rw [hN] at e2
    have hn : N = n := by have := congrArg Prod.fst e2; simpa using this
    rw [← hN] at hn
    have e0 := congrArg (·[0]?) e1
    simp only [List.getElem?_take, List.getElem?_drop] at e0
    rw [World.var?_cell hg hvar j, ← Array.getElem?_toList, ← hv, rch_get j hj, hn]
    simpa [iv] using e0
  · obtain ⟨g, t, cs, fuel, p, hg, hty, hvar, hd⟩ := h4
    obtain rfl := Option.some.inj (gGrp.symm.trans hg)
    obtain rfl := Option.some.inj (tGrp.symm.trans hty)
    have hj : j < 12 := by
      rcases Nat.lt_or_ge j 12 with h | h
      · exact h
      · rw [List.getElem?_eq_none (by simpa [grpV] using h)] at hv; cases hv
    obtain ⟨i, hi, hij⟩ : ∃ i, i < 6 ∧ (j = i * 2 ∨ j = i * 2 + 1) := ⟨j / 2, by omega, by omega⟩
    obtain ⟨l, hl, hli⟩ := grp_datum i hi
    rw [hl] at hd
    obtain ⟨fuel', d, q, hdi, he⟩ := Lib.array_elem Tryd.underlying51 hd i hi
    rw [hli] at hdi
    obtain rfl := Option.some.inj hdi
    rw [cGroup] at he
    have hcs := Lib.ints_of_struct Tryd.underlying50 (fun j f hj => by
      match j, hj with
      | 0, hj => simp at hj; subst hj; exact ⟨Tryd.underlying3, rfl, cInt⟩
      | 1, hj => simp at hj; subst hj; exact ⟨Tryd.underlying3, rfl, cInt⟩
      | j + 2, hj => simp at hj) (by rw [cGroup]; rfl) he
    have e0 := congrArg (·[0]?) hcs
    have e1 := congrArg (·[1]?) hcs
    simp only [List.getElem?_take, List.getElem?_drop] at e0 e1
    obtain ⟨g0, g1⟩ := grp_get i hi
    rw [World.var?_cell hg hvar j, ← Array.getElem?_toList, ← hv]
    rcases hij with rfl | rfl
    · rw [g0]; simpa [iv] using e0
    · rw [g1]; simpa [iv] using e1
end Go.Proofs.YtnipfonglheofaaDoor
