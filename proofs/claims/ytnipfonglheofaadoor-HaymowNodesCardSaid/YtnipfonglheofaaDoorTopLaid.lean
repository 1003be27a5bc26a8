/-
  The condition on the tables of packages crc and reach together; the door's own heap meets it.
-/
import Derived.Test.YtnipfonglheofaaDoorRchTab
import Derived.Test.YtnipfonglheofaaDoorCrcTab
namespace Go.Proofs.YtnipfonglheofaaDoor
open Go.ChangeShapes Go.WideShapes Go.ChangeAt Go.WideMaps Go.WideElems Go.RowKit
set_option linter.unusedVariables false
/-- the rows' list of variables -/
abbrev laidTop : List (String × DataW Unit) := [("haymow/crc.halves", Rows.laid_haymow_crc_halves), ("haymow/reach.reached", Rows.laid_haymow_reach_reached), ("haymow/reach.groups", Rows.laid_haymow_reach_groups)]
theorem tab_of_reads {W : World} (h : Lib.VarReads Tryd.prog W "haymow/crc.halves" Rows.laid_haymow_crc_halves) : Tab W := by
  obtain ⟨g0, t0, cs0, f0, p0, hg0, ht0, hv0, hd0⟩ := h
  obtain rfl := Option.some.inj (gHalves.symm.trans hg0)
  obtain rfl := Option.some.inj (tHalves.symm.trans ht0)
  obtain ⟨xs, m1, rfl, hx1, hlen, hn, hel⟩ := DataW.trod_array Tryd.underlying86 hd0
  rw [cellsHalves] at hel
  rw [cellsHalves16] at hlen
  simp only [Prod.mk.injEq] at hx1
  have hx2 := hx1.1
  rw [halves_datum] at hx2
  injection hx2 with hx2
  intro i hi
  have h1 := hel i hi
  have hxi : i < xs.length := by omega
  rw [List.getElem?_eq_getElem hxi] at h1
  obtain ⟨n, e1, e2, _⟩ := DataW.trod_int Tryd.underlying27 h1
  have h3 := congrArg (·[i]?) hx2
  simp only [List.getElem?_map, halvesL_get i hi, List.getElem?_eq_getElem hxi, e2, Option.map_some, Option.some.injEq] at h3
  have hn2 : (stepN 4 i : Int) = n := by injection h3 with h3; injection h3 with _ h3
  have hc := World.var?_cell hg0 hv0 i
  rw [hc]
  have hcs : i < cs0.toList.length := by omega
  have e3 : cs0.toList[i]? = some (.int .u32 n) := by
    have h4 := congrArg (·[0]?) e1
    simpa using h4
  rw [← Array.getElem?_toList, e3, hn2]

theorem tabs_of_laid {W : World} (h : laidMetH Tryd.prog laidTop W) : Tab W ∧ RTab W := by
  rw [MakeChecks.laidMetH_plain _ _ _ (by kernel_rfl)] at h
  exact ⟨tab_of_reads (Lib.laidMet.reads h (.head _)), rtab_of_reads (Lib.laidMet.reads h (.tail _ (.head _))) (Lib.laidMet.reads h (.tail _ (.tail _ (.head _))))⟩
theorem top_met (os : Os) (args : Array Value) : laidMetH Tryd.prog laidTop ((World.doorLaid Tryd.prog 400 os).forCall (fun _ _ => 0) ⟨#[], args, []⟩).memory :=
  laidMetH_of_parts3 (fuel := 8) (laidMet_of_run' 8 (by kernel_rfl) (by kernel_rfl)) (by kernel_rfl) (by kernel_rfl)
end Go.Proofs.YtnipfonglheofaaDoor
