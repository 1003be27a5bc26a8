/-
  The table of package crc: what the condition on it gives; the door's own heap meets it.
-/
import Derived.Test.YtnipfonglheofaaDoorRows
import Derived.Test.YtnipfonglheofaaDoorCrc
import Derived.ProofKit
import Derived.LaidMore
import Derived.OpenShut
import Derived.Stop.Joined
namespace Go.Proofs.YtnipfonglheofaaDoor
open Go.ChangeShapes Go.WideShapes Go.ChangeAt Go.WideMaps Go.WideElems Go.RowKit
set_option linter.unusedVariables false

/-- the rows' list of variables -/
abbrev laidHalves : List (String × DataW Unit) := [("haymow/crc.halves", Rows.laid_haymow_crc_halves)]
def halvesL : List Nat := [0, 274646895, 549293790, 820201905, 1098587580, 1361435347, 1640403810, 1905808397, 2197175160, 2460548119, 2722870694, 2987750089, 3280807620, 3553878443, 3811616794, 4084100981]
theorem halvesL_get : ∀ i, i < 16 → halvesL[i]? = some (stepN 4 i) := by decide +kernel
theorem halves_datum : (Rows.laid_haymow_crc_halves : DataW Unit) = .agg (halvesL.map fun n : Nat => .lit (.int .u32 (n : Int))) := rfl
theorem gHalves : Tryd.prog.globalNamed "haymow/crc.halves" = some 2 := by kernel_rfl
theorem tHalves : (Tryd.prog.globals[2]?).map (·.type) = some 86 := by kernel_rfl
theorem cellsHalves : Tryd.prog.cellsOf 27 = 1 := by kernel_rfl
theorem cellsHalves16 : Tryd.prog.cellsOf 86 = 16 := by kernel_rfl

theorem tab_of_laid {W : World} (h : laidMetH Tryd.prog laidHalves W) : Tab W := by
  rw [MakeChecks.laidMetH_plain _ _ _ (by kernel_rfl)] at h
  obtain ⟨ps, ⟨g0, t0, cs0, f0, p0, q0, hg0, ht0, hv0, hd0, _, _⟩, _, _⟩ := h
  obtain rfl := Option.some.inj (gHalves.symm.trans hg0)
  obtain rfl := Option.some.inj (tHalves.symm.trans ht0)
  obtain ⟨xs, m1, rfl, hx1, hlen, hn, hel⟩ := DataW.trod_array Tryd.underlying86 hd0
  rw [cellsHalves] at hel
  rw [cellsHalves16] at hlen
  simp only [Prod.mk.injEq] at hx1
  have hx2 := hx1.1
  rw [halves_datum] at hx2
  injection hx2 with hx2
  intro i hi
  have h1 := hel i hi
  have hxi : i < xs.length := by omega
  rw [List.getElem?_eq_getElem hxi] at h1
  obtain ⟨n, e1, e2, _⟩ := DataW.trod_int Tryd.underlying27 h1
  have h3 := congrArg (·[i]?) hx2
  simp only [List.getElem?_map, halvesL_get i hi, List.getElem?_eq_getElem hxi, e2, Option.map_some, Option.some.injEq] at h3
  have hn2 : (stepN 4 i : Int) = n := by injection h3 with h3; injection h3 with _ h3
  have hc := World.var?_cell hg0 hv0 i
  rw [hc]
  have hcs : i < cs0.toList.length := by omega
  have e3 : cs0.toList[i]? = some (.int .u32 n) := by
    have h4 := congrArg (·[0]?) e1
    simpa using h4
  rw [← Array.getElem?_toList, e3, hn2]

/-- the door's own heap meets the condition -/
theorem door_met (os : Os) (args : Array Value) : laidMetH Tryd.prog laidHalves ((World.doorLaid Tryd.prog 400 os).forCall (fun _ _ => 0) ⟨#[], args, []⟩).memory :=
  laidMetH_of_parts3 (fuel := 8) (laidMet_of_run' 8 (by kernel_rfl) (by kernel_rfl)) (by kernel_rfl) (by kernel_rfl)
end Go.Proofs.YtnipfonglheofaaDoor
