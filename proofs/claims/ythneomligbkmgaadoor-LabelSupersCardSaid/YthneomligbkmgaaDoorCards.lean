/-
  DERIVED. GIVEN WITH THE SEED: THE CARDS: each row of YthneomligbkmgaaDoorRows.lean that lists a variable, with what it lists TIED to the program's text (the seventh form; the later family's looks); each row that meets fmt, with fmt's text TOLD by the authors' own Lean function (tested against real Go, not proved from fmt's source: count such statements apart). THE CARD IS WHAT COUNTS. Prove the row's statement (the work); the ties are given (YthneomligbkmgaaDoorTie.lean); close each card by the builder's one call (the guide's Derived/Test/ToyasCard.lean, 'card_holds'). Laid BY PROGRAM, IN A SANDBOX (cutbox-door.mjs). By AI agents, Wed Nov 11 2026. No macro, syntax, notation, axiom, sorry.
-/
import Derived.Test.YthneomligbkmgaaDoorRows
import GoSem.ClaimSeven
namespace Go.Proofs.YthneomligbkmgaaDoor
namespace Rows

/-- THE TIED CARD OF 'haymowlaw05.LabelSupers'. -/
def labelSupersCard : Claim7 := { stood := { row := labelSupersRow, standIns := [], harness := (true, "172cf3ead0a784aad228e2e0106533875a336e67cabc544eb26b1ade57019a45"), looks := false }, kinds := [], alts := [], laidByText := true, laidKinds := [.data], laidTests := true, laidLooks := .later }
def LabelSupersCardSaid : Prop := Claim7.holds Tryd.pinned (.plain (OpenSpec.ofChange labelSupersSpec)) labelSupersCard

/-- THE TIED CARD OF 'haymowlaw05.LabelVolumes'. -/
def labelVolumesCard : Claim7 := { stood := { row := labelVolumesRow, standIns := [], harness := (true, "172cf3ead0a784aad228e2e0106533875a336e67cabc544eb26b1ade57019a45"), looks := false }, kinds := [], alts := [], laidByText := true, laidKinds := [.data], laidTests := true, laidLooks := .later }
def LabelVolumesCardSaid : Prop := Claim7.holds Tryd.pinned (.plain (OpenSpec.ofChange labelVolumesSpec)) labelVolumesCard

/-- THE TIED CARD OF 'haymowlaw05.LabelReads'. -/
def labelReadsCard : Claim7 := { stood := { row := labelReadsRow, standIns := [], harness := (true, "172cf3ead0a784aad228e2e0106533875a336e67cabc544eb26b1ade57019a45"), looks := false }, kinds := [], alts := [], laidByText := true, laidKinds := [.data], laidTests := true, laidLooks := .later }
def LabelReadsCardSaid : Prop := Claim7.holds Tryd.pinned (.plain (OpenSpec.ofChange labelReadsSpec)) labelReadsCard

/-- THE TIED CARD OF 'haymowlaw05.LabelApart'. -/
def labelApartCard : Claim7 := { stood := { row := labelApartRow, standIns := [], harness := (true, "172cf3ead0a784aad228e2e0106533875a336e67cabc544eb26b1ade57019a45"), looks := false }, kinds := [], alts := [], laidByText := true, laidKinds := [.data], laidTests := true, laidLooks := .later }
def LabelApartCardSaid : Prop := Claim7.holds Tryd.pinned (.plain (OpenSpec.ofChange labelApartSpec)) labelApartCard

/-- THE SECOND FORM's CARD OF 'haymowlaw05.LabelSupers'. -/
def labelSupersUptoCard : Claim7 := { stood := { row := labelSupersUptoRow, standIns := [], harness := (true, "172cf3ead0a784aad228e2e0106533875a336e67cabc544eb26b1ade57019a45"), looks := false }, kinds := [], alts := [], laidByText := true, laidKinds := [.data], laidTests := true, laidLooks := .later }
def LabelSupersUptoCardSaid : Prop := Claim7.holds Tryd.pinned (.plain (OpenSpec.upto labelSupersSpec)) labelSupersUptoCard

/-- THE SECOND FORM's CARD OF 'haymowlaw05.LabelVolumes'. -/
def labelVolumesUptoCard : Claim7 := { stood := { row := labelVolumesUptoRow, standIns := [], harness := (true, "172cf3ead0a784aad228e2e0106533875a336e67cabc544eb26b1ade57019a45"), looks := false }, kinds := [], alts := [], laidByText := true, laidKinds := [.data], laidTests := true, laidLooks := .later }
def LabelVolumesUptoCardSaid : Prop := Claim7.holds Tryd.pinned (.plain (OpenSpec.upto labelVolumesSpec)) labelVolumesUptoCard

/-- THE SECOND FORM's CARD OF 'haymowlaw05.LabelReads'. -/
def labelReadsUptoCard : Claim7 := { stood := { row := labelReadsUptoRow, standIns := [], harness := (true, "172cf3ead0a784aad228e2e0106533875a336e67cabc544eb26b1ade57019a45"), looks := false }, kinds := [], alts := [], laidByText := true, laidKinds := [.data], laidTests := true, laidLooks := .later }
def LabelReadsUptoCardSaid : Prop := Claim7.holds Tryd.pinned (.plain (OpenSpec.upto labelReadsSpec)) labelReadsUptoCard

/-- THE SECOND FORM's CARD OF 'haymowlaw05.LabelApart'. -/
def labelApartUptoCard : Claim7 := { stood := { row := labelApartUptoRow, standIns := [], harness := (true, "172cf3ead0a784aad228e2e0106533875a336e67cabc544eb26b1ade57019a45"), looks := false }, kinds := [], alts := [], laidByText := true, laidKinds := [.data], laidTests := true, laidLooks := .later }
def LabelApartUptoCardSaid : Prop := Claim7.holds Tryd.pinned (.plain (OpenSpec.upto labelApartSpec)) labelApartUptoCard
end Rows
end Go.Proofs.YthneomligbkmgaaDoor
