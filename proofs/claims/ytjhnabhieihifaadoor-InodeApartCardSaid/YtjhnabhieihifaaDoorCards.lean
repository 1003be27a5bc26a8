/-
  DERIVED. GIVEN WITH THE SEED: THE CARDS: each row of YtjhnabhieihifaaDoorRows.lean that lists a variable, with what it lists TIED to the program's text (the seventh form; the later family's looks); each row that meets fmt, with fmt's text TOLD by the authors' own Lean function (tested against real Go, not proved from fmt's source: count such statements apart). THE CARD IS WHAT COUNTS. Prove the row's statement (the work); the ties are given (YtjhnabhieihifaaDoorTie.lean); close each card by the builder's one call (the guide's Derived/Test/ToyasCard.lean, 'card_holds'). Laid BY PROGRAM, IN A SANDBOX (cutbox-door.mjs). By AI agents, Wed Nov 11 2026. No macro, syntax, notation, axiom, sorry.
-/
import Derived.Test.YtjhnabhieihifaaDoorRows
import GoSem.ClaimSeven
namespace Go.Proofs.YtjhnabhieihifaaDoor
namespace Rows

/-- THE TIED CARD OF 'haymowlaw07.InodeEncodes'. -/
def inodeEncodesCard : Claim7 := { stood := { row := inodeEncodesRow, standIns := [], harness := (true, "0390b192873291284b31db15571e0b261f058e0900773fbf6ad0ee18d581b194"), looks := false }, kinds := [], alts := [], laidByText := true, laidKinds := [.data], laidTests := true, laidLooks := .later }
def InodeEncodesCardSaid : Prop := Claim7.holds Tryd.pinned (.plain (OpenSpec.ofChange inodeEncodesSpec)) inodeEncodesCard

/-- THE TIED CARD OF 'haymowlaw07.InodeDecodes'. -/
def inodeDecodesCard : Claim7 := { stood := { row := inodeDecodesRow, standIns := [], harness := (true, "0390b192873291284b31db15571e0b261f058e0900773fbf6ad0ee18d581b194"), looks := false }, kinds := [], alts := [], laidByText := true, laidKinds := [.data], laidTests := true, laidLooks := .later }
def InodeDecodesCardSaid : Prop := Claim7.holds Tryd.pinned (.plain (OpenSpec.ofChange inodeDecodesSpec)) inodeDecodesCard

/-- THE TIED CARD OF 'haymowlaw07.InodeNodes'. -/
def inodeNodesCard : Claim7 := { stood := { row := inodeNodesRow, standIns := [], harness := (true, "0390b192873291284b31db15571e0b261f058e0900773fbf6ad0ee18d581b194"), looks := false }, kinds := [], alts := [], laidByText := true, laidKinds := [.data], laidTests := true, laidLooks := .later }
def InodeNodesCardSaid : Prop := Claim7.holds Tryd.pinned (.plain (OpenSpec.ofChange inodeNodesSpec)) inodeNodesCard

/-- THE TIED CARD OF 'haymowlaw07.InodePoints'. -/
def inodePointsCard : Claim7 := { stood := { row := inodePointsRow, standIns := [], harness := (true, "0390b192873291284b31db15571e0b261f058e0900773fbf6ad0ee18d581b194"), looks := false }, kinds := [], alts := [], laidByText := true, laidKinds := [.data], laidTests := true, laidLooks := .later }
def InodePointsCardSaid : Prop := Claim7.holds Tryd.pinned (.plain (OpenSpec.ofChange inodePointsSpec)) inodePointsCard

/-- THE TIED CARD OF 'haymowlaw07.InodeApart'. -/
def inodeApartCard : Claim7 := { stood := { row := inodeApartRow, standIns := [], harness := (true, "0390b192873291284b31db15571e0b261f058e0900773fbf6ad0ee18d581b194"), looks := false }, kinds := [], alts := [], laidByText := true, laidKinds := [.data], laidTests := true, laidLooks := .later }
def InodeApartCardSaid : Prop := Claim7.holds Tryd.pinned (.plain (OpenSpec.ofChange inodeApartSpec)) inodeApartCard

/-- THE SECOND FORM's CARD OF 'haymowlaw07.InodeEncodes'. -/
def inodeEncodesUptoCard : Claim7 := { stood := { row := inodeEncodesUptoRow, standIns := [], harness := (true, "0390b192873291284b31db15571e0b261f058e0900773fbf6ad0ee18d581b194"), looks := false }, kinds := [], alts := [], laidByText := true, laidKinds := [.data], laidTests := true, laidLooks := .later }
def InodeEncodesUptoCardSaid : Prop := Claim7.holds Tryd.pinned (.plain (OpenSpec.upto inodeEncodesSpec)) inodeEncodesUptoCard

/-- THE SECOND FORM's CARD OF 'haymowlaw07.InodeDecodes'. -/
def inodeDecodesUptoCard : Claim7 := { stood := { row := inodeDecodesUptoRow, standIns := [], harness := (true, "0390b192873291284b31db15571e0b261f058e0900773fbf6ad0ee18d581b194"), looks := false }, kinds := [], alts := [], laidByText := true, laidKinds := [.data], laidTests := true, laidLooks := .later }
def InodeDecodesUptoCardSaid : Prop := Claim7.holds Tryd.pinned (.plain (OpenSpec.upto inodeDecodesSpec)) inodeDecodesUptoCard

/-- THE SECOND FORM's CARD OF 'haymowlaw07.InodeNodes'. -/
def inodeNodesUptoCard : Claim7 := { stood := { row := inodeNodesUptoRow, standIns := [], harness := (true, "0390b192873291284b31db15571e0b261f058e0900773fbf6ad0ee18d581b194"), looks := false }, kinds := [], alts := [], laidByText := true, laidKinds := [.data], laidTests := true, laidLooks := .later }
def InodeNodesUptoCardSaid : Prop := Claim7.holds Tryd.pinned (.plain (OpenSpec.upto inodeNodesSpec)) inodeNodesUptoCard

/-- THE SECOND FORM's CARD OF 'haymowlaw07.InodePoints'. -/
def inodePointsUptoCard : Claim7 := { stood := { row := inodePointsUptoRow, standIns := [], harness := (true, "0390b192873291284b31db15571e0b261f058e0900773fbf6ad0ee18d581b194"), looks := false }, kinds := [], alts := [], laidByText := true, laidKinds := [.data], laidTests := true, laidLooks := .later }
def InodePointsUptoCardSaid : Prop := Claim7.holds Tryd.pinned (.plain (OpenSpec.upto inodePointsSpec)) inodePointsUptoCard

/-- THE SECOND FORM's CARD OF 'haymowlaw07.InodeApart'. -/
def inodeApartUptoCard : Claim7 := { stood := { row := inodeApartUptoRow, standIns := [], harness := (true, "0390b192873291284b31db15571e0b261f058e0900773fbf6ad0ee18d581b194"), looks := false }, kinds := [], alts := [], laidByText := true, laidKinds := [.data], laidTests := true, laidLooks := .later }
def InodeApartUptoCardSaid : Prop := Claim7.holds Tryd.pinned (.plain (OpenSpec.upto inodeApartSpec)) inodeApartUptoCard
end Rows
end Go.Proofs.YtjhnabhieihifaaDoor
