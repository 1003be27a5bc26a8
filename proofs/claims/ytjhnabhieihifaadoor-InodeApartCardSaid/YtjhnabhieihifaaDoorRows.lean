/-
  NARROWER THAN 'FOR EVERY INPUT', by the rows' own cells (each row's printed sentence says how): InodeEncodes: laid · InodeDecodes: laid · InodeNodes: laid · InodePoints: laid · InodeApart: laid.
  DERIVED. THE GIVEN ROWS OF THIS SEAT. 5 by the template 'for every input the law returns true; each argument reads behind the call as it read before'; 0 by the template 'total and deterministic' (their statements: YtjhnabhieihifaaDoorTotals.lean).
  GIVEN WITH THE SEED: the statements are not yours to turn. If you find one false, say at which input.
  Laid BY PROGRAM, IN A SANDBOX (cutbox-rows.mjs): the forced cells as the released guide's own fill.sh prints them over the translation ee223beaa7972263… (all of the seat's roots in one cut). By AI agents, Wed Nov 11 2026. No macro, syntax, notation, axiom, sorry.
-/
import Derived.Test.YtjhnabhieihifaaDoorChecked
import GoSem.Claim
import GoSem.ClaimJoined
import GoSem.ClaimMapViews
import Derived.JoinedTies
import Derived.KernelRfl
namespace Go.Proofs.YtjhnabhieihifaaDoor
/- THE CELL 'sum', in the pinned program and in every row, IS THE sha256 OF THE DUMP (.gsa) THAT YtjhnabhieihifaaDoorProg.lean LOADS. Nothing in Lean hashes anything: it is a label: what it is worth is what the hold of that sum in a sandbox is worth. -/
noncomputable def Tryd.pinned : Pinned := { name := "ytjhnabhieihifaadoor", sum := "ee223beaa797226375b7253347763504ac6baa20379f6a704e71bd64c9290ee2", checked := Tryd.checked }
namespace Rows
def none {H : Type} : Left H := { results := [], args := [] }

/- WHAT THE LISTED PACKAGE-LEVEL VARIABLES READ AS WHEN THE CALL BEGINS. Each datum BY PROGRAM (the guide's laid-datum.mjs) off the statement by which the dump's own 'gosem.cut.vars' lays the variable. In a bare row this is a premise. The card (YtjhnabhieihifaaDoorCards.lean) ties it to the program's text. -/
def laid_haymow_crc_halves {H : Type} : DataW H := .agg [.lit (.int .u32 0), .lit (.int .u32 274646895), .lit (.int .u32 549293790), .lit (.int .u32 820201905), .lit (.int .u32 1098587580), .lit (.int .u32 1361435347), .lit (.int .u32 1640403810), .lit (.int .u32 1905808397), .lit (.int .u32 2197175160), .lit (.int .u32 2460548119), .lit (.int .u32 2722870694), .lit (.int .u32 2987750089), .lit (.int .u32 3280807620), .lit (.int .u32 3553878443), .lit (.int .u32 3811616794), .lit (.int .u32 4084100981)]

/-- 'haymowlaw07.InodeEncodes': WHATEVER THE INPUT: true; the input reads as it did. -/
def inodeEncodesSpec : ChangeSpec := { name := "inodeEncodes", fn := fun _ => fun
  | [d1, d2, d3] => { results := [.lit (.bool true)], args := [d1, d2, d3] }
  | _ => none }
def inodeEncodesRow : OpenClaim := { program := "ytjhnabhieihifaadoor", sum := "ee223beaa797226375b7253347763504ac6baa20379f6a704e71bd64c9290ee2", func := "haymow/haymowlaw07.InodeEncodes", spec := "inodeEncodes", named := ["haymow/crc.halves"], apart := false, laid := [("haymow/crc.halves", laid_haymow_crc_halves)] }
def InodeEncodesSaid : Prop := inodeEncodesRow.holds Tryd.pinned (OpenSpec.ofChange inodeEncodesSpec)

/-- ITS FALSE NEIGHBOUR: 'it returns false'. Refute it at one input. -/
def inodeEncodesWrong : ChangeSpec := { name := "inodeEncodes", fn := fun _ => fun
  | [d1, d2, d3] => { results := [.lit (.bool false)], args := [d1, d2, d3] }
  | _ => none }
def InodeEncodesWrongFalsely : Prop := inodeEncodesRow.holds Tryd.pinned (OpenSpec.ofChange inodeEncodesWrong)

/-- 'haymowlaw07.InodeDecodes': WHATEVER THE INPUT: true; the input reads as it did. -/
def inodeDecodesSpec : ChangeSpec := { name := "inodeDecodes", fn := fun _ => fun
  | [d1, d2] => { results := [.lit (.bool true)], args := [d1, d2] }
  | _ => none }
def inodeDecodesRow : OpenClaim := { program := "ytjhnabhieihifaadoor", sum := "ee223beaa797226375b7253347763504ac6baa20379f6a704e71bd64c9290ee2", func := "haymow/haymowlaw07.InodeDecodes", spec := "inodeDecodes", named := ["haymow/crc.halves"], apart := false, laid := [("haymow/crc.halves", laid_haymow_crc_halves)] }
def InodeDecodesSaid : Prop := inodeDecodesRow.holds Tryd.pinned (OpenSpec.ofChange inodeDecodesSpec)

/-- ITS FALSE NEIGHBOUR: 'it returns false'. Refute it at one input. -/
def inodeDecodesWrong : ChangeSpec := { name := "inodeDecodes", fn := fun _ => fun
  | [d1, d2] => { results := [.lit (.bool false)], args := [d1, d2] }
  | _ => none }
def InodeDecodesWrongFalsely : Prop := inodeDecodesRow.holds Tryd.pinned (OpenSpec.ofChange inodeDecodesWrong)

/-- 'haymowlaw07.InodeNodes': WHATEVER THE INPUT: true; the input reads as it did. -/
def inodeNodesSpec : ChangeSpec := { name := "inodeNodes", fn := fun _ => fun
  | [d1, d2] => { results := [.lit (.bool true)], args := [d1, d2] }
  | _ => none }
def inodeNodesRow : OpenClaim := { program := "ytjhnabhieihifaadoor", sum := "ee223beaa797226375b7253347763504ac6baa20379f6a704e71bd64c9290ee2", func := "haymow/haymowlaw07.InodeNodes", spec := "inodeNodes", named := ["haymow/crc.halves"], apart := false, laid := [("haymow/crc.halves", laid_haymow_crc_halves)] }
def InodeNodesSaid : Prop := inodeNodesRow.holds Tryd.pinned (OpenSpec.ofChange inodeNodesSpec)

/-- ITS FALSE NEIGHBOUR: 'it returns false'. Refute it at one input. -/
def inodeNodesWrong : ChangeSpec := { name := "inodeNodes", fn := fun _ => fun
  | [d1, d2] => { results := [.lit (.bool false)], args := [d1, d2] }
  | _ => none }
def InodeNodesWrongFalsely : Prop := inodeNodesRow.holds Tryd.pinned (OpenSpec.ofChange inodeNodesWrong)

/-- 'haymowlaw07.InodePoints': WHATEVER THE INPUT: true; the input reads as it did. -/
def inodePointsSpec : ChangeSpec := { name := "inodePoints", fn := fun _ => fun
  | [d1, d2, d3] => { results := [.lit (.bool true)], args := [d1, d2, d3] }
  | _ => none }
def inodePointsRow : OpenClaim := { program := "ytjhnabhieihifaadoor", sum := "ee223beaa797226375b7253347763504ac6baa20379f6a704e71bd64c9290ee2", func := "haymow/haymowlaw07.InodePoints", spec := "inodePoints", named := ["haymow/crc.halves"], apart := false, laid := [("haymow/crc.halves", laid_haymow_crc_halves)] }
def InodePointsSaid : Prop := inodePointsRow.holds Tryd.pinned (OpenSpec.ofChange inodePointsSpec)

/-- ITS FALSE NEIGHBOUR: 'it returns false'. Refute it at one input. -/
def inodePointsWrong : ChangeSpec := { name := "inodePoints", fn := fun _ => fun
  | [d1, d2, d3] => { results := [.lit (.bool false)], args := [d1, d2, d3] }
  | _ => none }
def InodePointsWrongFalsely : Prop := inodePointsRow.holds Tryd.pinned (OpenSpec.ofChange inodePointsWrong)

/-- 'haymowlaw07.InodeApart': WHATEVER THE INPUT: true; the input reads as it did. -/
def inodeApartSpec : ChangeSpec := { name := "inodeApart", fn := fun _ => fun
  | [d] => { results := [.lit (.bool true)], args := [d] }
  | _ => none }
def inodeApartRow : OpenClaim := { program := "ytjhnabhieihifaadoor", sum := "ee223beaa797226375b7253347763504ac6baa20379f6a704e71bd64c9290ee2", func := "haymow/haymowlaw07.InodeApart", spec := "inodeApart", named := ["haymow/crc.halves"], apart := false, laid := [("haymow/crc.halves", laid_haymow_crc_halves)] }
def InodeApartSaid : Prop := inodeApartRow.holds Tryd.pinned (OpenSpec.ofChange inodeApartSpec)

/-- ITS FALSE NEIGHBOUR: 'it returns false'. Refute it at one input. -/
def inodeApartWrong : ChangeSpec := { name := "inodeApart", fn := fun _ => fun
  | [d] => { results := [.lit (.bool false)], args := [d] }
  | _ => none }
def InodeApartWrongFalsely : Prop := inodeApartRow.holds Tryd.pinned (OpenSpec.ofChange inodeApartWrong)

/- THE SECOND FORM. 'bulk': how many values and letters a reading holds, each counted each time it is reached (what is shared counts as often as it is met; a slice's spare places count too). A statement '..UptoSaid' is the law's where the arguments, and the package variables that the reading takes, are together of bulk at most 1048576: NARROWER than '..Said'. Prove '..Said' where nothing that the law and all that it calls make is longer than what came in: it says more and counts as full. Else prove '..UptoSaid'. A law counts once. -/
mutual
def uptoBulk {H : Type} : DataW H → Nat
  | .lit (.string bytes) => bytes.length + 1
  | .lit _ => 1
  | .nil => 1
  | .ptr d => uptoBulk d + 1
  | .slice elems spare => uptoBulkAll elems + uptoBulkAll spare + 1
  | .agg parts => uptoBulkAll parts + 1
  | .iface _ d => uptoBulk d + 1
  | .map entries => uptoBulkEntries entries + 1
  | .held _ => 1
def uptoBulkAll {H : Type} : List (DataW H) → Nat
  | [] => 0
  | d :: r => uptoBulk d + uptoBulkAll r
def uptoBulkEntries {H : Type} : List (Lit × DataW H) → Nat
  | [] => 0
  | x :: r => uptoBulkEntry x + uptoBulkEntries r
def uptoBulkEntry {H : Type} : Lit × DataW H → Nat
  | (.string bytes, d) => bytes.length + uptoBulk d + 1
  | (_, d) => uptoBulk d + 1
 end
def uptoSmall : (H : Type) → List (DataW H) → Bool := fun _ ds => decide (uptoBulkAll ds ≤ 1048576)
def OpenSpec.upto (s : _root_.Go.ChangeSpec) : _root_.Go.OpenSpec := { _root_.Go.OpenSpec.ofChange s with cond := some uptoSmall }

/-- 'haymowlaw07.InodeEncodes', WHERE WHAT IT READS IS OF BULK AT MOST 1048576: true; the input reads as it did. -/
def inodeEncodesUptoRow : OpenClaim := { program := "ytjhnabhieihifaadoor", sum := "ee223beaa797226375b7253347763504ac6baa20379f6a704e71bd64c9290ee2", func := "haymow/haymowlaw07.InodeEncodes", spec := "inodeEncodes", named := ["haymow/crc.halves"], apart := false, laid := [("haymow/crc.halves", laid_haymow_crc_halves)], narrowed := true }
def InodeEncodesUptoSaid : Prop := inodeEncodesUptoRow.holds Tryd.pinned (OpenSpec.upto inodeEncodesSpec)

/-- 'haymowlaw07.InodeDecodes', WHERE WHAT IT READS IS OF BULK AT MOST 1048576: true; the input reads as it did. -/
def inodeDecodesUptoRow : OpenClaim := { program := "ytjhnabhieihifaadoor", sum := "ee223beaa797226375b7253347763504ac6baa20379f6a704e71bd64c9290ee2", func := "haymow/haymowlaw07.InodeDecodes", spec := "inodeDecodes", named := ["haymow/crc.halves"], apart := false, laid := [("haymow/crc.halves", laid_haymow_crc_halves)], narrowed := true }
def InodeDecodesUptoSaid : Prop := inodeDecodesUptoRow.holds Tryd.pinned (OpenSpec.upto inodeDecodesSpec)

/-- 'haymowlaw07.InodeNodes', WHERE WHAT IT READS IS OF BULK AT MOST 1048576: true; the input reads as it did. -/
def inodeNodesUptoRow : OpenClaim := { program := "ytjhnabhieihifaadoor", sum := "ee223beaa797226375b7253347763504ac6baa20379f6a704e71bd64c9290ee2", func := "haymow/haymowlaw07.InodeNodes", spec := "inodeNodes", named := ["haymow/crc.halves"], apart := false, laid := [("haymow/crc.halves", laid_haymow_crc_halves)], narrowed := true }
def InodeNodesUptoSaid : Prop := inodeNodesUptoRow.holds Tryd.pinned (OpenSpec.upto inodeNodesSpec)

/-- 'haymowlaw07.InodePoints', WHERE WHAT IT READS IS OF BULK AT MOST 1048576: true; the input reads as it did. -/
def inodePointsUptoRow : OpenClaim := { program := "ytjhnabhieihifaadoor", sum := "ee223beaa797226375b7253347763504ac6baa20379f6a704e71bd64c9290ee2", func := "haymow/haymowlaw07.InodePoints", spec := "inodePoints", named := ["haymow/crc.halves"], apart := false, laid := [("haymow/crc.halves", laid_haymow_crc_halves)], narrowed := true }
def InodePointsUptoSaid : Prop := inodePointsUptoRow.holds Tryd.pinned (OpenSpec.upto inodePointsSpec)

/-- 'haymowlaw07.InodeApart', WHERE WHAT IT READS IS OF BULK AT MOST 1048576: true; the input reads as it did. -/
def inodeApartUptoRow : OpenClaim := { program := "ytjhnabhieihifaadoor", sum := "ee223beaa797226375b7253347763504ac6baa20379f6a704e71bd64c9290ee2", func := "haymow/haymowlaw07.InodeApart", spec := "inodeApart", named := ["haymow/crc.halves"], apart := false, laid := [("haymow/crc.halves", laid_haymow_crc_halves)], narrowed := true }
def InodeApartUptoSaid : Prop := inodeApartUptoRow.holds Tryd.pinned (OpenSpec.upto inodeApartSpec)

end Rows
end Go.Proofs.YtjhnabhieihifaaDoor
