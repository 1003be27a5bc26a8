/-
  NARROWER THAN 'FOR EVERY INPUT', by the rows' own cells (each row's printed sentence says how): LabelSupers: laid · LabelVolumes: laid · LabelReads: laid · LabelApart: laid.
  DERIVED. THE GIVEN ROWS OF THIS SEAT. 4 by the template 'for every input the law returns true; each argument reads behind the call as it read before'; 0 by the template 'total and deterministic' (their statements: YthneomligbkmgaaDoorTotals.lean).
  GIVEN WITH THE SEED: the statements are not yours to turn. If you find one false, say at which input.
  Laid BY PROGRAM, IN A SANDBOX (cutbox-rows.mjs): the forced cells as the released guide's own fill.sh prints them over the translation 56388807e73376ac… (all of the seat's roots in one cut). By AI agents, Wed Nov 11 2026. No macro, syntax, notation, axiom, sorry.
-/
import Derived.Test.YthneomligbkmgaaDoorChecked
import GoSem.Claim
import GoSem.ClaimJoined
import GoSem.ClaimMapViews
import Derived.JoinedTies
import Derived.KernelRfl
namespace Go.Proofs.YthneomligbkmgaaDoor
/- THE CELL 'sum', in the pinned program and in every row, IS THE sha256 OF THE DUMP (.gsa) THAT YthneomligbkmgaaDoorProg.lean LOADS. Nothing in Lean hashes anything: it is a label: what it is worth is what the hold of that sum in a sandbox is worth. -/
noncomputable def Tryd.pinned : Pinned := { name := "ythneomligbkmgaadoor", sum := "56388807e73376ac13bf1a467fc9b346d2e308576560df916f3eafa08c4b731b", checked := Tryd.checked }
namespace Rows
def none {H : Type} : Left H := { results := [], args := [] }

/- WHAT THE LISTED PACKAGE-LEVEL VARIABLES READ AS WHEN THE CALL BEGINS. Each datum BY PROGRAM (the guide's laid-datum.mjs) off the statement by which the dump's own 'gosem.cut.vars' lays the variable. In a bare row this is a premise. The card (YthneomligbkmgaaDoorCards.lean) ties it to the program's text. -/
def laid_haymow_crc_halves {H : Type} : DataW H := .agg [.lit (.int .u32 0), .lit (.int .u32 274646895), .lit (.int .u32 549293790), .lit (.int .u32 820201905), .lit (.int .u32 1098587580), .lit (.int .u32 1361435347), .lit (.int .u32 1640403810), .lit (.int .u32 1905808397), .lit (.int .u32 2197175160), .lit (.int .u32 2460548119), .lit (.int .u32 2722870694), .lit (.int .u32 2987750089), .lit (.int .u32 3280807620), .lit (.int .u32 3553878443), .lit (.int .u32 3811616794), .lit (.int .u32 4084100981)]

/-- 'haymowlaw05.LabelSupers': WHATEVER THE INPUT: true; the input reads as it did. -/
def labelSupersSpec : ChangeSpec := { name := "labelSupers", fn := fun _ => fun
  | [d] => { results := [.lit (.bool true)], args := [d] }
  | _ => none }
def labelSupersRow : OpenClaim := { program := "ythneomligbkmgaadoor", sum := "56388807e73376ac13bf1a467fc9b346d2e308576560df916f3eafa08c4b731b", func := "haymow/haymowlaw05.LabelSupers", spec := "labelSupers", unfollowed := true, recurses := true, named := ["haymow/crc.halves"], apart := false, laid := [("haymow/crc.halves", laid_haymow_crc_halves)] }
def LabelSupersSaid : Prop := labelSupersRow.holds Tryd.pinned (OpenSpec.ofChange labelSupersSpec)

/-- ITS FALSE NEIGHBOUR: 'it returns false'. Refute it at one input. -/
def labelSupersWrong : ChangeSpec := { name := "labelSupers", fn := fun _ => fun
  | [d] => { results := [.lit (.bool false)], args := [d] }
  | _ => none }
def LabelSupersWrongFalsely : Prop := labelSupersRow.holds Tryd.pinned (OpenSpec.ofChange labelSupersWrong)

/-- 'haymowlaw05.LabelVolumes': WHATEVER THE INPUT: true; the input reads as it did. -/
def labelVolumesSpec : ChangeSpec := { name := "labelVolumes", fn := fun _ => fun
  | [d1, d2] => { results := [.lit (.bool true)], args := [d1, d2] }
  | _ => none }
def labelVolumesRow : OpenClaim := { program := "ythneomligbkmgaadoor", sum := "56388807e73376ac13bf1a467fc9b346d2e308576560df916f3eafa08c4b731b", func := "haymow/haymowlaw05.LabelVolumes", spec := "labelVolumes", unfollowed := true, recurses := true, named := ["haymow/crc.halves"], apart := false, laid := [("haymow/crc.halves", laid_haymow_crc_halves)] }
def LabelVolumesSaid : Prop := labelVolumesRow.holds Tryd.pinned (OpenSpec.ofChange labelVolumesSpec)

/-- ITS FALSE NEIGHBOUR: 'it returns false'. Refute it at one input. -/
def labelVolumesWrong : ChangeSpec := { name := "labelVolumes", fn := fun _ => fun
  | [d1, d2] => { results := [.lit (.bool false)], args := [d1, d2] }
  | _ => none }
def LabelVolumesWrongFalsely : Prop := labelVolumesRow.holds Tryd.pinned (OpenSpec.ofChange labelVolumesWrong)

/-- 'haymowlaw05.LabelReads': WHATEVER THE INPUT: true; the input reads as it did. -/
def labelReadsSpec : ChangeSpec := { name := "labelReads", fn := fun _ => fun
  | [d] => { results := [.lit (.bool true)], args := [d] }
  | _ => none }
def labelReadsRow : OpenClaim := { program := "ythneomligbkmgaadoor", sum := "56388807e73376ac13bf1a467fc9b346d2e308576560df916f3eafa08c4b731b", func := "haymow/haymowlaw05.LabelReads", spec := "labelReads", unfollowed := true, recurses := true, named := ["haymow/crc.halves"], apart := false, laid := [("haymow/crc.halves", laid_haymow_crc_halves)] }
def LabelReadsSaid : Prop := labelReadsRow.holds Tryd.pinned (OpenSpec.ofChange labelReadsSpec)

/-- ITS FALSE NEIGHBOUR: 'it returns false'. Refute it at one input. -/
def labelReadsWrong : ChangeSpec := { name := "labelReads", fn := fun _ => fun
  | [d] => { results := [.lit (.bool false)], args := [d] }
  | _ => none }
def LabelReadsWrongFalsely : Prop := labelReadsRow.holds Tryd.pinned (OpenSpec.ofChange labelReadsWrong)

/-- 'haymowlaw05.LabelApart': WHATEVER THE INPUT: true; the input reads as it did. -/
def labelApartSpec : ChangeSpec := { name := "labelApart", fn := fun _ => fun
  | [d] => { results := [.lit (.bool true)], args := [d] }
  | _ => none }
def labelApartRow : OpenClaim := { program := "ythneomligbkmgaadoor", sum := "56388807e73376ac13bf1a467fc9b346d2e308576560df916f3eafa08c4b731b", func := "haymow/haymowlaw05.LabelApart", spec := "labelApart", unfollowed := true, recurses := true, named := ["haymow/crc.halves"], apart := false, laid := [("haymow/crc.halves", laid_haymow_crc_halves)] }
def LabelApartSaid : Prop := labelApartRow.holds Tryd.pinned (OpenSpec.ofChange labelApartSpec)

/-- ITS FALSE NEIGHBOUR: 'it returns false'. Refute it at one input. -/
def labelApartWrong : ChangeSpec := { name := "labelApart", fn := fun _ => fun
  | [d] => { results := [.lit (.bool false)], args := [d] }
  | _ => none }
def LabelApartWrongFalsely : Prop := labelApartRow.holds Tryd.pinned (OpenSpec.ofChange labelApartWrong)

/- THE SECOND FORM. 'bulk': how many values and letters a reading holds, each counted each time it is reached (what is shared counts as often as it is met; a slice's spare places count too). A statement '..UptoSaid' is the law's where the arguments, and the package variables that the reading takes, are together of bulk at most 1048576: NARROWER than '..Said'. Prove '..Said' where nothing that the law and all that it calls make is longer than what came in: it says more and counts as full. Else prove '..UptoSaid'. A law counts once. -/
mutual
def uptoBulk {H : Type} : DataW H → Nat
  | .lit (.string bytes) => bytes.length + 1
  | .lit _ => 1
  | .nil => 1
  | .ptr d => uptoBulk d + 1
  | .slice elems spare => uptoBulkAll elems + uptoBulkAll spare + 1
  | .agg parts => uptoBulkAll parts + 1
  | .iface _ d => uptoBulk d + 1
  | .map entries => uptoBulkEntries entries + 1
  | .held _ => 1
def uptoBulkAll {H : Type} : List (DataW H) → Nat
  | [] => 0
  | d :: r => uptoBulk d + uptoBulkAll r
def uptoBulkEntries {H : Type} : List (Lit × DataW H) → Nat
  | [] => 0
  | x :: r => uptoBulkEntry x + uptoBulkEntries r
def uptoBulkEntry {H : Type} : Lit × DataW H → Nat
  | (.string bytes, d) => bytes.length + uptoBulk d + 1
  | (_, d) => uptoBulk d + 1
 end
def uptoSmall : (H : Type) → List (DataW H) → Bool := fun _ ds => decide (uptoBulkAll ds ≤ 1048576)
def OpenSpec.upto (s : _root_.Go.ChangeSpec) : _root_.Go.OpenSpec := { _root_.Go.OpenSpec.ofChange s with cond := some uptoSmall }

/-- 'haymowlaw05.LabelSupers', WHERE WHAT IT READS IS OF BULK AT MOST 1048576: true; the input reads as it did. -/
def labelSupersUptoRow : OpenClaim := { program := "ythneomligbkmgaadoor", sum := "56388807e73376ac13bf1a467fc9b346d2e308576560df916f3eafa08c4b731b", func := "haymow/haymowlaw05.LabelSupers", spec := "labelSupers", unfollowed := true, recurses := true, named := ["haymow/crc.halves"], apart := false, laid := [("haymow/crc.halves", laid_haymow_crc_halves)], narrowed := true }
def LabelSupersUptoSaid : Prop := labelSupersUptoRow.holds Tryd.pinned (OpenSpec.upto labelSupersSpec)

/-- 'haymowlaw05.LabelVolumes', WHERE WHAT IT READS IS OF BULK AT MOST 1048576: true; the input reads as it did. -/
def labelVolumesUptoRow : OpenClaim := { program := "ythneomligbkmgaadoor", sum := "56388807e73376ac13bf1a467fc9b346d2e308576560df916f3eafa08c4b731b", func := "haymow/haymowlaw05.LabelVolumes", spec := "labelVolumes", unfollowed := true, recurses := true, named := ["haymow/crc.halves"], apart := false, laid := [("haymow/crc.halves", laid_haymow_crc_halves)], narrowed := true }
def LabelVolumesUptoSaid : Prop := labelVolumesUptoRow.holds Tryd.pinned (OpenSpec.upto labelVolumesSpec)

/-- 'haymowlaw05.LabelReads', WHERE WHAT IT READS IS OF BULK AT MOST 1048576: true; the input reads as it did. -/
def labelReadsUptoRow : OpenClaim := { program := "ythneomligbkmgaadoor", sum := "56388807e73376ac13bf1a467fc9b346d2e308576560df916f3eafa08c4b731b", func := "haymow/haymowlaw05.LabelReads", spec := "labelReads", unfollowed := true, recurses := true, named := ["haymow/crc.halves"], apart := false, laid := [("haymow/crc.halves", laid_haymow_crc_halves)], narrowed := true }
def LabelReadsUptoSaid : Prop := labelReadsUptoRow.holds Tryd.pinned (OpenSpec.upto labelReadsSpec)

/-- 'haymowlaw05.LabelApart', WHERE WHAT IT READS IS OF BULK AT MOST 1048576: true; the input reads as it did. -/
def labelApartUptoRow : OpenClaim := { program := "ythneomligbkmgaadoor", sum := "56388807e73376ac13bf1a467fc9b346d2e308576560df916f3eafa08c4b731b", func := "haymow/haymowlaw05.LabelApart", spec := "labelApart", unfollowed := true, recurses := true, named := ["haymow/crc.halves"], apart := false, laid := [("haymow/crc.halves", laid_haymow_crc_halves)], narrowed := true }
def LabelApartUptoSaid : Prop := labelApartUptoRow.holds Tryd.pinned (OpenSpec.upto labelApartSpec)

end Rows
end Go.Proofs.YthneomligbkmgaaDoor
