/-
  A contract that lays new memory, relative to one base world.
-/
import Derived.Test.YtfjcclgambkieaaMem
namespace Go.Proofs.Ytfjcclgambkieaa
open Go.RowKit

theorem lift_below {P : Program} {K : Nat} {args : Array Value} {x : Ending} (wb : World) (h : ∀ w', Calls P K args w' fun e w'' => e = x ∧ Below w'.heap.size w' w'') :
    Hid (∀ w', Below wb.heap.size wb w' → Calls P K args w' fun e w'' => e = x ∧ Below wb.heap.size wb w'') :=
  Lib.hid fun w' hb => (h w').mono fun _ _ ⟨he, hb'⟩ => ⟨he, hb.trans (hb'.mono hb.size)⟩
end Go.Proofs.Ytfjcclgambkieaa
