/-
  The program's functions of entry keep what EntC says of them.
-/
import Derived.Test.YtgboccepgbeihaaEntP6
import Derived.Test.YtgboccepgbeihaaEntP7
import Derived.Test.YtgboccepgbeihaaEntP8
namespace Go.Proofs.Ytgboccepgbeihaa
open Go.RowKit
set_option linter.unusedVariables false

theorem mayEC : ∀ w : World, MayEC w := fun w0 => ⟨fun l A n c w h hn hs _ => may_any w.heap.size A n c l w h.parts.1 (by omega) h.parts.2.2.2 (Nat.le_refl _) fun x hx => Nat.le_trans (hs x hx).1 (by omega)⟩
theorem encEC : ∀ w : World, EncEC w := fun w0 => ⟨fun l A n c w h hn hs _ => eEncode_any w.heap.size A n c l w h.parts.1 (by omega) h.parts.2.2.2 (Nat.le_refl _) fun x hx => Nat.le_trans (hs x hx).1 (by omega)⟩
theorem decEC : ∀ w : World, DecEC w := fun w0 => ⟨fun b A n c w h hn _ => eDecode_any b A n c w h hn⟩
theorem findEC : ∀ w : World, FindEC w := fun w0 => ⟨fun l s A n c w h hn hs hss _ => eFind_any w.heap.size A n c l s w h.parts.1 (by omega) h.parts.2.2.2 (Nat.le_refl _) (fun x hx => Nat.le_trans (hs x hx).1 (by omega)) (by omega)⟩
theorem addEC : ∀ w : World, AddEC w := fun w0 => ⟨fun l x A n c w h hn hs hx _ => eAdd_any w.heap.size A n c l x w h.parts.1 h.parts.2.1 h.parts.2.2.1 hn h.parts.2.2.2 (Nat.le_refl _) (fun x hx => Nat.le_trans (hs x hx).1 (by omega)) (Nat.le_trans hx.1 (by omega))⟩
theorem takeEC : ∀ w : World, TakeEC w := fun w0 => ⟨fun l s A n c w h hn hs hss _ => eTake_any w.heap.size A n c l s w h.parts.1 h.parts.2.1 h.parts.2.2.1 hn h.parts.2.2.2 (Nat.le_refl _) (fun x hx => Nat.le_trans (hs x hx).1 (by omega)) (by omega)⟩
end Go.Proofs.Ytgboccepgbeihaa
