/-
  What a device does whose power is on, that is mounted, and that has no budget; octets of a block that is torn.
-/
import Derived.Test.YtpjdnbmeedcafaaDev9
namespace Go.Proofs.Ytpjdnbmeedcafaa
open Go.RowKit
set_option linter.unusedVariables false

structure Calm (D : Dv) : Prop where
  bud : D.bud = -1
  pow : D.pow = true
  mnt : D.mnt = true
theorem Calm.startE {D : Dv} (h : Calm D) : startE D = 0 := by unfold Go.Proofs.Ytpjdnbmeedcafaa.startE; rw [h.bud, h.pow, h.mnt]; rfl
theorem Calm.startD {D : Dv} (h : Calm D) : startD D = D := by
  unfold Go.Proofs.Ytpjdnbmeedcafaa.startD
  rw [if_neg (by rw [h.bud]; omega), if_neg (by rw [h.bud]; omega)]
theorem Calm.writeE {D : Dv} (h : Calm D) {k : Nat} (hf : D.flt k = 0) : writeE D k = 0 := by
  unfold Go.Proofs.Ytpjdnbmeedcafaa.writeE
  rw [h.startE, hf]; rfl
theorem Calm.writeD {D : Dv} (h : Calm D) {k : Nat} (hf : D.flt k = 0) (b : List UInt8) : writeD D k b = { D with pend := D.pend ++ [(k, b)] } := by
  unfold Go.Proofs.Ytpjdnbmeedcafaa.writeD
  rw [if_pos (h.writeE hf), h.startD]
theorem Calm.flushD {D : Dv} (h : Calm D) : flushD D = execD D (fun _ => 128) := by
  unfold Go.Proofs.Ytpjdnbmeedcafaa.flushD
  rw [if_pos h.startE, h.startD]
theorem Calm.eraseD {D : Dv} (h : Calm D) : eraseD D = { D with has := fun _ => List.replicate 128 0, pend := [] } := by
  unfold Go.Proofs.Ytpjdnbmeedcafaa.eraseD
  rw [if_pos h.startE, h.startD]
theorem calm_new (n : Nat) : Calm (newD n) := ⟨rfl, rfl, rfl⟩
theorem upd_same (H : Nat → List UInt8) (i : Nat) (vs : List UInt8) : upd H i vs i = vs ++ (H i).drop vs.length := by unfold upd; rw [if_pos rfl]
theorem upd_other (H : Nat → List UInt8) {i j : Nat} (vs : List UInt8) (h : j ≠ i) : upd H i vs j = H j := by unfold upd; rw [if_neg h]
theorem upd_full {H : Nat → List UInt8} (hH : ∀ i, (H i).length = 128) (i : Nat) (vs : List UInt8) (hv : vs.length = 128) : upd H i vs i = vs := by
  rw [upd_same, hv, List.drop_eq_nil_of_le (by rw [hH]; omega), List.append_nil]
/-- an octet of a torn block -/
theorem upd_at {H : Nat → List UInt8} (hH : ∀ i, (H i).length = 128) (i : Nat) (vs : List UInt8) (hv : vs.length = 128) (d : Nat) (hd : d ≤ 128) (j : Nat) : (upd H i (vs.take d) i)[j]? = if j < d then vs[j]? else (H i)[j]? := by
  have hl : (vs.take d).length = d := by rw [List.length_take]; omega
  rw [upd_same, hl]
  by_cases h : j < d
  · rw [if_pos h, List.getElem?_append_left (by omega), List.getElem?_take, if_pos h]
  · rw [if_neg h, List.getElem?_append_right (by omega), List.getElem?_drop, hl, show d + (j - d) = j by omega]
theorem allOf_at (c : UInt8) (j : Nat) (hj : j < 128) : (allOf c)[j]? = some c := by unfold allOf; rw [List.getElem?_replicate, if_pos hj]
end Go.Proofs.Ytpjdnbmeedcafaa
