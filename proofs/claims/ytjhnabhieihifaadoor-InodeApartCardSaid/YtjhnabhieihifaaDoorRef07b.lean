/-
  What the document's answers Same, ReadNode, Decode of layer 7 are. (Printed by wip/tools/ref07b.py.)
-/
import Derived.Test.YtjhnabhieihifaaDoorRef07
import Derived.Test.YtjhnabhieihifaaDoorIno5
namespace Go.Proofs.YtjhnabhieihifaaDoor
open Go.RowKit
set_option maxRecDepth 100000
set_option linter.unusedVariables false

theorem pr_ne {y z : Pr} (h : y ≠ z) : ((y.at_ == z.at_) = false) ∨ (y.at_ = z.at_ ∧ ((y.sum : Int) == (z.sum : Int)) = false) := by
  simp only [beq_eq_false_iff_ne, ne_eq]
  by_cases h1 : y.at_ = z.at_
  · exact .inr ⟨h1, fun h2 => h (Pr.ext' h1 (by omega))⟩
  · exact .inl h1

set_option maxHeartbeats 2000000 in
theorem refSameI_any (B B' : Nat) (A A' : Option Addr) (n c n' c' : Nat) (l m : List Pr) (t : Bool) (w : World) (hl : l.length = n) (hm : m.length = n') (hn : n ≤ 9223372036854775807) (hn' : n' ≤ 9223372036854775807) (hr : Rd w B A (prsV l)) (hr' : Rd w B' A' (prsV m)) (hB : B ≤ w.heap.size) (hB' : B' ≤ w.heap.size) (ht : t = true ↔ l = m) :
    Calls Tryd.prog 18 #[.slice A n c, .slice A' n' c'] w fun e w' => e = .returned (.bool t) ∧ Below w.heap.size w w' := by
  by_cases hnn : n = n'
  · subst hnn
    have HL := Lib.hid hl
    have HM := Lib.hid hm
    have HR := Lib.hid hr
    have HR' := Lib.hid hr'
    have HT := Lib.hid ht
    clear hl hm hr hr' ht
    go_enter Tryd.func18, Tryd.ntmps18
    go_wp2
    go_loopw [5] (fun i wr => ∃ k : Nat, k ≤ n ∧ i = .int .i64 k ∧ Hid (∀ j, j < k → l[j]? = m[j]?) ∧ Hid (Below w.heap.size w wr)) (fun i _ => n - (intOf i).toNat)
    case atStart => exact ⟨0, Nat.zero_le _, rfl, fun j h => absurd h (by omega), Below.refl _ _⟩
    case round =>
      obtain ⟨k, hk, rfl, HALL, HB⟩ := hrel
      by_cases hlt : k < n
      · obtain ⟨y, hy⟩ : ∃ y, l[k]? = some y := ⟨_, List.getElem?_eq_getElem (by have := HL.out; omega)⟩
        obtain ⟨z, hz⟩ : ∃ z, m[k]? = some z := ⟨_, List.getElem?_eq_getElem (by have := HM.out; omega)⟩
        obtain ⟨b, o, rfl, hbB, hc⟩ := (HR.out.below (HB.out.mono hB)).plain (by rw [prsV_length]; have := HL.out; omega)
        obtain ⟨b', o', rfl, hbB', hc'⟩ := (HR'.out.below (HB.out.mono hB')).plain (by rw [prsV_length]; have := HM.out; omega)
        obtain ⟨n0, n1⟩ := prsV_get l k y hy
        obtain ⟨m0, m1⟩ := prsV_get m k z hz
        have c0 := hc _ _ n0
        have c1 := hc _ _ n1
        have d0 := hc' _ _ m0
        have d1 := hc' _ _ m1
        rw [← Nat.add_assoc] at c1 d1
        have HY := Lib.hid hy
        have HZ := Lib.hid hz
        clear hc hc' n0 n1 m0 m1 hy hz
        by_cases hyz : y = z
        · subst hyz
          go_wp2_with fail
          go_quiet (fail)
          go_wp2
          go_roundw
          case rel =>
            refine ⟨k + 1, by omega, by go_num, fun j hj => ?_, by first | exact HB.out.drewN' _ | exact HB.out.drew⟩
            by_cases e : j = k
            · subst e; rw [HY.out, HZ.out]
            · exact HALL.out j (by omega)
          case measure => simp [intOf]; omega
        · have HF : Hid (t = false) := by
            show _ = _
            cases t with
            | false => rfl
            | true => have e := HT.out.1 rfl; subst e; have := HY.out.symm.trans HZ.out; cases this; exact absurd rfl hyz
          rcases pr_ne hyz with hne | ⟨he, hne⟩
          · clear hyz
            go_wp2_with fail
            go_quiet (fail)
            go_wp2
            go_ret
            exact ⟨ret_bool HF.out.symm, by first | exact HB.out.drewN' _ | exact HB.out.drew⟩
          · clear hyz
            go_wp2_with fail
            go_quiet (fail)
            go_wp2
            go_ret
            exact ⟨ret_bool HF.out.symm, by first | exact HB.out.drewN' _ | exact HB.out.drew⟩
      · have HF : Hid (t = true) := HT.out.2 (List.ext_getElem? fun j => by
          by_cases hj : j < k
          · exact HALL.out j hj
          · rw [List.getElem?_eq_none (by have := HL.out; omega), List.getElem?_eq_none (by have := HM.out; omega)])
        go_wp2
        go_ret
        exact ⟨ret_bool HF.out.symm, HB.out⟩
  · have hne : ((n : Int) == (n' : Int)) = false := by simp; omega
    have HF : Hid (t = false) := by
      show _ = _
      cases t with
      | false => rfl
      | true => have e := ht.1 rfl; subst e; exact absurd (hl.symm.trans hm) hnn
    clear hl hm hr hr' ht hnn
    go_enter Tryd.func18, Tryd.ntmps18
    go_wp2
    go_ret
    exact ⟨ret_bool HF.out.symm, Below.refl _ _⟩
end Go.Proofs.YtjhnabhieihifaaDoor
