/-
  What inode.May does. (Printed by wip/tools/ino2.py.)
-/
import Derived.Test.YtjhnabhieihifaaDoorIno1
namespace Go.Proofs.YtjhnabhieihifaaDoor
open Go.RowKit
set_option linter.unusedVariables false

theorem all_false_of {x : Ino} (h : headIOk x = false) : inoOk x = false := inoOk_head h
set_option maxRecDepth 100000 in
set_option maxHeartbeats 2000000 in
theorem inoMay_any (x : Ino) (t : Bool) (w : World) (hp : x.p.length = 9) (ht : inoOk x = t) :
    Calls Tryd.prog 9 #[.agg (inoC x)] w fun e w' => e = .returned (.bool t) ∧ Below w.heap.size w w' := by
  have K0 := Bk.new w 27 (inoC x)
  have HB0 := Lib.hid ((Below.refl w.heap.size w).alloc (Nat.le_refl _) (.cells (inoC x) 27))
  obtain ⟨k0, k1, k2, k3, k4⟩ := ino_cells K0
  have HR := Lib.hid (ino_prs K0)
  have HP := Lib.hid hp
  have HT := Lib.hid ht
  have HH : Hid (headIOk x = true ∨ t = false) := by
    cases h : headIOk x with
    | true => exact .inl rfl
    | false => exact .inr (by rw [← ht]; exact inoOk_head h)
  clear K0 hp ht
  go_enter Tryd.func9, Tryd.ntmps9
  go_wp2_with fail
  by_cases h0 : 1 ≤ x.ty ∧ x.ty ≤ 2
  case neg =>
    obtain rfl : t = false := HH.out.resolve_left fun h => h0 (by have := headIOk_yes h; omega)
    refine (inoWithin_any _ _ _ false _ (decide_eq_false h0)).mono ?_
    rintro e w1 ⟨rfl, rfl⟩
    clear h0
    go_wp2
    go_ret
    exact ⟨rfl, HB0.out⟩
  refine (inoWithin_any _ _ _ true _ (decide_eq_true h0)).mono ?_
  rintro e w1 ⟨rfl, rfl⟩
  go_wp2_with fail
  by_cases h1 : 0 ≤ x.links ∧ x.links ≤ 200
  case neg =>
    obtain rfl : t = false := HH.out.resolve_left fun h => h1 (by have := headIOk_yes h; omega)
    refine (inoWithin_any _ _ _ false _ (decide_eq_false h1)).mono ?_
    rintro e w1 ⟨rfl, rfl⟩
    clear h0 h1
    go_wp2
    go_ret
    exact ⟨rfl, HB0.out⟩
  refine (inoWithin_any _ _ _ true _ (decide_eq_true h1)).mono ?_
  rintro e w1 ⟨rfl, rfl⟩
  go_wp2_with fail
  by_cases h2 : 0 ≤ x.ver ∧ x.ver ≤ 2147483647
  case neg =>
    obtain rfl : t = false := HH.out.resolve_left fun h => h2 (by have := headIOk_yes h; omega)
    refine (inoWithin_any _ _ _ false _ (decide_eq_false h2)).mono ?_
    rintro e w1 ⟨rfl, rfl⟩
    clear h0 h1 h2
    go_wp2
    go_ret
    exact ⟨rfl, HB0.out⟩
  refine (inoWithin_any _ _ _ true _ (decide_eq_true h2)).mono ?_
  rintro e w1 ⟨rfl, rfl⟩
  go_wp2_with fail
  by_cases h3 : 0 ≤ x.size ∧ x.size ≤ 1099511627776
  case neg =>
    obtain rfl : t = false := HH.out.resolve_left fun h => h3 (by have := headIOk_yes h; omega)
    refine (inoWithin_any _ _ _ false _ (decide_eq_false h3)).mono ?_
    rintro e w1 ⟨rfl, rfl⟩
    clear h0 h1 h2 h3
    go_wp2
    go_ret
    exact ⟨rfl, HB0.out⟩
  refine (inoWithin_any _ _ _ true _ (decide_eq_true h3)).mono ?_
  rintro e w1 ⟨rfl, rfl⟩
  go_wp2_with fail
  by_cases h4 : 0 ≤ x.tick ∧ x.tick ≤ 2147483647
  case neg =>
    obtain rfl : t = false := HH.out.resolve_left fun h => h4 (by have := headIOk_yes h; omega)
    refine (inoWithin_any _ _ _ false _ (decide_eq_false h4)).mono ?_
    rintro e w1 ⟨rfl, rfl⟩
    clear h0 h1 h2 h3 h4
    go_wp2
    go_ret
    exact ⟨rfl, HB0.out⟩
  refine (inoWithin_any _ _ _ true _ (decide_eq_true h4)).mono ?_
  rintro e w1 ⟨rfl, rfl⟩
  go_wp2_with fail
  have HV : Hid (x.p.all prOk = t) := by
    show _ = _
    rw [← HT.out, inoOk, show headIOk x = true from by simp only [headIOk]; exact decide_eq_true (by omega)]
    rfl
  clear h0 h1 h2 h3 h4
  refine (inoValid_any _ _ 9 9 x.p t _ HP.out (by omega) HR.out (Nat.le_refl _) HV.out).mono ?_
  rintro e w1 ⟨rfl, hb1⟩
  have HB1 := Lib.hid (HB0.out.trans (hb1.mono HB0.out.size))
  clear hb1
  go_wp2
  go_ret
  exact ⟨rfl, HB1.out⟩
end Go.Proofs.YtjhnabhieihifaaDoor
