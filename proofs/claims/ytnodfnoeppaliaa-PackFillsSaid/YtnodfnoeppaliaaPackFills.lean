/-
  Whatever octets are filled, pack.Fill answers the document's block, or refuses; and pack.Clear says of whatever octets, and of any place, whether they are clear from there on. Conditions: none.
-/
import Derived.Test.YtnodfnoeppaliaaAwake
import Derived.Test.YtnodfnoeppaliaaOpen
import Derived.Test.YtnodfnoeppaliaaRows
import Derived.StillTailTactics
namespace Go.Proofs.Ytnodfnoeppaliaa.packFills
open Go.ChangeShapes Go.WideShapes Go.ChangeAt Go.RowKit
open Go.ChangeMaps (open_string shut_string)
set_option linter.unusedVariables false

set_option maxRecDepth 100000 in
set_option maxHeartbeats 4000000 in
theorem over128 (A : Option Addr) (n l c : Nat) (x : Int) (bs : List UInt8) (w : World) (hcut : n = 200 ∧ 200 < l ∨ n = l ∧ l ≤ 200) (hn : bs.length = n) (hnc : n ≤ c) (hcm : c ≤ 9223372036854775807) (hlc : l ≤ c) (hx : -9223372036854775808 ≤ x ∧ x ≤ 9223372036854775807) (hr : Rd w w.heap.size A (bs.map bv)) (h128 : 128 < n) :
    Calls Try.prog 4 #[.slice A l c, .int .i64 x] w fun e w' => e = .returned (.bool true) ∧ Below w.heap.size w w' := by
  have HR := Lib.hid hr
  have HN := Lib.hid hn
  have HX := Lib.hid hx
  have hct0 := Lib.hid (clearTo_zero bs x)
  obtain ⟨hx1, hx2⟩ := hx
  have h128' : (128 : Int) < (n : Int) := by omega
  clear hr hn
  obtain ⟨b, hxb⟩ : ∃ b, (x < 0 ∧ b = false) ∨ (0 ≤ x ∧ x ≤ (n : Int) ∧ b = true) ∨ (0 ≤ x ∧ (n : Int) < x ∧ b = false) := by
    by_cases h0 : 0 ≤ x
    · by_cases h2 : x ≤ (n : Int)
      · exact ⟨true, .inr (.inl ⟨h0, h2, rfl⟩)⟩
      · exact ⟨false, .inr (.inr ⟨h0, by omega, rfl⟩)⟩
    · exact ⟨false, .inl ⟨by omega, rfl⟩⟩
  have HB0 : Hid (clearTo bs x 0 = b) := by
    show _ = _
    rw [hct0.out, HN.out]
    rcases hxb with ⟨h, rfl⟩ | ⟨h, h', rfl⟩ | ⟨h, h', rfl⟩
    · rw [decide_eq_false (show ¬ 0 ≤ x by omega)]; rfl
    · rw [decide_eq_true h, decide_eq_true h']; rfl
    · rw [decide_eq_true h, decide_eq_false (show ¬ x ≤ (n : Int) by omega)]; rfl
  rcases hcut with ⟨rfl, h1⟩ | ⟨rfl, h1⟩ <;> rcases hxb with ⟨h0, rfl⟩ | ⟨h0, h2, rfl⟩ | ⟨h0, h2, rfl⟩
  all_goals
    go_enter Try.func4, Try.ntmps4
    go_wp2_with fail
    refine (Fill_full _ _ _ _ h128).mono ?_
    rintro e w1 ⟨rfl, rfl⟩
    go_wp2
    go_loop [7, 8] (fun t i => ∃ (k : Nat) (q : Bool), k ≤ bs.length ∧ i = .int .i64 k ∧ t = .bool q ∧ Hid (clearTo bs x k = q)) (fun _ i => bs.length - (intOf i).toNat)
    case atStart => exact ⟨0, _, by omega, rfl, rfl, by first | exact HB0 | (show _ = _; rw [HB0.out]; simp; omega)⟩
    case round =>
      obtain ⟨k, q, hk, rfl, rfl, hq⟩ := hrel
      have hk' : k ≤ _ := Nat.le_trans hk (Nat.le_of_eq HN.out)
      have hcs := Lib.hid (clearTo_succ bs x k)
      by_cases hlt : k < bs.length
      · have hlt' : k < _ := Nat.lt_of_lt_of_le hlt (Nat.le_of_eq HN.out)
        cases q
        · have hq1 : Hid (clearTo bs x (k + 1) = false) := by show _ = _; rw [hcs.out, hq.out]; rfl
          clear hlt
          go_wp2
          go_round
          case rel => exact ⟨k + 1, _, by have := HN.out; omega, by go_num, rfl, hq1⟩
          case measure => have := HN.out; simp [intOf]; omega
        · by_cases hkx : (k : Int) < x
          · first
            | (exfalso; omega)
            | (have hq1 : Hid (clearTo bs x (k + 1) = true) := by show _ = _; rw [hcs.out, hq.out]; simp [hkx]
               clear hlt
               go_wp2
               go_round
               case rel => exact ⟨k + 1, _, by have := HN.out; omega, by go_num, rfl, hq1⟩
               case measure => have := HN.out; simp [intOf]; omega)
          · obtain ⟨ad, hA, _, hcell⟩ := HR.out k (bv bs[k]) (by simp [hlt])
            have hkx' : decide ((k : Int) < x) = false := by simpa using hkx
            have hbk := bs[k].toNat_lt
            have hq1 : Hid (clearTo bs x (k + 1) = ((bs[k].toNat : Int) == 0)) := by
              show _ = _
              rw [hcs.out, hq.out, hkx', Bool.true_and, Bool.false_or, List.getD, List.getElem?_eq_getElem hlt]
              rw [Bool.eq_iff_iff]
              simp [← UInt8.toNat_inj]
            obtain ⟨y, hy⟩ : ∃ y : Int, y = (bs[k].toNat : Int) := ⟨_, rfl⟩
            unfold bv at hcell
            rw [← hy] at hcell hq1
            have hy1 : 0 ≤ y := by omega
            have hy2 : y < 256 := by omega
            subst hA
            clear hlt hkx hbk hy
            go_wp2
            go_round
            case rel => exact ⟨k + 1, _, by have := HN.out; omega, by go_num, rfl, hq1⟩
            case measure => have := HN.out; simp [intOf]; omega
      · have hkn : k = bs.length := by omega
        subst hkn
        have hq2 : clearB bs x = q := by rw [← clearTo_all]; exact hq.out
        have HQ := Lib.hid hq2
        have hnk : ¬ (bs.length < _) := fun h => absurd (Nat.lt_of_lt_of_le h (Nat.le_of_eq HN.out.symm)) (Nat.lt_irrefl _)
        clear hq hq2 hcs hlt
        go_wp2_with fail
        refine (Clear_at _ _ _ _ bs _ _ _ HN.out HR.out (by omega) HX.out HQ.out).mono ?_
        rintro e w1 ⟨rfl, rfl⟩
        go_wp2_with fail
        refine (awake_any _).mono ?_
        rintro e w5 ⟨rfl, hb5⟩
        go_wp2
        go_ret
        exact ⟨rfl, hb5⟩
set_option maxRecDepth 100000 in
set_option maxHeartbeats 4000000 in
theorem upto128 (A : Option Addr) (n l c : Nat) (x : Int) (bs : List UInt8) (w : World) (hcut : n = 200 ∧ 200 < l ∨ n = l ∧ l ≤ 200) (hn : bs.length = n) (hnc : n ≤ c) (hcm : c ≤ 9223372036854775807) (hlc : l ≤ c) (hx : -9223372036854775808 ≤ x ∧ x ≤ 9223372036854775807) (hr : Rd w w.heap.size A (bs.map bv)) (h128 : n ≤ 128) :
    Calls Try.prog 4 #[.slice A l c, .int .i64 x] w fun e w' => e = .returned (.bool true) ∧ Below w.heap.size w w' := by
  have HR := Lib.hid hr
  have HN := Lib.hid hn
  have HX := Lib.hid hx
  have hct0 := Lib.hid (clearTo_zero bs x)
  obtain ⟨hx1, hx2⟩ := hx
  have h128' : (n : Int) ≤ 128 := by omega
  clear hr hn
  obtain ⟨b, hxb⟩ : ∃ b, (x < 0 ∧ b = false) ∨ (0 ≤ x ∧ x ≤ (n : Int) ∧ b = true) ∨ (0 ≤ x ∧ (n : Int) < x ∧ b = false) := by
    by_cases h0 : 0 ≤ x
    · by_cases h2 : x ≤ (n : Int)
      · exact ⟨true, .inr (.inl ⟨h0, h2, rfl⟩)⟩
      · exact ⟨false, .inr (.inr ⟨h0, by omega, rfl⟩)⟩
    · exact ⟨false, .inl ⟨by omega, rfl⟩⟩
  have HB0 : Hid (clearTo bs x 0 = b) := by
    show _ = _
    rw [hct0.out, HN.out]
    rcases hxb with ⟨h, rfl⟩ | ⟨h, h', rfl⟩ | ⟨h, h', rfl⟩
    · rw [decide_eq_false (show ¬ 0 ≤ x by omega)]; rfl
    · rw [decide_eq_true h, decide_eq_true h']; rfl
    · rw [decide_eq_true h, decide_eq_false (show ¬ x ≤ (n : Int) by omega)]; rfl
  have hcut' : n = l ∧ l ≤ 200 := by omega
  obtain ⟨rfl, h1⟩ := hcut'
  clear hcut
  rcases hxb with ⟨h0, rfl⟩ | ⟨h0, h2, rfl⟩ | ⟨h0, h2, rfl⟩
  all_goals
    go_enter Try.func4, Try.ntmps4
    go_wp2_with fail
    refine (Fill_at _ _ _ _ bs _ HN.out HR.out (Nat.le_refl _) h128).mono ?_
    rintro e w1 ⟨g, rfl, hg, hbk, hb⟩
    have HB := Lib.hid hb
    have hsz := hb.size
    have HBK := Lib.hid hbk
    have HR1 := Lib.hid (HR.out.below hb)
    clear hb hbk
    go_wp2
    go_loop [7, 8] (fun t i => ∃ (k : Nat) (q : Bool), k ≤ bs.length ∧ i = .int .i64 k ∧ t = .bool q ∧ Hid (clearTo bs x k = q)) (fun _ i => bs.length - (intOf i).toNat)
    case atStart => exact ⟨0, _, by omega, rfl, rfl, by first | exact HB0 | (show _ = _; rw [HB0.out]; simp; omega)⟩
    case round =>
      obtain ⟨k, q, hk, rfl, rfl, hq⟩ := hrel
      have hk' : k ≤ _ := Nat.le_trans hk (Nat.le_of_eq HN.out)
      have hcs := Lib.hid (clearTo_succ bs x k)
      by_cases hlt : k < bs.length
      · have hlt' : k < _ := Nat.lt_of_lt_of_le hlt (Nat.le_of_eq HN.out)
        cases q
        · have hq1 : Hid (clearTo bs x (k + 1) = false) := by show _ = _; rw [hcs.out, hq.out]; rfl
          clear hlt
          go_wp2
          go_round
          case rel => exact ⟨k + 1, _, by have := HN.out; omega, by go_num, rfl, hq1⟩
          case measure => have := HN.out; simp [intOf]; omega
        · by_cases hkx : (k : Int) < x
          · first
            | (exfalso; omega)
            | (have hq1 : Hid (clearTo bs x (k + 1) = true) := by show _ = _; rw [hcs.out, hq.out]; simp [hkx]
               clear hlt
               go_wp2
               go_round
               case rel => exact ⟨k + 1, _, by have := HN.out; omega, by go_num, rfl, hq1⟩
               case measure => have := HN.out; simp [intOf]; omega)
          · obtain ⟨ad, hA, _, hcell⟩ := HR1.out k (bv bs[k]) (by simp [hlt])
            have hkx' : decide ((k : Int) < x) = false := by simpa using hkx
            have hbk := bs[k].toNat_lt
            have hq1 : Hid (clearTo bs x (k + 1) = ((bs[k].toNat : Int) == 0)) := by
              show _ = _
              rw [hcs.out, hq.out, hkx', Bool.true_and, Bool.false_or, List.getD, List.getElem?_eq_getElem hlt]
              rw [Bool.eq_iff_iff]
              simp [← UInt8.toNat_inj]
            obtain ⟨y, hy⟩ : ∃ y : Int, y = (bs[k].toNat : Int) := ⟨_, rfl⟩
            unfold bv at hcell
            rw [← hy] at hcell hq1
            have hy1 : 0 ≤ y := by omega
            have hy2 : y < 256 := by omega
            subst hA
            clear hlt hkx hbk hy
            go_wp2
            go_round
            case rel => exact ⟨k + 1, _, by have := HN.out; omega, by go_num, rfl, hq1⟩
            case measure => have := HN.out; simp [intOf]; omega
      · have hkn : k = bs.length := by omega
        subst hkn
        have hq2 : clearB bs x = q := by rw [← clearTo_all]; exact hq.out
        have HQ := Lib.hid hq2
        have hnk : ¬ (bs.length < _) := fun h => absurd (Nat.lt_of_lt_of_le h (Nat.le_of_eq HN.out.symm)) (Nat.lt_irrefl _)
        clear hq hq2 hcs hlt
        go_wp2_with fail
        refine (Clear_at _ _ _ _ bs _ _ _ HN.out HR1.out (by omega) HX.out HQ.out).mono ?_
        rintro e w1 ⟨rfl, rfl⟩
        have hfb : (fillB bs).length = 128 := fillB_length bs (by have := HN.out; omega)
        have hrf : Rd w1 w1.heap.size (some ⟨g, 0, none⟩) ((fillB bs).map bv) := by simpa using Rd.bk HBK.out
        have HFB := Lib.hid hfb
        have HRF := Lib.hid hrf.drew
        have HR2 := Lib.hid HR1.out.drew
        have HB2 := Lib.hid HB.out.drew
        have HCF := Lib.hid (clearB_fill bs)
        have hsz2 : w1.drew.heap.size = w1.heap.size := rfl
        clear hfb hrf
        go_wp2
        refine wp_region_still_tail 17 (by kernel_rfl) (by kernel_rfl) ?_
        simp only [List.take_succ_cons, List.take_zero, List.drop_succ_cons, List.drop_zero]
        change wpStill _ _ w1.drew _ _ _
        have hconv := run_conv (P := Try.prog) 22 5 9 Try.underlying22 Try.underlying5 under9 _ c HN.out HR2.out
        have hconv2 := run_conv (P := Try.prog) 22 5 9 Try.underlying22 Try.underlying5 under9 128 128 HFB.out HRF.out
        still_step
        still_step
        still_step
        still_step
        still_call ((refFill_any bs _ (by have := HN.out; omega)).mono fun e w' ⟨h, h'⟩ => ⟨h, h'.symm⟩)
        iterate 9 still_step
        still_call ((Clear_at _ _ 128 _ (fillB bs) _ true _ HFB.out HRF.out (by omega) (by omega) (by rw [← HN.out]; exact HCF.out)).mono fun e w' ⟨h, h'⟩ => ⟨h, h'.symm⟩)
        iterate 2 still_step
        refine wpStill_nil ?_
        go_wp2_with fail
        refine (awake_any _).mono ?_
        rintro e w5 ⟨rfl, hb5⟩
        go_wp2
        go_ret
        exact ⟨rfl, HB2.out.trans (hb5.mono HB2.out.size)⟩
theorem walk (A : Option Addr) (c : Nat) (x : Int) (bs : List UInt8) (w : World) (hr : Rd w w.heap.size A (bs.map bv)) (hc : bs.length ≤ c) (hcm : c ≤ maxLen) (hx : -9223372036854775808 ≤ x ∧ x ≤ 9223372036854775807) :
    Calls Try.prog 4 #[.slice A bs.length c, .int .i64 x] w fun e w' => e = .returned (.bool true) ∧ Below w.heap.size w w' := by
  unfold maxLen at hcm
  have hR : Rd w w.heap.size A ((bs.take 200).map bv) := by rw [List.map_take]; exact hr.take 200
  obtain ⟨n, hn⟩ : ∃ n, (bs.take 200).length = n := ⟨_, rfl⟩
  have hn' := hn
  rw [List.length_take] at hn'
  by_cases h : 128 < n
  · exact over128 A n bs.length c x (bs.take 200) w (by omega) hn (by omega) hcm hc hx hR h
  · exact upto128 A n bs.length c x (bs.take 200) w (by omega) hn (by omega) hcm hc hx hR (by omega)

set_option maxRecDepth 100000 in
theorem lifted (os : Os) (started : os.Started) (H : Type) (enc : TypeId × Value → H) :
    ReturnsInHanded {} Try.checked os 4 .any (Rows.packFillsSpec.pre6 enc Try.prog Try.f4 Rows.packFillsRow.domain false) (Rows.packFillsSpec.post enc Try.prog Try.f4 false true false false) := by
  refine returnsInHanded_of_change (C := Try.checked) own started (by kernel_rfl) Try.func4
    (ChangeSpec.witness6 (enc := enc) (C := Try.checked) false ⟨#[], #[.slice none 0 0, .int .i64 0], []⟩ 8 (by kernel_rfl) (by kernel_rfl) (by kernel_rfl) (by kernel_rfl)) ?_
  intro W base args ds gs before hval0 hW hcnd _
  have hval : ∀ (j : Nat) t v, Try.f4.params[j]? = some t → args[j]? = some v → Value.okWide Try.prog W .any base t v := hval0
  have hW' := hW
  obtain ⟨p, q, hA0, hV, rfl, hfz, hnd⟩ := hW
  have hA : DataW.TrodAll enc Try.prog W 0 (fun _ => true) true Try.f4.params.toList args.toList ds p := hA0
  rw [Try.params4] at hA hval
  obtain ⟨v0, vs0, d0, ds0, p0, q0, hargs, rfl, rfl, h0, r0⟩ := trodAll_cons hA
  obtain ⟨v1, vs1, d1, ds1, p1, q1, rfl, rfl, rfl, h1, r1⟩ := trodAll_cons r0
  obtain ⟨rfl, rfl, rfl⟩ := trodAll_nil r1
  obtain rfl : args = #[v0, v1] := by cases args; simp_all
  obtain ⟨rfl, rfl⟩ := trodVars_none hV
  obtain ⟨a0, len0, cap0, rfl⟩ := okWide_slice Try.underlying22 (hval 0 22 v0 rfl rfl)
  have lt0 : ∀ x ∈ p0, x.block < W.heap.size := by obtain ⟨m, hm⟩ := h0; exact DataW.trod_lt m _ _ _ hm
  obtain ⟨x0, rfl, hc0, hm0, hr0⟩ := bytes_in Try.underlying22 Try.underlying5 (by kernel_rfl) h0
  obtain ⟨x1, rfl, rfl, rfl, wx1⟩ := open_int Try.underlying3 (hval 1 3 v1 rfl rfl) h1
  have hx1 := bounds_i64 wx1
  clear hA0 hval0
  refine (walk a0 cap0 x1 x0 W hr0 hc0 hm0 hx1).mono fun e W' ⟨he, bel⟩ => ?_
  subst he
  exact ⟨_, rfl, _, _, _, [], _, [], hW', trodAll_mk1 (shut_bool Try.underlying4 _), (trodAll_cons_mk (Below.trod laidOut (by kernel_rfl) (of_decide_eq_true (by kernel_rfl)) h0 bel lt0) (trodAll_cons_mk (shut_int Try.underlying3 wx1) trodAll_mk0)), rfl, bel.frame _, fun h => by cases h⟩

theorem over : Rows.packFillsRow.holds Try.pinned (OpenSpec.ofChange Rows.packFillsSpec) :=
  OpenClaim.holds_of_wide 4 Try.f4 rfl rfl rfl rfl rfl rfl rfl ⟨rfl, rfl, rfl, rfl, rfl⟩ rfl rfl rfl rfl rfl (by kernel_rfl) Try.func4 (by kernel_rfl)
    (of_decide_eq_true (by kernel_rfl)) (by unfold Func.isWrapper; first | (rw [if_pos (by decide +kernel)]; kernel_rfl) | (rw [if_neg (by decide +kernel)]; exact ⟨rfl, rfl⟩))
    (fun os started H enc _ => lifted os started H enc)

theorem proved : Rows.PackFillsSaid := over
#print axioms proved
end Go.Proofs.Ytnodfnoeppaliaa.packFills
