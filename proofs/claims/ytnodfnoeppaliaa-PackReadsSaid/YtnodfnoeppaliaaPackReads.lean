/-
  Taken out at once, or one by one, each behind the one ahead, numbers are the same as pack.Unpack answers them; one octet less than they ask is too few. Conditions: none.
-/
import Derived.Test.YtnodfnoeppaliaaAwake
import Derived.Test.YtnodfnoeppaliaaOpen
import Derived.Test.YtnodfnoeppaliaaRows
import Derived.StillTailTactics
import Derived.Deep.RegionHeld3
namespace Go.Proofs.Ytnodfnoeppaliaa.packReads
open Go.ChangeShapes Go.WideShapes Go.ChangeAt Go.RowKit
open Go.ChangeMaps (open_string shut_string)
set_option linter.unusedVariables false

set_option maxRecDepth 100000 in
set_option maxHeartbeats 2000000 in
theorem refused (A A' : Option Addr) (n m l l' c c' : Nat) (bs : List UInt8) (ws : List Int) (q : Int) (w : World) (hcut : n = 200 ∧ 200 < l ∨ n = l ∧ l ≤ 200) (hcut' : m = 30 ∧ 30 < l' ∨ m = l' ∧ l' ≤ 30) (hn : bs.length = n) (hm : ws.length = m) (hlc : l ≤ c) (hlc' : l' ≤ c') (hcm : c ≤ 9223372036854775807) (hcm' : c' ≤ 9223372036854775807)
    (hr : Rd w w.heap.size A (bs.map bv)) (hr' : Rd w w.heap.size A' (ws.map iv)) (hq : unpCode ws n = q) (h0 : q ≠ 0) :
    Calls Try.prog 7 #[.slice A l c, .slice A' l' c'] w fun e w' => e = .returned (.bool true) ∧ Below w.heap.size w w' := by
  have HR := Lib.hid hr
  have HR' := Lib.hid hr'
  have HN := Lib.hid hn
  have HM := Lib.hid hm
  have HQ := Lib.hid hq
  have H0 := Lib.hid h0
  have h0' : (q == 0) = false := by simpa using h0
  clear hr hr' hn hm hq
  rcases hcut with ⟨rfl, h1⟩ | ⟨rfl, h1⟩ <;> rcases hcut' with ⟨rfl, h2⟩ | ⟨rfl, h2⟩
  all_goals
    go_enter Try.func7, Try.ntmps7
    go_wp2_with fail
    refine (Unpack_bad _ _ _ _ _ _ _ bs ws q _ HN.out HM.out HQ.out H0.out HR.out HR'.out (Nat.le_refl _) (by omega) (by unfold maxLen; omega) (by omega)).mono ?_
    rintro e w1 ⟨rfl, hb1⟩
    have HB := Lib.hid hb1
    have hsz := hb1.size
    clear hb1
    go_wp2_with fail
    refine (awake_any _).mono ?_
    rintro e w5 ⟨rfl, hb5⟩
    go_wp2
    go_ret
    exact ⟨rfl, HB.out.trans (hb5.mono hsz)⟩

set_option maxRecDepth 100000 in
set_option maxHeartbeats 4000000 in
theorem taken (A A' : Option Addr) (n m l l' c c' : Nat) (bs : List UInt8) (ws : List Int) (w : World) (hcut : n = 200 ∧ 200 < l ∨ n = l ∧ l ≤ 200) (hcut' : m = 30 ∧ 30 < l' ∨ m = l' ∧ l' ≤ 30) (hn : bs.length = n) (hm : ws.length = m) (hlc : l ≤ c) (hlc' : l' ≤ c') (hcm : c ≤ 9223372036854775807) (hcm' : c' ≤ 9223372036854775807)
    (hr : Rd w w.heap.size A (bs.map bv)) (hr' : Rd w w.heap.size A' (ws.map iv)) (hq : unpCode ws n = 0) :
    Calls Try.prog 7 #[.slice A l c, .slice A' l' c'] w fun e w' => e = .returned (.bool true) ∧ Below w.heap.size w w' := by
  have HR := Lib.hid hr
  have HR' := Lib.hid hr'
  have HN := Lib.hid hn
  have HM := Lib.hid hm
  have HQ := Lib.hid hq
  obtain ⟨hall, htot⟩ := (unpCode_zero ws n).1 hq
  have HALL := Lib.hid hall
  obtain ⟨vs, hvs⟩ : ∃ vs, vs = nums bs ws := ⟨_, rfl⟩
  have HV := Lib.hid hvs
  have HVL : Hid (vs.length = m) := by show _ = _; rw [hvs, nums_length, hm]
  clear hr hr' hn hm hq hall hvs
  rcases hcut with ⟨rfl, h1⟩ | ⟨rfl, h1⟩ <;> rcases hcut' with ⟨rfl, h2⟩ | ⟨rfl, h2⟩
  all_goals
    go_enter Try.func7, Try.ntmps7
    go_wp2_with fail
    refine (Unpack_ok _ _ _ _ _ _ _ bs ws vs _ HN.out HM.out HQ.out HV.out.symm HR.out HR'.out (Nat.le_refl _) (by omega) (by unfold maxLen; omega) (by omega)).mono ?_
    rintro e w1 ⟨A1, c1, rfl, hc1, hc1m, r1, hb1⟩
    have HB1 := Lib.hid hb1
    have HR1 := Lib.hid r1
    have hsz1 := hb1.size
    have HRb := Lib.hid (HR.out.below hb1)
    have HRw := Lib.hid (HR'.out.below hb1)
    unfold maxLen at hc1m
    clear hb1 r1
    go_wp2
    go_loopw [7, 8] (fun t i wr => ∃ k : Nat, k ≤ ws.length ∧ i = .int .i64 k ∧ t = .int .i64 (tot (ws.take k) : Int) ∧ Hid (Below w1.heap.size w1 wr)) (fun _ i _ => ws.length - (intOf i).toNat)
    case atStart => exact ⟨0, Nat.zero_le _, rfl, rfl, Below.refl _ _⟩
    case round =>
      obtain ⟨k, hk, rfl, rfl, hb⟩ := hrel
      have hszr := hb.out.size
      by_cases hlt : k < ws.length
      · obtain ⟨x, hx⟩ : ∃ x, ws[k]? = some x := ⟨_, List.getElem?_eq_getElem hlt⟩
        have hlt' : k < _ := Nat.lt_of_lt_of_le hlt (Nat.le_of_eq HM.out)
        have hxok := (okW_iff x).1 (List.all_eq_true.1 HALL.out x (List.mem_of_getElem? hx))
        have ht1 := tot_snoc ws k x hx
        have ht2 := tot_take_le ws (k + 1)
        obtain ⟨t, hts⟩ : ∃ t, t = tot (ws.take k) := ⟨_, rfl⟩
        rw [← hts] at ht1
        have htx : t + x.toNat ≤ tot ws := by omega
        obtain ⟨h3, h4⟩ := hxok
        obtain ⟨b, o, hA, _, _⟩ := HR.out.plain (by have := HN.out; simp; omega)
        subst hA
        obtain ⟨b', o', hA', _, hcw⟩ := ((HRw.out.mono hsz1).below hb.out).plain (by simp; omega)
        subst hA'
        have hcell := hcw k (iv x) (by simp [hx])
        unfold iv at hcell
        rw [← hts]
        have HT1 := Lib.hid ht1
        have HTS := Lib.hid hts
        have HXK := Lib.hid hx
        have hlti : (k : Int) < _ := Int.ofNat_lt.2 hlt'
        clear ht1 ht2 hts hx hcw hlt
        have hkeep : Hid (∀ w', Below wr.heap.size wr w' → w'.cell? ⟨b', o' + k, none⟩ = some (.int .i64 x)) := fun w' h => (h.cell (World.block_lt_of_cell? wr _ hcell)).trans hcell
        have h0i : (0 : Int) ≤ (k : Int) := by omega
        have hti : (0 : Int) ≤ (t : Int) := by omega
        have htc : (t : Int) < (c : Int) := by omega
        have hct : c ≠ t := by omega
        try have htn : (t : Int) ≤ 200 := by omega
        try have htn : (t : Int) ≤ (n : Int) := by omega
        have hsub : Rd wr w.heap.size (some ⟨b, o + t, none⟩) ((bs.drop t).map bv) := by
          have h := (HRb.out.below (hb.out.mono hsz1)).drop t
          rw [add_plain, ← List.map_drop] at h
          exact h
        have HSUB := Lib.hid hsub
        obtain ⟨v, hv⟩ : ∃ v, v = valB ((bs.drop t).take x.toNat) := ⟨_, rfl⟩
        have hvk : vs[k]? = some v := by rw [HV.out, hv, HTS.out]; exact nums_get bs ws k x HXK.out
        have HVK := Lib.hid hvk
        have HVV : Hid (nums (bs.drop t) [x] = [v]) := by show _ = _; rw [hv]; rfl
        have HU : Hid (∀ z, bs.length = z → unpCode [x] (z - t) = 0) := by
          intro z hz
          have := HN.out
          refine (unpCode_zero _ _).2 ⟨?_, ?_⟩
          · simp [okW]; omega
          · simp only [tot, List.map_cons, List.map_nil, List.sum_cons, List.sum_nil]; omega
        have HBr := Lib.hid hb.out
        have htot' : tot ws ≤ bs.length := by have := HN.out; omega
        have hbc : bs.length ≤ c := by have := HN.out; omega
        have HCALL : Hid (∀ z, bs.length = z → Calls Try.prog 8 #[.slice (some ⟨b, o + t, none⟩) (z - t) (c - t), .slice (some ⟨wr.heap.size, 0, none⟩) 1 1] (wr.alloc (.cells #[.int .i64 x] 3)).drew
            fun e w3 => ∃ A3 c3, e = .returned (.tuple #[.slice A3 1 c3, .int .i64 0]) ∧ Rd w3 w3.heap.size A3 [uv v] ∧ Below wr.heap.size wr w3) := by
          intro z hz
          refine (Unpack_ok (wr.heap.size + 1) _ _ (z - t) (c - t) 1 1 (bs.drop t) [x] [v] _ (by rw [List.length_drop, hz]) rfl (HU.out _ hz) HVV.out ((HSUB.out.alloc (by omega) _).drew.mono (by omega)) (((Rd.bk (Bk.new wr 3 #[.int .i64 x])).mono (by simp)).drew) (by simp) (by omega) (by unfold maxLen; omega) (by omega)).mono ?_
          rintro e w3 ⟨A3, c3, rfl, _, _, r3, hb3⟩
          exact ⟨A3, c3, rfl, r3, (((Below.refl wr.heap.size wr).alloc (Nat.le_refl _) _).drew).trans (hb3.mono (by simp))⟩
        clear hsub hv hvk htot' hbc
        go_wp2
        go_region_held3 (fun w' => w'.cell? ⟨b', o' + k, none⟩ = some (.int .i64 x)) (first | go_keep | exact hkeep.out _ (by assumption))
          ((go_at_call 8; have hcall := HCALL.out _ HN.out; (with_reducible refine hcall.mono ?_); rintro e w3 ⟨A3, c3, rfl, r3, hbw⟩))
        have hszw := hbw.size
        have hbb := hbw
        have HBW := Lib.hid hbw
        have hcell3 := hkeep.out _ hbw
        obtain ⟨b3, o3, hA3, _, hx3⟩ := r3.plain (by simp)
        subst hA3
        have hcx := hx3 0 (uv v) (by simp)
        rw [Nat.add_zero] at hcx
        obtain ⟨b1, o1, hA1, _, hx1⟩ := ((HR1.out.below HBr.out).below (hbw.mono hszr)).plain (by have := HVL.out; simp; omega)
        subst hA1
        have hcl := hx1 k (uv v) (by simp [HVK.out])
        unfold uv at hcx hcl
        obtain ⟨y, hy⟩ : ∃ y : Int, y = (v : Int) := ⟨_, rfl⟩
        rw [← hy] at hcx hcl
        clear hbb hbw hx3 hx1 hy r3 hkeep hct
        have hge : decide (_ ≤ (k : Int)) = false := decide_eq_false (Int.not_le.2 hlti)
        go_wp2
        go_quiet (fail)
        go_wp2
        go_roundw
        case rel => exact ⟨k + 1, by have := HM.out; omega, by go_num, by rw [HT1.out]; go_num, (HBr.out.trans (HBW.out.mono hszr)).drewN' _⟩
        case measure => have := HM.out; simp [intOf]; omega
      · have hkm : k = ws.length := by omega
        subst hkm
        have hnk : ¬ (ws.length < _) := fun h => absurd (Nat.lt_of_lt_of_le h (Nat.le_of_eq HM.out.symm)) (Nat.lt_irrefl _)
        rw [List.take_of_length_le (Nat.le_refl _)]
        by_cases ht0 : tot ws = 0
        · have hm0 : ws.length = 0 := by
            rcases Nat.eq_zero_or_pos ws.length with h | h
            · exact h
            · exfalso
              have h5 := (okW_iff ws[0]).1 (List.all_eq_true.1 HALL.out _ (List.getElem_mem h))
              have h6 := tot_take_le ws 1
              rw [tot_snoc ws 0 ws[0] (List.getElem?_eq_getElem h)] at h6
              omega
          first
          | (exfalso; have := HM.out; omega)
          | (have hmz : ((m : Int) == 0) = true := by have := HM.out; simp; omega
             have htz : ((tot ws : Int) == 0) = true := by simp; omega
             clear ht0
             go_wp2_with fail
             refine (awake_any _).mono ?_
             rintro e w5 ⟨rfl, hb5⟩
             go_wp2
             go_ret
             exact ⟨rfl, (HB1.out.trans (hb.out.mono hsz1)).trans (hb5.mono (by omega))⟩)
        · obtain ⟨b, o, hA, _, _⟩ := HR.out.plain (by have := HN.out; simp; omega)
          subst hA
          obtain ⟨T, hT⟩ : ∃ T, tot ws = T + 1 := ⟨tot ws - 1, by omega⟩
          have HU : Hid (unpCode ws T = 2) := by
            show _ = _
            unfold unpCode
            rw [if_pos HALL.out, if_pos (by omega)]
          have hsub : Rd wr w.heap.size (some ⟨b, o, none⟩) ((bs.take T).map bv) := by
            rw [List.map_take]; exact (HRb.out.below (hb.out.mono hsz1)).take T
          have HSUB := Lib.hid hsub
          have HTL : Hid ((bs.take T).length = T) := by show _ = _; have := HN.out; simp; omega
          have HRW := Lib.hid ((HRw.out.mono hsz1).below hb.out)
          rw [hT]
          have hTc : T < c := by omega
          have hTn : T < tot ws := by omega
          clear hT hsub ht0
          go_wp2_with fail
          refine (Unpack_bad w1.heap.size _ _ T c _ c' (bs.take T) ws 2 _ HTL.out HM.out HU.out (by decide) (HSUB.out.mono hsz1) HRW.out hszr (by omega) (by unfold maxLen; omega) (by omega)).mono ?_
          rintro e w3 ⟨rfl, hb3⟩
          have HB3 := Lib.hid ((HB1.out.trans (hb.out.mono hsz1)).trans (hb3.mono (by omega)))
          have hsz3 := HB3.out.size
          clear hb3
          go_wp2_with fail
          refine (awake_any _).mono ?_
          rintro e w5 ⟨rfl, hb5⟩
          go_wp2
          go_ret
          exact ⟨rfl, HB3.out.trans (hb5.mono hsz3)⟩

theorem walk (A A' : Option Addr) (c c' : Nat) (bs : List UInt8) (ws : List Int) (w : World) (hr : Rd w w.heap.size A (bs.map bv)) (hr' : Rd w w.heap.size A' (ws.map iv)) (hc : bs.length ≤ c) (hcm : c ≤ maxLen) (hc' : ws.length ≤ c') (hcm' : c' ≤ maxLen) :
    Calls Try.prog 7 #[.slice A bs.length c, .slice A' ws.length c'] w fun e w' => e = .returned (.bool true) ∧ Below w.heap.size w w' := by
  unfold maxLen at hcm hcm'
  have hR : Rd w w.heap.size A ((bs.take 200).map bv) := by rw [List.map_take]; exact hr.take 200
  have hR' : Rd w w.heap.size A' ((ws.take 30).map iv) := by rw [List.map_take]; exact hr'.take 30
  obtain ⟨n, hn⟩ : ∃ n, (bs.take 200).length = n := ⟨_, rfl⟩
  obtain ⟨m, hm⟩ : ∃ m, (ws.take 30).length = m := ⟨_, rfl⟩
  have hn' := hn
  have hm' := hm
  rw [List.length_take] at hn' hm'
  by_cases h : unpCode (ws.take 30) n = 0
  · exact taken A A' n m bs.length ws.length c c' (bs.take 200) (ws.take 30) w (by omega) (by omega) hn hm hc hc' hcm hcm' hR hR' h
  · exact refused A A' n m bs.length ws.length c c' (bs.take 200) (ws.take 30) _ w (by omega) (by omega) hn hm hc hc' hcm hcm' hR hR' rfl h

set_option maxRecDepth 100000 in
theorem lifted (os : Os) (started : os.Started) (H : Type) (enc : TypeId × Value → H) :
    ReturnsInHanded {} Try.checked os 7 .any (Rows.packReadsSpec.pre6 enc Try.prog Try.f7 Rows.packReadsRow.domain false) (Rows.packReadsSpec.post enc Try.prog Try.f7 false true false false) := by
  refine returnsInHanded_of_change (C := Try.checked) own started (by kernel_rfl) Try.func7
    (ChangeSpec.witness6 (enc := enc) (C := Try.checked) false ⟨#[], #[.slice none 0 0, .slice none 0 0], []⟩ 8 (by kernel_rfl) (by kernel_rfl) (by kernel_rfl) (by kernel_rfl)) ?_
  intro W base args ds gs before hval0 hW hcnd _
  have hval : ∀ (j : Nat) t v, Try.f7.params[j]? = some t → args[j]? = some v → Value.okWide Try.prog W .any base t v := hval0
  have hW' := hW
  obtain ⟨p, q, hA0, hV, rfl, hfz, hnd⟩ := hW
  have hA : DataW.TrodAll enc Try.prog W 0 (fun _ => true) true Try.f7.params.toList args.toList ds p := hA0
  rw [Try.params7] at hA hval
  obtain ⟨v0, vs0, d0, ds0, p0, q0, hargs, rfl, rfl, h0, r0⟩ := trodAll_cons hA
  obtain ⟨v1, vs1, d1, ds1, p1, q1, rfl, rfl, rfl, h1, r1⟩ := trodAll_cons r0
  obtain ⟨rfl, rfl, rfl⟩ := trodAll_nil r1
  obtain rfl : args = #[v0, v1] := by cases args; simp_all
  obtain ⟨rfl, rfl⟩ := trodVars_none hV
  obtain ⟨a0, len0, cap0, rfl⟩ := okWide_slice Try.underlying22 (hval 0 22 v0 rfl rfl)
  have lt0 : ∀ x ∈ p0, x.block < W.heap.size := by obtain ⟨m, hm⟩ := h0; exact DataW.trod_lt m _ _ _ hm
  obtain ⟨x0, rfl, hc0, hm0, hr0⟩ := bytes_in Try.underlying22 Try.underlying5 (by kernel_rfl) h0
  obtain ⟨a1, len1, cap1, rfl⟩ := okWide_slice Try.underlying23 (hval 1 23 v1 rfl rfl)
  have lt1 : ∀ x ∈ p1, x.block < W.heap.size := by obtain ⟨m, hm⟩ := h1; exact DataW.trod_lt m _ _ _ hm
  obtain ⟨x1, rfl, hc1, hm1, hr1⟩ := ints_in Try.underlying23 Try.underlying3 (by kernel_rfl) h1
  clear hA0 hval0
  refine (walk a0 a1 cap0 cap1 x0 x1 W hr0 hr1 hc0 hm0 hc1 hm1).mono fun e W' ⟨he, bel⟩ => ?_
  subst he
  exact ⟨_, rfl, _, _, _, [], _, [], hW', trodAll_mk1 (shut_bool Try.underlying4 _), (trodAll_cons_mk (Below.trod laidOut (by kernel_rfl) (of_decide_eq_true (by kernel_rfl)) h0 bel lt0) (trodAll_cons_mk (Below.trod laidOut (by kernel_rfl) (of_decide_eq_true (by kernel_rfl)) h1 bel lt1) trodAll_mk0)), rfl, bel.frame _, fun h => by cases h⟩

theorem over : Rows.packReadsRow.holds Try.pinned (OpenSpec.ofChange Rows.packReadsSpec) :=
  OpenClaim.holds_of_wide 7 Try.f7 rfl rfl rfl rfl rfl rfl rfl ⟨rfl, rfl, rfl, rfl, rfl⟩ rfl rfl rfl rfl rfl (by kernel_rfl) Try.func7 (by kernel_rfl)
    (of_decide_eq_true (by kernel_rfl)) (by unfold Func.isWrapper; first | (rw [if_pos (by decide +kernel)]; kernel_rfl) | (rw [if_neg (by decide +kernel)]; exact ⟨rfl, rfl⟩))
    (fun os started H enc _ => lifted os started H enc)

theorem proved : Rows.PackReadsSaid := over
#print axioms proved
end Go.Proofs.Ytnodfnoeppaliaa.packReads
