/-
  Flush and Erase of the document's own device.
-/
import Derived.Test.YtpjdnbmeedcafaaRef2
import Derived.Deep.RegionHeld3
namespace Go.Proofs.Ytpjdnbmeedcafaa
open Go.RowKit
set_option linter.unusedVariables false

theorem RefAt.has_congr {w : World} {base rb : Nat} {hv fv lv : Value} {D : Dv} {H H' : Nat → List UInt8} (h : RefAt w base rb hv fv lv { D with has := H }) (hH : ∀ i, (H' i).length = 128) (he : ∀ i, i < D.n → H i = H' i) : RefAt w base rb hv fv lv { D with has := H' } := by
  have e : strs D.n H = strs D.n H' := by
    unfold strs
    exact List.map_congr_left fun i hi => by rw [he i (by simpa using hi)]
  exact ⟨⟨h.ok.n1, h.ok.n2, hH, h.ok.pend, h.ok.flt, h.ok.bud⟩, h.cel, e ▸ h.has, h.flt, h.pen, h.brb⟩
theorem execX_step {P : List (Nat × List UInt8)} {H : Nat → List UInt8} (hP : ∀ p ∈ P, p.2.length = 128) (hH : ∀ i, (H i).length = 128) {k : Nat} {q : Nat × List UInt8} (hq : P[k]? = some q) : execX P (fun _ => 128) H (k + 1) = setH (execX P (fun _ => 128) H k) q.1 q.2 := by
  have hl := hP q (List.mem_of_getElem? hq)
  rw [execX, hq]
  simp only
  rw [List.take_of_length_le (by omega), upd_is_set (execX_length hP hH k) _ _ hl]

set_option maxRecDepth 100000 in
set_option maxHeartbeats 2000000 in
theorem refFlush_any {base rb : Nat} {hv fv lv : Value} {D : Dv} (w : World) (h : RefAt w base rb hv fv lv D) (hpl : D.pend.length ≤ 1000) :
    Calls Try.prog 17 #[.pointer (some ⟨rb, 0, none⟩)] w fun e w' => e = .returned (.int .i64 (startE D)) ∧ TurnR base rb w hv fv lv w' (flushD D) := by
  have HH := Lib.hid h
  obtain ⟨fB, hfB⟩ : ∃ f, failB D = f := ⟨_, rfl⟩
  obtain ⟨D1, hD1⟩ : ∃ D1, startD D = D1 := ⟨_, rfl⟩
  obtain ⟨m, hm⟩ : ∃ m, D.mnt = m := ⟨_, rfl⟩
  have hE := failB_startE D
  rw [hfB, hm] at hE
  have hF : flushD D = if startE D = 0 then execD D1 (fun _ => 128) else D1 := by unfold flushD; rw [hD1]
  have en : D1.n = D.n := by rw [← hD1]; exact startD_n D
  have ep : D1.pend = D.pend := by rw [← hD1]; exact startD_pend D
  have em : D1.mnt = m := by rw [← hD1, startD_mnt]; exact hm
  have HPL : Hid (D1.pend.length ≤ 1000) := by rw [ep]; exact hpl
  have HFB := Lib.hid hfB
  have HD1 := Lib.hid hD1
  have HE := Lib.hid hE
  have HF := Lib.hid hF
  have HEM := Lib.hid em
  clear h hfB hD1 hm hE hF en ep em hpl
  cases fB
  · cases m
    · have e1 : startE D = 9 := HE.out
      have HE1 := Lib.hid e1
      rw [e1]
      clear e1
      go_enter Try.func17, Try.ntmps17
      go_wp2_with fail
      refine (fails_any _ HH.out).mono ?_
      rintro e w1 ⟨rfl, hr, hfr⟩
      rw [HFB.out]
      rw [HD1.out] at hr
      have HR := Lib.hid hr
      have HFR := Lib.hid hfr
      have c5 := hr.c5
      rw [HEM.out] at c5
      clear hr hfr
      go_wp2
      go_ret
      exact ⟨rfl, by rw [HF.out, if_neg (by rw [HE1.out]; omega)]; exact .of ⟨HR.out, HFR.out⟩⟩
    · have e1 : startE D = 0 := HE.out
      have HE1 := Lib.hid e1
      rw [e1]
      clear e1
      go_enter Try.func17, Try.ntmps17
      go_wp2_with fail
      refine (fails_any _ HH.out).mono ?_
      rintro e w1 ⟨rfl, hr, hfr⟩
      rw [HFB.out]
      rw [HD1.out] at hr
      have HR := Lib.hid hr
      have HFR := Lib.hid hfr
      have c5 := hr.c5
      rw [HEM.out] at c5
      obtain ⟨hg, hc, hhv, _, _⟩ := own_addr hr.has hr.ok.n1
      obtain ⟨A, cp, hlv, _, _⟩ := own_len hr.pen
      obtain ⟨n, hnn⟩ : ∃ n, D1.pend.length = n := ⟨_, rfl⟩
      rw [hnn] at hlv
      have hn1k : n ≤ 1000 := by rw [← hnn]; exact HPL.out
      have HHV := Lib.hid hhv
      have HLV := Lib.hid hlv
      have HNN := Lib.hid hnn
      have HOK := Lib.hid hr.ok
      have hn2 := hr.ok.n2
      have HR0 : Hid (RefAt w1 base rb hv fv lv { D1 with has := execX D1.pend (fun _ => 128) D1.has 0 } ∧ Fr (FootR rb hv fv lv) w1 w1) := ⟨hr, Fr.refl _ _⟩
      clear hr hfr hnn hlv hhv
      go_wp2_with fail
      go_loopw [3] (fun x wr => ∃ k : Nat, k ≤ n ∧ x = .int .i64 (k : Int) ∧ Hid (RefAt wr base rb hv fv lv { D1 with has := execX D1.pend (fun _ => 128) D1.has k } ∧ Fr (FootR rb hv fv lv) w1 wr)) (fun x _ => n - (intOf x).toNat)
      case atStart => exact ⟨0, Nat.zero_le _, rfl, HR0⟩
      case round =>
        clear HR0 c5
        obtain ⟨k, hk, rfl, HK⟩ := hrel
        have c2 := HK.out.1.c2
        rw [HLV.out] at c2
        by_cases hlt : k < n
        · obtain ⟨q, hq⟩ : ∃ q, D1.pend[k]? = some q := ⟨_, List.getElem?_eq_getElem (by rw [HNN.out]; exact hlt)⟩
          obtain ⟨hqn, hql⟩ := HOK.out.pend q (List.mem_of_getElem? hq)
          have c0 := HK.out.1.c0
          rw [HHV.out] at c0
          obtain ⟨w1', w2'⟩ := wcells_at _ _ _ hq
          have hpen : wr.ownsRow base 72 2 (.slice A n cp) n (wcells D1.pend) := by
            have := HK.out.1.pen
            rw [HLV.out] at this
            have e : ({ D1 with has := execX D1.pend (fun _ => 128) D1.has k } : Dv).pend.length = n := HNN.out
            rw [e] at this
            exact this
          obtain ⟨lg, lc, hA, _, _⟩ := own_addr hpen (by omega)
          injection hA with hA1 _ _
          subst hA1
          have q1 := (hpen.cellAt (k * 2) (by omega)).trans w1'
          have q2 := (hpen.cellAt (k * 2 + 1) (by omega)).trans w2'
          have hhas : wr.ownsRow base 9 1 (.slice (some ⟨hg, 0, none⟩) D1.n hc) D1.n (strs D1.n (execX D1.pend (fun _ => 128) D1.has k)) := by
            have := HK.out.1.has
            rw [HHV.out] at this
            exact this
          have HST : Hid (execX D1.pend (fun _ => 128) D1.has (k + 1) = setH (execX D1.pend (fun _ => 128) D1.has k) q.1 q.2) := execX_step (fun p hp => (HOK.out.pend p hp).2) HOK.out.has hq
          obtain ⟨a, b⟩ := q
          simp only at hqn hql q1 q2
          have q3 := (hhas.cellAt a (by omega)).trans (strs_at _ _ _ hqn)
          have q4 := hhas.frozenAt a
          obtain ⟨U, hU⟩ : ∃ U, str b = U := ⟨_, rfl⟩
          rw [hU] at q2
          have HU := Lib.hid hU
          obtain ⟨T, hT⟩ : ∃ T, str (execX D1.pend (fun _ => 128) D1.has k a) = T := ⟨_, rfl⟩
          rw [hT] at q3
          have HQN := Lib.hid hqn
          have HQL := Lib.hid hql
          have hqi : (a : Int) < (D1.n : Int) := by omega
          clear hq w1' w2' hpen hhas hU hT hqn hql
          go_wp2_with fail
          refine wp_region_still_tail 21 (by kernel_rfl) (by kernel_rfl) ?_
          simp only [List.take_succ_cons, List.take_zero, List.drop_succ_cons, List.drop_zero]
          change wpStill _ _ wr.drew _ _ _
          iterate 21 still_step
          refine wpStill_nil ?_
          change wpList _ _ _ _ _ wr.drew
          go_wp2_with fail
          have hput := HK.out.1.drew.putText HHV.out a b HQN.out HQL.out
          rw [HU.out] at hput
          have HK2 : Hid (RefAt (wr.drew.setCell ⟨hg, a, none⟩ (.string U)) base rb hv fv lv { D1 with has := execX D1.pend (fun _ => 128) D1.has (k + 1) } ∧ Fr (FootR rb hv fv lv) w1 (wr.drew.setCell ⟨hg, a, none⟩ (.string U))) := by
            rw [HST.out]
            exact ⟨hput.1, HK.out.2.drew.trans hput.2 fun j hj => .inl hj⟩
          clear hput
          go_roundw
          case rel => exact ⟨k + 1, by omega, by go_num, HK2⟩
          case measure => simp [intOf]; omega
        · obtain rfl : k = n := by omega
          have f2' := HK.out.1.fz 2
          go_wp2_with fail
          go_ret
          refine ⟨rfl, ?_⟩
          rw [HF.out, if_pos HE1.out]
          have hd := HK.out.1.drop
          rw [← HNN.out] at hd
          exact .of ⟨hd.1, (HFR.out.trans HK.out.2 fun j hj => .inl hj).trans hd.2 fun j hj => .inl hj⟩
  · have e1 : startE D = 10 := HE.out
    have HE1 := Lib.hid e1
    rw [e1]
    clear e1
    go_enter Try.func17, Try.ntmps17
    go_wp2_with fail
    refine (fails_any _ HH.out).mono ?_
    rintro e w1 ⟨rfl, hr, hfr⟩
    rw [HFB.out]
    rw [HD1.out] at hr
    have HR := Lib.hid hr
    have HFR := Lib.hid hfr
    clear hr hfr
    go_wp2
    go_ret
    exact ⟨rfl, by rw [HF.out, if_neg (by rw [HE1.out]; omega)]; exact .of ⟨HR.out, HFR.out⟩⟩
end Go.Proofs.Ytpjdnbmeedcafaa
