/-
  Erase and Crash of the document's own device.
-/
import Derived.Test.YtpjdnbmeedcafaaRef3
namespace Go.Proofs.Ytpjdnbmeedcafaa
open Go.RowKit
set_option linter.unusedVariables false

def zer (n : Nat) (H : Nat → List UInt8) (i : Nat) : Nat → List UInt8 := fun j => if j < i then List.replicate 128 0 else H j
theorem zer_succ (n : Nat) (H : Nat → List UInt8) (i : Nat) : zer n H (i + 1) = setH (zer n H i) i (List.replicate 128 0) := by
  funext j
  unfold zer setH
  by_cases h : j = i
  · subst h; simp
  · simp only
    rw [if_neg h]
    by_cases h2 : j < i
    · rw [if_pos (by omega), if_pos h2]
    · rw [if_neg (by omega), if_neg h2]
theorem RefAt.alloc {w : World} {base rb : Nat} {hv fv lv : Value} {D : Dv} (h : RefAt w base rb hv fv lv D) (o : Obj) : RefAt (w.alloc o) base rb hv fv lv D := h.up ((Below.refl _ _).alloc (Nat.le_refl _) _)

set_option maxRecDepth 100000 in
set_option maxHeartbeats 2000000 in
theorem refErase_any {base rb : Nat} {hv fv lv : Value} {D : Dv} (w : World) (h : RefAt w base rb hv fv lv D) :
    Calls Try.prog 27 #[.pointer (some ⟨rb, 0, none⟩)] w fun e w' => e = .returned (.int .i64 (startE D)) ∧ TurnR base rb w hv fv lv w' (eraseD D) := by
  have HH := Lib.hid h
  obtain ⟨fB, hfB⟩ : ∃ f, failB D = f := ⟨_, rfl⟩
  obtain ⟨D1, hD1⟩ : ∃ D1, startD D = D1 := ⟨_, rfl⟩
  obtain ⟨m, hm⟩ : ∃ m, D.mnt = m := ⟨_, rfl⟩
  have hE := failB_startE D
  rw [hfB, hm] at hE
  have hF : eraseD D = if startE D = 0 then { D1 with has := fun _ => List.replicate 128 0, pend := [] } else D1 := by unfold eraseD; rw [hD1]
  have em : D1.mnt = m := by rw [← hD1, startD_mnt]; exact hm
  have HFB := Lib.hid hfB
  have HD1 := Lib.hid hD1
  have HE := Lib.hid hE
  have HF := Lib.hid hF
  have HEM := Lib.hid em
  clear h hfB hD1 hm hE hF em
  cases fB
  · cases m
    · have e1 : startE D = 9 := HE.out
      have HE1 := Lib.hid e1
      rw [e1]
      clear e1
      go_enter Try.func27, Try.ntmps27
      go_wp2_with fail
      refine (fails_any _ HH.out).mono ?_
      rintro e w1 ⟨rfl, hr, hfr⟩
      rw [HFB.out]
      rw [HD1.out] at hr
      have HR := Lib.hid hr
      have HFR := Lib.hid hfr
      have c5 := hr.c5
      rw [HEM.out] at c5
      clear hr hfr
      go_wp2
      go_ret
      exact ⟨rfl, by rw [HF.out, if_neg (by rw [HE1.out]; omega)]; exact .of ⟨HR.out, HFR.out⟩⟩
    · have e1 : startE D = 0 := HE.out
      have HE1 := Lib.hid e1
      rw [e1]
      clear e1
      go_enter Try.func27, Try.ntmps27
      go_wp2_with fail
      refine (fails_any _ HH.out).mono ?_
      rintro e w1 ⟨rfl, hr, hfr⟩
      rw [HFB.out]
      rw [HD1.out] at hr
      have HFR := Lib.hid hfr
      have c5 := hr.c5
      rw [HEM.out] at c5
      obtain ⟨hg, hc, hhv, _, _⟩ := own_addr hr.has hr.ok.n1
      have HHV := Lib.hid hhv
      have HOK := Lib.hid hr.ok
      have hn2 := hr.ok.n2
      obtain ⟨n, hnn⟩ : ∃ n, D1.n = n := ⟨_, rfl⟩
      have HNN := Lib.hid hnn
      rw [hnn] at hn2
      have HR0 : Hid (RefAt w1 base rb hv fv lv { D1 with has := zer D1.n D1.has 0 } ∧ Fr (FootR rb hv fv lv) w1 w1) := ⟨RefAt.has_congr (H := D1.has) hr (fun i => by unfold zer; split; simp; exact hr.ok.has i) (fun i _ => by unfold zer; rw [if_neg (by omega)]), Fr.refl _ _⟩
      have HZL : Hid (∀ k i, (zer D1.n D1.has k i).length = 128) := fun k i => by unfold zer; split; simp; exact hr.ok.has i
      clear hr hfr hhv hnn
      go_wp2_with fail
      go_loopw [3] (fun x wr => ∃ k : Nat, k ≤ n ∧ x = .int .i64 (k : Int) ∧ Hid (RefAt wr base rb hv fv lv { D1 with has := zer D1.n D1.has k } ∧ Fr (FootR rb hv fv lv) w1 wr)) (fun x _ => n - (intOf x).toNat)
      case atStart => exact ⟨0, Nat.zero_le _, rfl, HR0⟩
      case round =>
        clear HR0 c5
        obtain ⟨k, hk, rfl, HK⟩ := hrel
        have c0 := HK.out.1.c0
        rw [HHV.out, HNN.out] at c0
        by_cases hlt : k < n
        · have hhas : wr.ownsRow base 9 1 (.slice (some ⟨hg, 0, none⟩) D1.n hc) D1.n (strs D1.n (zer D1.n D1.has k)) := by
            have := HK.out.1.has
            rw [HHV.out] at this
            exact this
          have q3 := (hhas.cellAt k (by rw [HNN.out]; omega)).trans (strs_at _ _ _ (by rw [HNN.out]; exact hlt))
          have q4 := hhas.frozenAt k
          have hlh : hg < wr.heap.size := World.block_lt_of_cell? wr _ q3
          have hlr : rb < wr.heap.size := HK.out.1.cel.lt
          have hne : hg ≠ rb := fun e => HK.out.1.apart.1 (by rw [HHV.out, e]; rfl)
          obtain ⟨T, hT⟩ : ∃ T, str (zer D1.n D1.has k k) = T := ⟨_, rfl⟩
          rw [hT] at q3
          have a3 : ∀ o, (wr.drew.alloc o).cell? ⟨hg, k, none⟩ = some (.string T) := fun o => (World.cell?_alloc_lt _ _ _ hlh).trans q3
          have a4 : ∀ o, (wr.drew.alloc o).frozen? ⟨hg, k, none⟩ = false := fun o => (World.frozen?_alloc_past _ _ _ hlh).trans q4
          have b3 : ∀ o, (wr.alloc o).cell? ⟨hg, k, none⟩ = some (.string T) := fun o => (World.cell?_alloc_lt _ _ _ hlh).trans q3
          have b4 : ∀ o, (wr.alloc o).frozen? ⟨hg, k, none⟩ = false := fun o => (World.frozen?_alloc_past _ _ _ hlh).trans q4
          have HSA : Hid (∀ o, (wr.drew.alloc o).cell? ⟨rb, 0, none⟩ = some (.slice (some ⟨hg, 0, none⟩) n hc)) := Lib.hid fun o => (World.cell?_alloc_lt _ _ _ hlr).trans c0
          have HSB : Hid (∀ o u, ((wr.drew.alloc o).setCell ⟨hg, k, none⟩ u).cell? ⟨rb, 0, none⟩ = some (.slice (some ⟨hg, 0, none⟩) n hc)) := Lib.hid fun o u => (World.cell?_setCell_other _ ⟨hg, k, none⟩ ⟨rb, 0, none⟩ u (fun e => hne (by injection e))).trans ((World.cell?_alloc_lt _ _ _ hlr).trans c0)
          obtain ⟨S, hS⟩ : ∃ S, str (List.replicate 128 (0 : UInt8)) = S := ⟨_, rfl⟩
          have HNO : Hid (∀ w : World, Calls Try.prog 32 #[] w fun e w' => e = .returned (.string S) ∧ w' = w.alloc (.cells cells128 5)) := Lib.hid fun w => by rw [← hS]; exact Noughts_any w
          have HS := Lib.hid hS
          clear hhas hT hlh hlr hne hS
          go_wp2_with fail
          go_region_held3 (fun w' => w'.cell? ⟨rb, 0, none⟩ = some (.slice (some ⟨hg, 0, none⟩) n hc)) (first | exact c0 | exact HSA.out _ | exact HSB.out _ _)
            (first | (go_at_call 32; (with_reducible refine (HNO.out _).mono ?_); rintro e w3 ⟨rfl, rfl⟩))
          have hput := ((HK.out.1.drew).alloc (.cells cells128 5)).putText HHV.out k (List.replicate 128 0) (by show k < D1.n; rw [HNN.out]; exact hlt) (by simp)
          rw [HS.out] at hput
          have HK2 : Hid (RefAt ((wr.drew.alloc (.cells cells128 5)).setCell ⟨hg, k, none⟩ (.string S)) base rb hv fv lv { D1 with has := zer D1.n D1.has (k + 1) } ∧ Fr (FootR rb hv fv lv) w1 ((wr.drew.alloc (.cells cells128 5)).setCell ⟨hg, k, none⟩ (.string S))) := by
            rw [zer_succ]
            exact ⟨hput.1, (HK.out.2.drew.alloc _).trans hput.2 fun j hj => .inl hj⟩
          clear hput a3 a4 b3 b4
          go_wp2_with fail
          go_roundw
          case rel => exact ⟨k + 1, by omega, by go_num, HK2⟩
          case measure => simp [intOf]; omega
        · obtain rfl : k = n := by omega
          have c2 := HK.out.1.c2
          obtain ⟨A, cp, hlv, _, _⟩ := own_len HK.out.1.pen
          rw [hlv] at c2
          have f2' := HK.out.1.fz 2
          clear hlv
          go_wp2_with fail
          go_ret
          refine ⟨rfl, ?_⟩
          rw [HF.out, if_pos HE1.out]
          have hz := RefAt.has_congr (H' := fun _ => List.replicate 128 0) HK.out.1 (fun _ => by simp) (fun i hi => by unfold zer; rw [if_pos (by rw [← HNN.out]; exact hi)])
          have hd := hz.drop
          exact .of ⟨hd.1, (HFR.out.trans HK.out.2 fun j hj => .inl hj).trans hd.2 fun j hj => .inl hj⟩
  · have e1 : startE D = 10 := HE.out
    have HE1 := Lib.hid e1
    rw [e1]
    clear e1
    go_enter Try.func27, Try.ntmps27
    go_wp2_with fail
    refine (fails_any _ HH.out).mono ?_
    rintro e w1 ⟨rfl, hr, hfr⟩
    rw [HFB.out]
    rw [HD1.out] at hr
    have HR := Lib.hid hr
    have HFR := Lib.hid hfr
    clear hr hfr
    go_wp2
    go_ret
    exact ⟨rfl, by rw [HF.out, if_neg (by rw [HE1.out]; omega)]; exact .of ⟨HR.out, HFR.out⟩⟩

/-! ### Crash -/
theorem execX_stop (P : List (Nat × List UInt8)) (far : List Int) (H : Nat → List UInt8) (m : Nat) (h : far.length ≤ m) : ∀ j, execX P (farN far) H (m + j) = execX P (farN far) H m
  | 0 => rfl
  | j + 1 => by
    rw [← Nat.add_assoc, execX]
    cases hp : P[m + j]? with
    | none => exact execX_stop P far H m h j
    | some p =>
      have e : farN far (m + j) = 0 := by unfold farN; rw [List.getElem?_eq_none (by omega)]
      simp only [e, List.take_zero, upd_nil]
      exact execX_stop P far H m h j
theorem cut_text (b h : List UInt8) (d : Nat) (hb : b.length = 128) (hh : h.length = 128) (hd : d ≤ 128) : (str b).extract 0 d ++ (str h).extract d 128 = str (b.take d ++ h.drop d) := by
  apply ByteArray.ext
  apply Array.ext'
  simp [str]
  rw [List.take_of_length_le (by simp [hh])]

set_option maxRecDepth 100000 in
set_option maxHeartbeats 4000000 in
theorem refCrash_any {base rb : Nat} {hv fv lv : Value} {D : Dv} (A : Option Addr) (c B : Nat) (far : List Int) (w : World) (h : RefAt w base rb hv fv lv D) (hpl : D.pend.length ≤ 1000) (hfl : far.length ≤ 9223372036854775807) (hr : ∀ w', Fr (FootR rb hv fv lv) w w' → Rd w' B A (far.map iv)) :
    Calls Try.prog 20 #[.pointer (some ⟨rb, 0, none⟩), .slice A far.length c] w fun e w' => e = .returned (.tuple #[]) ∧ TurnR base rb w hv fv lv w' (crashD D far) := by
  have HR0 : Hid (RefAt w base rb hv fv lv { D with has := execX D.pend (farN far) D.has 0 } ∧ Fr (FootR rb hv fv lv) w w) := ⟨h, Fr.refl _ _⟩
  have HFAR := Lib.hid hr
  obtain ⟨hg, hc, hhv, _, _⟩ := own_addr h.has h.ok.n1
  obtain ⟨Al, cp, hlv, _, _⟩ := own_len h.pen
  obtain ⟨n, hnn⟩ : ∃ n, D.pend.length = n := ⟨_, rfl⟩
  obtain ⟨fn, hfn⟩ : ∃ fn, far.length = fn := ⟨_, rfl⟩
  rw [hnn] at hlv hpl
  rw [hfn] at hfl ⊢
  have HHV := Lib.hid hhv
  have HLV := Lib.hid hlv
  have HNN := Lib.hid hnn
  have HFN := Lib.hid hfn
  have HOK := Lib.hid h.ok
  have hn2 := h.ok.n2
  clear h hr hnn hlv hhv hfn
  go_enter Try.func20, Try.ntmps20
  go_wp2_with fail
  go_loopw [4] (fun x wr => ∃ k : Nat, k ≤ n ∧ k ≤ fn ∧ x = .int .i64 (k : Int) ∧ Hid (RefAt wr base rb hv fv lv { D with has := execX D.pend (farN far) D.has k } ∧ Fr (FootR rb hv fv lv) w wr)) (fun x _ => n - (intOf x).toNat)
  case atStart => exact ⟨0, Nat.zero_le _, Nat.zero_le _, rfl, HR0⟩
  case round =>
    clear HR0
    obtain ⟨k, hk, hkf, rfl, HK⟩ := hrel
    have c2 := HK.out.1.c2
    rw [HLV.out] at c2
    by_cases hgo : k < n ∧ k < fn
    · obtain ⟨hlt, hltf⟩ := hgo
      obtain ⟨q, hq⟩ : ∃ q, D.pend[k]? = some q := ⟨_, List.getElem?_eq_getElem (by rw [HNN.out]; exact hlt)⟩
      obtain ⟨hqn, hql⟩ := HOK.out.pend q (List.mem_of_getElem? hq)
      obtain ⟨x, hx⟩ : ∃ x, far[k]? = some x := ⟨_, List.getElem?_eq_getElem (by rw [HFN.out]; exact hltf)⟩
      obtain ⟨fb, fo, rfl, _, hfc⟩ := (HFAR.out wr HK.out.2).plain (by simp; rw [HFN.out]; omega)
      have hcx := hfc k (iv x) (by simp [hx])
      unfold iv at hcx
      have c0 := HK.out.1.c0
      rw [HHV.out] at c0
      obtain ⟨w1', w2'⟩ := wcells_at _ _ _ hq
      have hpen : wr.ownsRow base 72 2 (.slice Al n cp) n (wcells D.pend) := by
        have := HK.out.1.pen
        rw [HLV.out] at this
        have e : ({ D with has := execX D.pend (farN far) D.has k } : Dv).pend.length = n := HNN.out
        rw [e] at this
        exact this
      obtain ⟨lg, lc, hA, _, _⟩ := own_addr hpen (by omega)
      injection hA with hA1 _ _
      subst hA1
      have q1 := (hpen.cellAt (k * 2) (by omega)).trans w1'
      have q2 := (hpen.cellAt (k * 2 + 1) (by omega)).trans w2'
      have hhas : wr.ownsRow base 9 1 (.slice (some ⟨hg, 0, none⟩) D.n hc) D.n (strs D.n (execX D.pend (farN far) D.has k)) := by
        have := HK.out.1.has
        rw [HHV.out] at this
        exact this
      have hfx : farN far k = (min (max x 0) 128).toNat := by unfold farN; rw [hx]
      have HST : Hid (execX D.pend (farN far) D.has (k + 1) = upd (execX D.pend (farN far) D.has k) q.1 (q.2.take (farN far k))) := by show _ = _; rw [execX, hq]
      have HLEN := Lib.hid (execX_length (dn := farN far) (fun p hp => (HOK.out.pend p hp).2) HOK.out.has k)
      obtain ⟨a, b⟩ := q
      simp only at hqn hql q1 q2
      have q3 := (hhas.cellAt a (by omega)).trans (strs_at _ _ _ hqn)
      have q4 := hhas.frozenAt a
      obtain ⟨U, hU⟩ : ∃ U, str b = U := ⟨_, rfl⟩
      rw [hU] at q2
      have HU := Lib.hid hU
      obtain ⟨T, hT⟩ : ∃ T, str (execX D.pend (farN far) D.has k a) = T := ⟨_, rfl⟩
      rw [hT] at q3
      have HT := Lib.hid hT
      have hUs : U.size = 128 := by rw [← hU, str_size, hql]
      have hTs : T.size = 128 := by rw [← hT, str_size, HLEN.out]
      have HQN := Lib.hid hqn
      have HQL := Lib.hid hql
      have HFX := Lib.hid hfx
      have hqi : (a : Int) < (D.n : Int) := by omega
      clear hq w1' w2' hpen hhas hU hT hqn hql hfc hx hfx
      by_cases hx0 : x ≤ 0
      · have hd1 : decide (x > 128) = false := by simp; omega
        have hd2 : decide (x > 0) = false := by simp; omega
        have HK2 : Hid (RefAt wr base rb hv fv lv { D with has := execX D.pend (farN far) D.has (k + 1) } ∧ Fr (FootR rb hv fv lv) w wr) := by
          rw [HST.out, HFX.out, show (min (max x 0) 128).toNat = 0 by omega, List.take_zero, upd_nil]
          exact HK.out
        go_wp2_with fail
        go_roundw
        case rel => exact ⟨k + 1, by omega, by omega, by go_num, HK2⟩
        case measure => simp [intOf]; omega
      · obtain ⟨d, hd⟩ : ∃ d : Nat, (min (max x 0) 128) = (d : Int) := ⟨(min (max x 0) 128).toNat, by omega⟩
        have hd1 : d ≤ 128 := by omega
        have hd0 : 0 < d := by omega
        have hds : (x = (d : Int) ∧ decide (x > 128) = false) ∨ (d = 128 ∧ decide (x > 128) = true) := by
          by_cases h : 128 < x
          · exact .inr ⟨by omega, by simpa using h⟩
          · exact .inl ⟨by omega, by simp; omega⟩
        have hput0 := HK.out.1.drew.putText HHV.out a (b.take d ++ (execX D.pend (farN far) D.has k a).drop d) HQN.out (by have := HLEN.out a; have := HQL.out; simp; omega)
        have hcat : U.extract 0 d ++ T.extract d 128 = str (b.take d ++ (execX D.pend (farN far) D.has k a).drop d) := by rw [← HU.out, ← HT.out]; exact cut_text _ _ _ HQL.out (HLEN.out a) hd1
        rw [← hcat] at hput0
        have hset : setH (execX D.pend (farN far) D.has k) a (b.take d ++ (execX D.pend (farN far) D.has k a).drop d) = execX D.pend (farN far) D.has (k + 1) := by
          rw [HST.out, HFX.out, show (min (max x 0) 128).toNat = d by omega]
          funext j
          unfold setH
          by_cases h : j = a
          · subst h; simp only [if_true]; rw [upd_same, show (b.take d).length = d by rw [List.length_take, HQL.out]; omega]
          · simp only; rw [if_neg h, upd_other _ _ h]
        rw [hset] at hput0
        have HPUT := Lib.hid hput0
        have hd2 : decide (x > 0) = true := by simp; omega
        have hd3 : (0 : Int) < (d : Int) := by omega
        have hd4 : (d : Int) ≤ 128 := by omega
        clear hput0 hset hcat hd hx0
        rcases hds with ⟨hxd, hgt⟩ | ⟨hxd, hgt⟩
        all_goals
          subst hxd
          go_wp2_with fail
          refine wp_region_still_tail 26 (by kernel_rfl) (by kernel_rfl) ?_
          simp only [List.take_succ_cons, List.take_zero, List.drop_succ_cons, List.drop_zero]
          change wpStill _ _ wr.drew _ _ _
          iterate 26 still_step
          refine wpStill_nil ?_
          change wpList _ _ _ _ _ wr.drew
          go_wp2_with fail
          have hp := HPUT.out
          first
            | (rw [show U.extract 0 128 ++ T.extract 128 128 = U.extract 0 128 by simp] at hp)
            | skip
          refine ⟨⟨k + 1, by omega, by omega, by go_num, ⟨hp.1, HK.out.2.drew.trans hp.2 fun j hj => .inl hj⟩⟩, by simp [intOf]; omega⟩
    · have hstop : execX D.pend (farN far) D.has k = execX D.pend (farN far) D.has n := by
        by_cases h : k = n
        · rw [h]
        · have e : k = fn := by omega
          rw [show n = k + (n - k) by omega]
          exact (execX_stop D.pend far D.has k (by rw [HFN.out]; omega) (n - k)).symm
      have HSTOP := Lib.hid hstop
      have hout : (k < n ∧ ¬ k < fn) ∨ ¬ k < n := by
        by_cases h : k < n
        · exact .inl ⟨h, by omega⟩
        · exact .inr h
      have f2' := HK.out.1.fz 2
      have c4 := HK.out.1.c4
      have f4 := HK.out.1.fz 4
      clear hstop hgo
      rcases hout with ⟨hlt, h20⟩ | hlt
      all_goals
        go_wp2_with fail
        go_end0
        have hd := HK.out.1.drop
        have hp := hd.1.put (D' := crashD D far) 4 (.bool true) (hd.1.ok.pows _ |> fun h => (by
          have e : ({ ({ D with has := execX D.pend (farN far) D.has k, pend := [] } : Dv) with pow := false } : Dv) = crashD D far := by unfold crashD execD; rw [HSTOP.out, HNN.out]
          rw [← e]; exact h)) rfl (by show execX D.pend (farN far) D.has D.pend.length = _; rw [HNN.out, ← HSTOP.out]) rfl rfl rfl
        have hf : ∀ j, FootR rb hv fv (.slice none 0 0) j → FootR rb hv fv lv j := fun j hj => by
          rcases hj with hj | hj | hj | hj
          · exact .inl hj
          · exact .inr (.inl hj)
          · exact .inr (.inr (.inl hj))
          · simp [Value.ownBlock] at hj
        exact ⟨rfl, .of ⟨hp.1, (HK.out.2.trans hd.2 fun j hj => .inl hj).trans hp.2 fun j hj => .inl (hf j hj)⟩⟩
end Go.Proofs.Ytpjdnbmeedcafaa
