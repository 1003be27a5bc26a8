/-
  Is a device as the document's? Both hold the same.
-/
import Derived.Test.YtpjdnbmeedcafaaRef5
import Derived.Test.YtpjdnbmeedcafaaDevLaw
import Derived.BigQuiet
import Derived.Deep.LoopGhost
import Derived.Deep.DeepCutAuto
import Derived.Deep.CutRange
namespace Go.Proofs.Ytpjdnbmeedcafaa
open Go.RowKit
set_option linter.unusedVariables false

structure Sm (w0 : World) (base sb bb mb : Nat) (pv : Value) (rb : Nat) (hv fv lv : Value) (D : Dv) (A : Option Addr) (w : World) : Prop where
  dev : DevAt w base sb bb mb pv D
  ref : RefAt w base rb hv fv lv D
  rd : Rd w w.heap.size A (ats D.pend)
  below : Below w0.heap.size w0 w
section
variable {w0 : World} {base sb bb mb : Nat} {pv : Value} {rb : Nat} {hv fv lv : Value} {D : Dv} {A : Option Addr} {w : World}
theorem Sm.drewN (h : Sm w0 base sb bb mb pv rb hv fv lv D A w) (m : Nat) : Sm w0 base sb bb mb pv rb hv fv lv D A (w.drewN m) :=
  ⟨h.dev.keep fun _ _ => rfl, h.ref.keep fun _ _ => rfl, h.rd.drewN m, h.below.drewN' m⟩
theorem Sm.alloc (h : Sm w0 base sb bb mb pv rb hv fv lv D A w) (o : Obj) : Sm w0 base sb bb mb pv rb hv fv lv D A (w.alloc o) :=
  have hb : Below w.heap.size w (w.alloc o) := (Below.refl _ _).alloc (Nat.le_refl _) o
  ⟨h.dev.up hb, h.ref.up hb, (h.rd.below hb).mono hb.size, h.below.trans (hb.mono h.below.size)⟩
end
theorem ats_at {l : List (Nat × List UInt8)} {k : Nat} {p : Nat × List UInt8} (h : l[k]? = some p) : (ats l)[k]? = some (.int .i64 (p.1 : Int)) := by
  unfold ats; rw [List.getElem?_map, h]; rfl

set_option maxHeartbeats 1000000 in
theorem same_any {base sb bb mb rb : Nat} {pv hv fv lv : Value} {D : Dv} (w : World) (h : DevAt w base sb bb mb pv D) (hr : RefAt w base rb hv fv lv D) (hpl : D.pend.length ≤ 1000) :
    Calls Try.prog 29 #[.pointer (some ⟨sb, 0, none⟩), .pointer (some ⟨rb, 0, none⟩)] w fun e w' => e = .returned (.bool true) ∧ Below w.heap.size w w' := by
  obtain ⟨hg, hc, rfl, hnc, hcm⟩ := own_addr hr.has h.ok.n1
  obtain ⟨AL, cl, rfl, hlc, hlm⟩ := own_len hr.pen
  obtain ⟨n, hn⟩ : ∃ n, D.n = n := ⟨_, rfl⟩
  obtain ⟨m, hm⟩ : ∃ m, D.pend.length = m := ⟨_, rfl⟩
  have HP := Lib.hid hpl
  have n2 := h.ok.n2
  rw [hn] at n2
  rw [hn, hm] at hr
  rw [hm] at hpl
  have HDEV := Lib.hid h
  have HREF := Lib.hid hr
  have HN := Lib.hid hn
  have HM := Lib.hid hm
  clear h hr hnc hcm hlc hlm hn hm
  go_enter Try.func29, Try.ntmps29
  go_wp2_with fail
  refine (Waits_any _ HDEV.out HP.out).mono ?_
  rintro e w1 ⟨A, c, rfl, hc1, hc2, hrd, hb⟩
  rw [HM.out]
  have HS : Hid (Sm w base sb bb mb pv rb (.slice (some ⟨hg, 0, none⟩) n hc) fv (.slice AL m cl) D A w1) := ⟨HDEV.out.up hb, HREF.out.up hb, hrd, hb⟩
  have r0 := HS.out.ref.c0
  have r2 := HS.out.ref.c2
  have r4 := HS.out.ref.c4
  have r5 := HS.out.ref.c5
  obtain ⟨po, hpo⟩ : ∃ p, D.pow = p := ⟨_, rfl⟩
  obtain ⟨mo, hmo⟩ : ∃ p, D.mnt = p := ⟨_, rfl⟩
  rw [hpo] at r4
  rw [hmo] at r5
  have HPO := Lib.hid hpo
  have HMO := Lib.hid hmo
  have HSZ : Hid (∀ j, Calls Try.prog 42 #[.pointer (some ⟨sb, 0, none⟩)] (w1.drewN j) fun e w' => e = .returned (.int .i64 n) ∧ w' = w1.drewN j) := Lib.hid fun j => (Size_any _ (HS.out.drewN j).dev).mono fun e w' ⟨he, hw⟩ => ⟨by rw [he, HN.out], hw.symm⟩
  have HPW : Hid (∀ j, Calls Try.prog 30 #[.pointer (some ⟨sb, 0, none⟩)] (w1.drewN j) fun e w' => e = .returned (.bool po) ∧ w' = w1.drewN j) := Lib.hid fun j => (Power_any _ (HS.out.drewN j).dev).mono fun e w' ⟨he, hw⟩ => ⟨by rw [he, HPO.out], hw.symm⟩
  have HMT : Hid (∀ j, Calls Try.prog 43 #[.pointer (some ⟨sb, 0, none⟩)] (w1.drewN j) fun e w' => e = .returned (.bool mo) ∧ w' = w1.drewN j) := Lib.hid fun j => (Mounted_any _ (HS.out.drewN j).dev).mono fun e w' ⟨he, hw⟩ => ⟨by rw [he, HMO.out], hw.symm⟩
  clear hc1 hc2 hrd hb hpo hmo
  go_upto_region 2 with fail
  go_cut [47] from 12 to 47 (fun s wc => s = .bool false ∧ Hid (∃ j : Nat, wc = w1.drewN j))
  case first =>
    cases po <;> cases mo
    all_goals
      go_quiet (first
        | (go_at_call 42; exact Calls.quiet_of_same (HSZ.out _))
        | (go_at_call 30; exact Calls.quiet_of_same (HPW.out _))
        | (go_at_call 43; exact Calls.quiet_of_same (HMT.out _)))
      go_wp2_with fail
      go_meet
      exact ⟨rfl, ⟨nq, rfl⟩⟩
  case rest =>
    clear r0 r2 r4 r5
    obtain ⟨rfl, hj⟩ := hcut
    have HS2 : Hid (Sm w base sb bb mb pv rb (.slice (some ⟨hg, 0, none⟩) n hc) fv (.slice AL m cl) D A wc) := by
      obtain ⟨j, hj⟩ := hj.out
      rw [hj]; exact HS.out.drewN j
    clear HS HSZ HPW HMT hj
    go_wp2_with fail
    go_loopw [6] (fun x wr => ∃ k : Nat, k ≤ m ∧ x = .int .i64 (k : Int) ∧ Hid (Sm w base sb bb mb pv rb (.slice (some ⟨hg, 0, none⟩) n hc) fv (.slice AL m cl) D A wr)) (fun x _ => m - (intOf x).toNat)
    case atStart => exact ⟨0, Nat.zero_le _, rfl, HS2⟩
    case round =>
      clear HS2
      obtain ⟨k, hk, rfl, HS⟩ := hrel
      by_cases hlt : k < m
      · obtain ⟨q, hq⟩ : ∃ q, D.pend[k]? = some q := ⟨_, List.getElem?_eq_getElem (by rw [HM.out]; exact hlt)⟩
        obtain ⟨ab, ao, rfl, _, ha⟩ := HS.out.rd.plain (by unfold ats; rw [List.length_map, HM.out]; omega)
        obtain ⟨lb, lo, rfl, _, hl⟩ := (Rd.own (HM.out ▸ HS.out.ref.pen)).plain (by rw [wcells_length, HM.out]; omega)
        have q1 := ha _ _ (ats_at hq)
        have q2 := hl _ _ (wcells_at _ _ _ hq).1
        have r2 := HS.out.ref.c2
        obtain ⟨z, hz⟩ : ∃ z : Int, (q.1 : Int) = z := ⟨_, rfl⟩
        rw [hz] at q1 q2
        have hki : (k : Int) < (m : Int) := by omega
        clear ha hl hq hz
        go_upto_region 7 with fail
        go_quiet (fail)
        have HS3 := Lib.hid (HS.out.drewN nq)
        go_wp2_with fail
        go_roundw
        case rel => exact ⟨k + 1, by omega, by go_num, HS3⟩
        case measure => simp [intOf]; omega
      · obtain rfl : k = m := by omega
        obtain ⟨wo, hwo⟩ : ∃ wo : World, wo = wr := ⟨_, rfl⟩
        subst hwo
        have r0 := HS.out.ref.c0
        go_wp2_with fail
        clear r0
        go_loopw [7] (fun x wr => ∃ j : Nat, j ≤ n ∧ j ≤ 400 ∧ x = .int .i64 (j : Int) ∧ Hid (Sm w base sb bb mb pv rb (.slice (some ⟨hg, 0, none⟩) n hc) fv (.slice AL k cl) D A wr)) (fun x _ => 400 - (intOf x).toNat)
        case atStart => exact ⟨0, Nat.zero_le _, by omega, rfl, HS⟩
        case round =>
          clear HS
          obtain ⟨j, hj, hj400, rfl, HS⟩ := hrel
          have r0 := HS.out.ref.c0
          by_cases hgo : j < n ∧ j < 400
          · obtain ⟨hjn, hj4⟩ := hgo
            have hjn' : (j : Int) < (n : Int) := by omega
            have hj4' : (j : Int) < 400 := by omega
            go_wp2_with fail
            refine (Has_yes j _ HS.out.dev (by rw [HN.out]; exact hjn)).mono ?_
            rintro e w8 ⟨rfl, hw8⟩
            obtain ⟨g8, hg8⟩ : ∃ g, wr.heap.size = g := ⟨_, rfl⟩
            have HS8 : Hid (Sm w base sb bb mb pv rb (.slice (some ⟨hg, 0, none⟩) n hc) fv (.slice AL k cl) D A w8) := by rw [hw8]; exact HS.out.alloc _
            have hk8 : Bk w8 g8 67 ((D.has j).map bv).toArray := by rw [hw8, ← hg8]; exact Bk.new _ _ _
            obtain ⟨S, hS⟩ : ∃ S, str (D.has j) = S := ⟨_, rfl⟩
            have hhas := HS8.out.ref.has
            rw [HN.out] at hhas
            have hh := (hhas.cellAt j (by omega)).trans (strs_at _ _ _ hjn)
            clear hhas
            rw [hS] at hh
            have hcv : ∀ i : Nat, (convert 33 9 (.slice (some ⟨g8, 0, none⟩) 128 128)).run Try.prog (w8.drewN i) = .ok (.string S) (w8.drewN i) := fun i => by
              rw [← hS]; exact conv_out _ _ _ (HS8.out.dev.ok.has j) (hk8.drewN i)
            have r8 := HS8.out.ref.c0
            rw [hg8]
            clear hw8 hg8 hk8 hS r0 HS
            go_upto_region 13 with fail
            go_quiet (fail)
            have HS9 := Lib.hid (HS8.out.drewN nq)
            go_wp2_with fail
            go_roundw
            case rel => exact ⟨j + 1, by omega, by omega, by go_num, HS9⟩
            case measure => simp [intOf]; omega
          · have hout : (j < n ∧ decide ((j : Int) < 400) = false) ∨ ¬ j < n := by
              by_cases h : j < n
              · exact .inl ⟨h, by simp; omega⟩
              · exact .inr h
            rcases hout with ⟨hjn, hj4⟩ | hjn
            all_goals
              go_wp2_with fail
              go_ret
              exact ⟨rfl, HS.out.below⟩
end Go.Proofs.Ytpjdnbmeedcafaa
