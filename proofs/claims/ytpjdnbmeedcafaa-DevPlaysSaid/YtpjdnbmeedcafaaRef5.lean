/-
  New of the document's own device.
-/
import Derived.Test.YtpjdnbmeedcafaaRef4
import Derived.Test.YtpjdnbmeedcafaaRegSt
namespace Go.Proofs.Ytpjdnbmeedcafaa
open Go.RowKit
set_option linter.unusedVariables false

def nz : Nat → List UInt8 := fun _ => List.replicate 128 0
/-- the document's device while it is made -/
structure NewAt (w : World) (base rb : Nat) (hv fv : Value) (k : Nat) : Prop where
  cel : Bk w rb 47 #[hv, fv, .slice none 0 0, .int .i64 (-1), .bool false, .bool false]
  has : w.ownsRow base 9 1 hv k (strs k nz)
  flt : w.ownsRow base 3 1 fv k (flts k fun _ => 0)
  brb : base ≤ rb
theorem NewAt.apart {w : World} {base rb : Nat} {hv fv : Value} {k : Nat} (h : NewAt w base rb hv fv k) : hv.ownBlock ≠ some rb ∧ fv.ownBlock ≠ some rb ∧ (∀ j, hv.ownBlock = some j → fv.ownBlock ≠ some j) := by
  refine ⟨fun e => ?_, fun e => ?_, fun j e e' => ?_⟩
  · obtain ⟨_, _, cs, hb⟩ := own_lt h.has e; exact hb.ne h.cel (by decide) rfl
  · obtain ⟨_, _, cs, hb⟩ := own_lt h.flt e; exact hb.ne h.cel (by decide) rfl
  · obtain ⟨_, _, cs, hb⟩ := own_lt h.has e; obtain ⟨_, _, cs', hb'⟩ := own_lt h.flt e'; exact hb.ne hb' (by decide) rfl
theorem NewAt.keep {w w' : World} {base rb : Nat} {hv fv : Value} {k : Nat} (h : NewAt w base rb hv fv k) (hb : Below w.heap.size w w') : NewAt w' base rb hv fv k :=
  ⟨h.cel.below hb h.cel.lt, own_keep h.has fun j hj => hb.block j (own_lt h.has hj).2.1, own_keep h.flt fun j hj => hb.block j (own_lt h.flt hj).2.1, h.brb⟩
def waits5 : Nat → List Nat
  | 2 => [1]
  | 3 => [2]
  | 4 => [3]
  | 6 => [5]
  | 7 => [4, 6]
  | 8 => [0]
  | 9 => [8]
  | 10 => [7, 9]
  | _ => []
theorem info_str5 : (Try.prog.info? 9).map (fun i => (i.zero, i.size, i.bytes)) = some (some (.string ByteArray.empty), 1, 16) := by kernel_rfl

set_option maxRecDepth 100000 in
set_option maxHeartbeats 4000000 in
theorem refNew_any (n : Nat) (w : World) (h1 : 1 ≤ n) (h2 : n ≤ 8192) :
    Calls Try.prog 10 #[.int .i64 n] w fun e w' => ∃ rb hv fv, e = .returned (.pointer (some ⟨rb, 0, none⟩)) ∧ RefAt w' w.heap.size rb hv fv (.slice none 0 0) (newD n) ∧ Below w.heap.size w w' := by
  obtain ⟨S, hS⟩ : ∃ S, str (List.replicate 128 (0 : UInt8)) = S := ⟨_, rfl⟩
  have HNO : Hid (∀ w : World, Calls Try.prog 32 #[] w fun e w' => e = .returned (.string S) ∧ w' = w.alloc (.cells cells128 5)) := Lib.hid fun w => by rw [← hS]; exact Noughts_any w
  have HS := Lib.hid hS
  obtain ⟨i0, hi', hz0', hz1', hz2'⟩ := info_parts info_str5
  have si := Lib.hid hi'
  have sz0 := Lib.hid hz0'
  have sz1 := Lib.hid hz1'
  have sz2 := Lib.hid hz2'
  obtain ⟨j0, hi'', hz0'', hz1'', hz2''⟩ := info_parts info_int3
  have ji := Lib.hid hi''
  have jz0 := Lib.hid hz0''
  have jz1 := Lib.hid hz1''
  have jz2 := Lib.hid hz2''
  clear hS hi' hz0' hz1' hz2' hi'' hz0'' hz1'' hz2''
  go_enter Try.func10, Try.ntmps10
  go_wp2_with fail
  obtain ⟨w0, hw0⟩ : ∃ w0, w.alloc (.cells #[.slice none 0 0, .slice none 0 0, .slice none 0 0, .int .i64 (-1), .bool false, .bool false] 47) = w0 := ⟨_, rfl⟩
  rw [hw0]
  have HA0 : Hid (NewAt w0 w.heap.size w.heap.size (.slice none 0 0) (.slice none 0 0) 0) := by rw [← hw0]; exact ⟨Bk.new _ _ _, World.ownsRow_nil _ _ _ _, World.ownsRow_nil _ _ _ _, Nat.le_refl _⟩
  have HB0 : Hid (Below w.heap.size w w0) := by rw [← hw0]; exact (Below.refl _ _).alloc (Nat.le_refl _) _
  obtain ⟨rb, hrb⟩ : ∃ rb, w.heap.size = rb := ⟨_, rfl⟩
  have HRB := Lib.hid hrb
  rw [hrb] at HA0 ⊢
  clear hw0 hrb
  go_loopw [4] (fun x wr => ∃ (k : Nat) (hv fv : Value), k ≤ n ∧ x = .int .i64 (k : Int) ∧ Hid (NewAt wr rb rb hv fv k) ∧ Hid (Below w.heap.size w wr)) (fun x _ => n - (intOf x).toNat)
  case atStart => exact ⟨0, _, _, Nat.zero_le _, rfl, HA0, HB0⟩
  case round =>
    clear HA0 HB0
    obtain ⟨k, hv, fv, hk, rfl, HN, HB⟩ := hrel
    have hsz := HB.out.size
    have hszr : rb ≤ wr.heap.size := by rw [← HRB.out]; exact hsz
    by_cases hlt : k < n
    · obtain ⟨A, cp, rfl, _, _⟩ := own_len HN.out.has
      obtain ⟨B, cq, rfl, _, _⟩ := own_len HN.out.flt
      have hcel := HN.out.cel
      have hlr := hcel.lt
      obtain ⟨z, hz⟩ : ∃ z, wr.heap.size = z := ⟨_, rfl⟩
      have HZ := Lib.hid hz
      obtain ⟨v', w3, hrun, hown3, hgr3, _, _⟩ := run_append_own_at (P := Try.prog) ((wr.drew.alloc (.cells cells128 5)).alloc (.cells #[.string S] 9)) rb 44 44 9 i0 _ 1 16 Try.underlying44 si.out sz0.out sz1.out sz2.out rfl (by decide) (.slice A k cp) k (strs k nz) ((HN.out.has.drew.alloc _).alloc _) ⟨z + 1, 0, none⟩ 1 1 [.string S] rfl (by
        intro j u hj
        match j, hj with
        | 0, hj =>
          simp at hj; subst hj
          have e : z + 1 = (wr.drew.alloc (.cells cells128 5)).heap.size := by rw [← hz]; simp
          rw [add_plain, e, cell_of_row _ _ _ _ _ _ (heap_alloc_new _ _)]; rfl) (by intro u hu; simp at hu; subst hu; rfl) (by unfold maxLen; omega) (by omega) (by simp; omega)
      have HRUN := Lib.hid hrun
      have HOWN3 := Lib.hid hown3
      have HGR3 := Lib.hid hgr3
      obtain ⟨A2, cp2, hv2, _, _⟩ := own_len hown3
      have HV2 := Lib.hid hv2
      have hap := HN.out.apart
      have hbl : w3.heap[rb]? = wr.heap[rb]? := (hgr3.block rb (by simp; omega) (fun e => hap.1 e.symm)).trans ((Below.heap_alloc _ _ rb (by simp; omega)).trans (Below.heap_alloc wr.drew _ rb hlr))
      have hc3 : w3.cell? ⟨rb, 0, none⟩ = some (.slice A k cp) := (World.cell?_of_block (w := wr) (a := ⟨rb, 0, none⟩) hbl).trans (hcel.cell 0)
      have hf3 : w3.frozen? ⟨rb, 0, none⟩ = false := (World.frozen?_of_block (w := wr) (a := ⟨rb, 0, none⟩) hbl).trans (hcel.free 0)
      have HCEL3 : Hid (Bk w3 rb 47 #[.slice A k cp, .slice B k cq, .slice none 0 0, .int .i64 (-1), .bool false, .bool false]) := hbl.trans hcel
      have HFLT3 : Hid (w3.ownsRow rb 3 1 (.slice B k cq) k (flts k fun _ => 0)) := own_keep HN.out.flt fun j hj => (hgr3.block j (by have := (own_lt HN.out.flt hj).2.1; simp; omega) (fun e => hap.2.2 j e.symm hj)).trans ((Below.heap_alloc _ _ j (by have := (own_lt HN.out.flt hj).2.1; simp; omega)).trans (Below.heap_alloc wr.drew _ j (own_lt HN.out.flt hj).2.1))
      have HB3 : Hid (Below w.heap.size w w3) := ((HB.out.drew.alloc hsz _).alloc (by simp; omega) _).grown hgr3 (by simp; omega) (fun g hg => by rw [HRB.out]; exact (own_lt HN.out.has hg).1)
      obtain ⟨Wd, hWd⟩ : ∃ Wd : (Nat → Bool) → World, Wd = fun L => if L 10 then w3.setCell ⟨rb, 0, none⟩ v' else if L 7 then w3 else if L 6 then (wr.drew.alloc (.cells cells128 5)).alloc (.cells #[.string S] 9) else if L 5 then wr.drew.alloc (.cells cells128 5) else wr.drew := ⟨_, rfl⟩
      have HCW : Hid (∀ (L : Nat → Bool) (w_ : World), w_ = Wd L → L 10 = false → L 7 = false → w_.cell? ⟨rb, 0, none⟩ = some (.slice A k cp)) := Lib.hid fun L w_ hw h10 h7 => by
        have hc0 : wr.drew.cell? ⟨rb, 0, none⟩ = some (.slice A k cp) := hcel.cell 0
        rw [hw, hWd]
        simp only [h10, h7]
        cases L 6
        · cases L 5
          · exact hc0
          · exact (World.cell?_alloc_lt _ _ _ hlr).trans hc0
        · exact (World.cell?_alloc_lt _ _ _ (by simp; omega)).trans ((World.cell?_alloc_lt _ _ _ hlr).trans hc0)
      have HPURE : Hid (∀ (i_ : Nat) (L : Nat → Bool) (w_ : World), (i_ ≠ 5 ∧ i_ ≠ 6 ∧ i_ ≠ 7 ∧ i_ ≠ 10) → w_ = Wd L → w_ = Wd (setL L i_)) := Lib.hid fun i_ L w_ h hw => by
        rw [hw, hWd]
        simp only [setL_other L (Ne.symm h.1), setL_other L (Ne.symm h.2.1), setL_other L (Ne.symm h.2.2.1), setL_other L (Ne.symm h.2.2.2)]
      clear hrun hown3 hgr3 hv2 hap hbl hcel hlr hz
      go_wp2_with fail
      obtain ⟨V, hV⟩ : ∃ V : Nat → Value, V = fun ix => ([.pointer (some ⟨rb, 0, none⟩), .pointer (some ⟨rb, 0, none⟩), .pointer (some ⟨rb, 0, none⟩), .pointer (some ⟨rb, 0, none⟩), .slice A k cp, .string S, .slice (some ⟨z + 1, 0, none⟩) 1 1, v', .pointer (some ⟨rb, 0, none⟩), .pointer (some ⟨rb, 0, none⟩), undef] : List Value).getD ix undef := ⟨_, rfl⟩
      refine wp_region_states (by kernel_rfl) 11 32 (fun ix => if ix = 10 then 32 else 12 + ix) waits5 (JR V (fun L w => w = Wd L)) (by kernel_rfl) rfl ⟨fun j hj => (nomatch hj), (by rw [hWd]; rfl)⟩ ?_ ?_
      · refine (all_succ (all_succ (all_succ (all_succ (all_succ (all_succ (all_succ (all_succ (all_succ (all_succ (all_succ all_zero ?h0) ?h1) ?h2) ?h3) ?h4) ?h5) ?h6) ?h7) ?h8) ?h9) ?h10)
        case h0 =>
          intro o ho L vals a w hs hi hcl hdl hJ K hK
          cases ho
          have e0 := hs.outS 3 (.pointer (some ⟨rb, 0, none⟩)) (by omega) (fun ix hi => by show (if ix = 10 then 32 else 12 + ix) ≠ 3; split <;> omega) rfl
          go_simp
          exact hK _ _ (hJ.step (by rw [hV]; rfl) (HPURE.out _ _ _ (by decide) hJ.world))
        case h1 =>
          intro o ho L vals a w hs hi hcl hdl hJ K hK
          cases ho
          have e0 := hs.outS 3 (.pointer (some ⟨rb, 0, none⟩)) (by omega) (fun ix hi => by show (if ix = 10 then 32 else 12 + ix) ≠ 3; split <;> omega) rfl
          go_simp
          exact hK _ _ (hJ.step (by rw [hV]; rfl) (HPURE.out _ _ _ (by decide) hJ.world))
        case h2 =>
          intro o ho L vals a w hs hi hcl hdl hJ K hK
          cases ho
          have e0 := hs.depS hJ 1 13 (.pointer (some ⟨rb, 0, none⟩)) (hdl 1 (by simp [waits5])) (by omega) rfl (by omega) (by rw [hV]; rfl)
          go_simp
          exact hK _ _ (hJ.step (by rw [hV]; rfl) (HPURE.out _ _ _ (by decide) hJ.world))
        case h3 =>
          intro o ho L vals a w hs hi hcl hdl hJ K hK
          cases ho
          have e0 := hs.depS hJ 2 14 (.pointer (some ⟨rb, 0, none⟩)) (hdl 2 (by simp [waits5])) (by omega) rfl (by omega) (by rw [hV]; rfl)
          go_simp
          exact hK _ _ (hJ.step (by rw [hV]; rfl) (HPURE.out _ _ _ (by decide) hJ.world))
        case h4 =>
          intro o ho L vals a w hs hi hcl hdl hJ K hK
          cases ho
          have e0 := hs.depS hJ 3 15 (.pointer (some ⟨rb, 0, none⟩)) (hdl 3 (by simp [waits5])) (by omega) rfl (by omega) (by rw [hV]; rfl)
          have l7 : L 7 = false := by
            cases h : L 7 with
            | false => rfl
            | true => rw [hcl 7 h 4 (by simp [waits5])] at hi; cases hi
          have hcw : w.cell? ⟨rb, 0, none⟩ = some (.slice A k cp) := HCW.out L w hJ.world (by
            cases h : L 10 with
            | false => rfl
            | true => rw [hcl 10 h 7 (by simp [waits5])] at l7; cases l7) l7
          clear l7
          go_simp
          exact hK _ _ (hJ.step (by rw [hV]; rfl) (HPURE.out _ _ _ (by decide) hJ.world))
        case h5 =>
          intro o ho L vals a w hs hi hcl hdl hJ K hK
          cases ho
          have l6 : L 6 = false := by
            cases h : L 6 with
            | false => rfl
            | true => rw [hcl 6 h 5 (by simp [waits5])] at hi; cases hi
          have l7 : L 7 = false := by
            cases h : L 7 with
            | false => rfl
            | true => rw [hcl 7 h 6 (by simp [waits5])] at l6; cases l6
          have l10 : L 10 = false := by
            cases h : L 10 with
            | false => rfl
            | true => rw [hcl 10 h 7 (by simp [waits5])] at l7; cases l7
          have hw8 : w = wr.drew := by rw [hJ.world, hWd]; simp [hi, l6, l7, l10]
          subst hw8
          go_simp
          refine (HNO.out _).mono ?_
          rintro e w' ⟨rfl, hw'⟩
          exact hK _ _ (hJ.step (by rw [hV]; rfl) (by rw [hw', hWd]; simp only [setL_same, setL_other L (i := 5) (j := 6) (by decide), setL_other L (i := 5) (j := 7) (by decide), setL_other L (i := 5) (j := 10) (by decide), l6, l7, l10]; rfl))
        case h6 =>
          intro o ho L vals a w hs hi hcl hdl hJ K hK
          cases ho
          have e0 := hs.depS hJ 5 17 (.string S) (hdl 5 (by simp [waits5])) (by omega) rfl (by omega) (by rw [hV]; rfl)
          have l5 : L 5 = true := hdl 5 (by simp [waits5])
          have l7 : L 7 = false := by
            cases h : L 7 with
            | false => rfl
            | true => rw [hcl 7 h 6 (by simp [waits5])] at hi; cases hi
          have l10 : L 10 = false := by
            cases h : L 10 with
            | false => rfl
            | true => rw [hcl 10 h 7 (by simp [waits5])] at l7; cases l7
          have hw8 : w = wr.drew.alloc (.cells cells128 5) := by rw [hJ.world, hWd]; simp only [l5, hi, l7, l10]; rfl
          have hsz : w.heap.size = z + 1 := by rw [hw8, ← HZ.out]; simp
          have HW8 := Lib.hid hw8
          have HSZ := Lib.hid hsz
          clear hw8 hsz
          go_simp
          refine hK _ _ (hJ.step (by rw [hV]; show _ = _; rw [HSZ.out]; rfl) (by rw [hWd]; simp only [setL_same, setL_other L (i := 6) (j := 7) (by decide), setL_other L (i := 6) (j := 10) (by decide), l7, l10]; rw [HW8.out]; rfl))
        case h7 =>
          intro o ho L vals a w hs hi hcl hdl hJ K hK
          cases ho
          have e0 := hs.depS hJ 4 16 (.slice A k cp) (hdl 4 (by simp [waits5])) (by omega) rfl (by omega) (by rw [hV]; rfl)
          have e1 := hs.depS hJ 6 18 (.slice (some ⟨z + 1, 0, none⟩) 1 1) (hdl 6 (by simp [waits5])) (by omega) rfl (by omega) (by rw [hV]; rfl)
          have l6 : L 6 = true := hdl 6 (by simp [waits5])
          have l10 : L 10 = false := by
            cases h : L 10 with
            | false => rfl
            | true => rw [hcl 10 h 7 (by simp [waits5])] at hi; cases hi
          have hw8 : w = (wr.drew.alloc (.cells cells128 5)).alloc (.cells #[.string S] 9) := by rw [hJ.world, hWd]; simp only [l6, hi, l10]; rfl
          subst hw8
          rw [if_pos (by rfl)]
          refine wp_append_run (.tmp 16) (.tmp 18) 44 rfl _ _ _ _ (by show a.tmps.getD 16 undef = _; rw [Array.getD_eq_getD_getElem?, e0]; rfl) (by show a.tmps.getD 18 undef = _; rw [Array.getD_eq_getD_getElem?, e1]; rfl) HRUN.out ?_
          exact hK _ _ (hJ.step (by rw [hV]; rfl) (by rw [hWd]; simp only [setL_same, setL_other L (i := 7) (j := 10) (by decide), l10]; rfl))
        case h8 =>
          intro o ho L vals a w hs hi hcl hdl hJ K hK
          cases ho
          have e0 := hs.depS hJ 0 12 (.pointer (some ⟨rb, 0, none⟩)) (hdl 0 (by simp [waits5])) (by omega) rfl (by omega) (by rw [hV]; rfl)
          go_simp
          exact hK _ _ (hJ.step (by rw [hV]; rfl) (HPURE.out _ _ _ (by decide) hJ.world))
        case h9 =>
          intro o ho L vals a w hs hi hcl hdl hJ K hK
          cases ho
          have e0 := hs.depS hJ 8 20 (.pointer (some ⟨rb, 0, none⟩)) (hdl 8 (by simp [waits5])) (by omega) rfl (by omega) (by rw [hV]; rfl)
          go_simp
          exact hK _ _ (hJ.step (by rw [hV]; rfl) (HPURE.out _ _ _ (by decide) hJ.world))
        case h10 =>
          intro o ho L vals a w hs hi hcl hdl hJ K hK
          cases ho
          have e0 := hs.depS hJ 7 19 (v') (hdl 7 (by simp [waits5])) (by omega) rfl (by omega) (by rw [hV]; rfl)
          have e1 := hs.depS hJ 9 21 (.pointer (some ⟨rb, 0, none⟩)) (hdl 9 (by simp [waits5])) (by omega) rfl (by omega) (by rw [hV]; rfl)
          have l7 : L 7 = true := hdl 7 (by simp [waits5])
          have hw8 : w = w3 := by rw [hJ.world, hWd]; simp only [l7, hi]; rfl
          have HW8 := Lib.hid hw8
          have hgo := hK undef (w.setCell ⟨rb, 0, none⟩ v') (hJ.step (by rw [hV]; rfl) (by rw [hWd]; simp only [setL_same]; rw [HW8.out]; rfl))
          rw [HV2.out] at e0 hgo
          subst hw8
          go_simp
          exact hgo
      · intro vals a w_ hs hJ
        obtain ⟨ha, hw⟩ := hs.doneR rfl rfl (fun ix jx _ _ h => by show (if jx = 10 then 32 else 12 + jx) ≠ (if ix = 10 then 32 else 12 + ix); split <;> split <;> omega) hJ
        have hw' : w_ = w3.setCell ⟨rb, 0, none⟩ v' := by rw [hw, hWd]; rfl
        subst hw'
        clear hw hs hJ hWd hc3 hf3
        subst ha
        rw [hV]
        clear hV
        simp only [putAll, List.setIfInBounds_toArray, List.set_cons_zero, List.set_cons_succ, List.getD_cons_zero, List.getD_cons_succ, Nat.reduceAdd, Nat.reduceEqDiff, if_false, if_true]
        have HCEL4 : Hid (Bk (w3.setCell ⟨rb, 0, none⟩ v') rb 47 #[v', .slice B k cq, .slice none 0 0, .int .i64 (-1), .bool false, .bool false]) := HCEL3.out.set_ 0 v'
        have HHAS4 : Hid ((w3.setCell ⟨rb, 0, none⟩ v').ownsRow rb 9 1 v' (k + 1) (strs (k + 1) nz)) := by
          show World.ownsRow _ _ _ _ _ _ _
          rw [strs_succ, show str (nz k) = S from HS.out]
          exact own_keep HOWN3.out fun j hj => Below.heap_setCell _ _ _ _ (fun e => by subst e; obtain ⟨_, _, cs, hb⟩ := own_lt HOWN3.out hj; exact hb.ne HCEL3.out (by decide) rfl)
        have HFLT4 : Hid ((w3.setCell ⟨rb, 0, none⟩ v').ownsRow rb 3 1 (.slice B k cq) k (flts k fun _ => 0)) := own_keep HFLT3.out fun j hj => Below.heap_setCell _ _ _ _ (fun e => by subst e; obtain ⟨_, _, cs, hb⟩ := own_lt HFLT3.out hj; exact hb.ne HCEL3.out (by decide) rfl)
        have HB4 : Hid (Below w.heap.size w (w3.setCell ⟨rb, 0, none⟩ v')) := HB3.out.setCell (by show w.heap.size ≤ rb; rw [HRB.out]; exact Nat.le_refl _) _
        obtain ⟨w4, hw4⟩ : ∃ w4, w3.setCell ⟨rb, 0, none⟩ v' = w4 := ⟨_, rfl⟩
        rw [hw4] at HCEL4 HHAS4 HFLT4 HB4 ⊢
        clear hw4 HCEL3 HFLT3 HB3 HOWN3 HGR3 HRUN HN HB HCW HPURE
        have c1 := HCEL4.out.cell 1
        have hs4 := HB4.out.size
        have hs4r : rb ≤ w4.heap.size := by rw [← HRB.out]; exact hs4
        have hlr4 := HCEL4.out.lt
        have c1' : ∀ o, (w4.alloc o).cell? ⟨rb, 1, none⟩ = some (.slice B k cq) := fun o => (World.cell?_alloc_lt _ _ _ hlr4).trans c1
        have f1' := HCEL4.out.free 1
        have HNE : Hid ((Value.slice B k cq).ownBlock ≠ some rb) := fun e => by obtain ⟨_, _, cs, hb⟩ := own_lt HFLT4.out e; exact hb.ne HCEL4.out (by decide) rfl
        go_wp2_with (at_builtin; refine wpList_append_own _ rfl _ _ 30 rfl rb 3 j0 (.int .i64 0) 1 8 Try.underlying30 ji.out jz0.out jz1.out jz2.out rfl (by decide) _ _ _ rfl (HFLT4.out.alloc _) ⟨w4.heap.size, 0, none⟩ 1 1 [.int .i64 0] rfl rfl ?g1 ?g2 ?g3 ?g4 ?g5 ?_)
        case g1 =>
          intro j u hj
          match j, hj with
          | 0, hj => simp at hj; subst hj; simp [Addr.add]
        case g2 => intro u hu; simp at hu; subst hu; rfl
        case g3 => unfold maxLen; omega
        case g4 => omega
        case g5 => simp; omega
        intro v5 w5 hown5 hgr5 _
        have hbl5 : w5.heap[rb]? = w4.heap[rb]? := (hgr5.block rb (by simp; omega) (fun e => HNE.out e.symm)).trans (Below.heap_alloc w4 _ rb hlr4)
        have c5 : w5.cell? ⟨rb, 1, none⟩ = some (.slice B k cq) := (World.cell?_of_block (w := w4) (a := ⟨rb, 1, none⟩) hbl5).trans c1
        have f5 : w5.frozen? ⟨rb, 1, none⟩ = false := (World.frozen?_of_block (w := w4) (a := ⟨rb, 1, none⟩) hbl5).trans f1'
        obtain ⟨B2, cq2, hv5, _, _⟩ := own_len hown5
        subst hv5
        have hcel5 : Bk w5 rb 47 #[v', .slice B k cq, .slice none 0 0, .int .i64 (-1), .bool false, .bool false] := hbl5.trans HCEL4.out
        have hhas5 : w5.ownsRow rb 9 1 v' (k + 1) (strs (k + 1) nz) := own_keep HHAS4.out fun j hj => (hgr5.block j (by have := (own_lt HHAS4.out hj).2.1; simp; omega) (fun e => by
          obtain ⟨_, _, cs, hb⟩ := own_lt HHAS4.out hj; obtain ⟨_, _, cs', hb'⟩ := own_lt HFLT4.out e.symm; exact hb.ne hb' (by decide) rfl)).trans (Below.heap_alloc w4 _ j (own_lt HHAS4.out hj).2.1)
        have HN6 : Hid (NewAt (w5.setCell ⟨rb, 1, none⟩ (.slice B2 (k + 1) cq2)) rb rb v' (.slice B2 (k + 1) cq2) (k + 1)) := by
          refine ⟨hcel5.set_ 1 _, ?_, ?_, Nat.le_refl _⟩
          · exact own_keep hhas5 fun j hj => Below.heap_setCell _ _ _ _ (fun e => by subst e; obtain ⟨_, _, cs, hb⟩ := own_lt hhas5 hj; exact hb.ne hcel5 (by decide) rfl)
          · rw [flts_succ]; exact own_keep hown5 fun j hj => Below.heap_setCell _ _ _ _ (fun e => by subst e; obtain ⟨_, _, cs, hb⟩ := own_lt hown5 hj; exact hb.ne hcel5 (by decide) rfl)
        have HB6 : Hid (Below w.heap.size w (w5.setCell ⟨rb, 1, none⟩ (.slice B2 (k + 1) cq2))) := ((HB4.out.alloc hs4 _).grown hgr5 (by simp; omega) (fun g hg => by rw [HRB.out]; exact (own_lt HFLT4.out hg).1)).setCell (by show w.heap.size ≤ rb; rw [HRB.out]; exact Nat.le_refl _) _
        clear hown5 hgr5 hbl5 hcel5 hhas5 c1 c1' f1'
        go_wp2_with fail
        go_roundw
        case rel => exact ⟨k + 1, v', .slice B2 (k + 1) cq2, by omega, by go_num, HN6, HB6⟩
        case measure => simp [intOf]; omega
    · obtain rfl : k = n := by omega
      go_wp2_with fail
      go_ret
      refine ⟨rb, hv, fv, rfl, ?_, HB.out⟩
      rw [HRB.out]
      have hn := HN.out
      exact ⟨newD_ok h1 h2, hn.cel, hn.has, hn.flt, World.ownsRow_nil _ _ _ _, Nat.le_refl _⟩
end Go.Proofs.Ytpjdnbmeedcafaa
