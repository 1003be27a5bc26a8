/-
  What is pending is executed, as far as a closure says: Flush, Crash.
-/
import Derived.Test.YtpjdnbmeedcafaaDev6
import Derived.StillTailTactics
namespace Go.Proofs.Ytpjdnbmeedcafaa
open Go.RowKit Go.Maps
set_option linter.unusedVariables false

def execX (P : List (Nat × List UInt8)) (dn : Nat → Nat) (H : Nat → List UInt8) : Nat → Nat → List UInt8
  | 0 => H
  | k + 1 => match P[k]? with
    | some p => upd (execX P dn H k) p.1 (p.2.take (dn k))
    | none => execX P dn H k
theorem execX_length {P : List (Nat × List UInt8)} {dn : Nat → Nat} {H : Nat → List UInt8} (hP : ∀ p ∈ P, p.2.length = 128) (hH : ∀ i, (H i).length = 128) : ∀ k i, (execX P dn H k i).length = 128
  | 0, i => hH i
  | k + 1, i => by
    rw [execX]
    cases hp : P[k]? with
    | some p => exact upd_length (execX_length hP hH k) _ _ (by rw [List.length_take, hP p (List.mem_of_getElem? hp)]; omega) i
    | none => exact execX_length hP hH k i
def execD (D : Dv) (dn : Nat → Nat) : Dv := { D with has := execX D.pend dn D.has D.pend.length, pend := [] }

theorem wpList_store_new {P : Program} {ops : Array Oper} {rest : List Oper} {op : Oper} {a : Act} {w : World} {Q : Exit → Act → World → Prop} (hgd : op.guard = none) (t : TypeId) (x y : Operand) (ho : op.op = .store t x y)
    (c c' : Array Value) (hx : a.eval x = .pointer (some ⟨w.heap.size, 0, none⟩)) (hy : a.eval y = .agg c') (hi : (P.info? t).map (·.size) = some c'.size) (hs : c.size = c'.size) (h1 : c'.all (·.oneCell') = true)
    (h : wpList P ops Q rest (a.put op.dst undef) (w.alloc (.cells c' t))) : wpList P ops Q (op :: rest) a (w.alloc (.cells c t)) :=
  wpList_plain hgd fun K hK => by
    unfold Oper.wp execOp
    simp only [ho, hx, hy, Sem.run_bind, Sem.run_pure, run_storeAt_new w t c c' hi hs h1, Result.andThen_ok]
    exact hK _ _ h
theorem under_write : ∃ fs, Try.prog.underlying 69 = some (.struct fs) := by
  have h : (match Try.prog.underlying 69 with | some (.struct _) => true | _ => false) = true := by kernel_rfl
  cases hu : Try.prog.underlying 69 with
  | none => rw [hu] at h; cases h
  | some d =>
    rw [hu] at h
    cases d <;> first | exact ⟨_, rfl⟩ | (cases h)
theorem size_u8 : (Try.prog.info? 5).map (·.size) = some 1 := by kernel_rfl
theorem size_write {p : Nat × List UInt8} (h : p.2.length = 128) : (Try.prog.info? 69).map (·.size) = some (pcell p).length := by rw [show (pcell p).length = 129 by simp [pcell, h]]; exact info_write
theorem pcell_one (p : Nat × List UInt8) : ∀ v ∈ pcell p, v.oneCell' = true := by
  intro u hu
  simp only [pcell, List.mem_cons] at hu
  rcases hu with hu | hu
  · subst hu; rfl
  · exact bv_one u hu

set_option maxRecDepth 100000 in
set_option maxHeartbeats 2000000 in
theorem execute_any {base sb bb mb : Nat} {pv : Value} {D : Dv} (K : Nat) (henter : ∀ (args : Array Value) (w : World), (callFunc K args).run Try.prog w = .ok (.enter K args) w) (cap : Array Value) (dn : Nat → Nat) (w : World) (h : DevAt w base sb bb mb pv D) (hdn : ∀ k, dn k ≤ 128) (hpl : D.pend.length ≤ 1000)
    (hcall : ∀ k, k < D.pend.length → ∀ w', Fr (Foot sb bb mb pv) w w' → Calls Try.prog K (#[.int .i64 (k : Int)] ++ cap) w' fun e w'' => e = .returned (.int .i64 (dn k)) ∧ w' = w'') :
    Calls Try.prog 39 #[.pointer (some ⟨sb, 0, none⟩), .func (.func K) #[] cap] w fun e w' => e = .returned (.tuple #[]) ∧ ∃ pv', Turn base sb bb mb w pv w' pv' (execD D dn) := by
  have HD := Lib.hid h
  have HCALL := Lib.hid hcall
  have HDN := Lib.hid hdn
  obtain ⟨A, cp, hpv, hc1, hc2⟩ := own_len h.pen
  have c1 := h.c1
  rw [hpv] at c1
  have HPV := Lib.hid hpv
  have HOK := Lib.hid h.ok
  have HPL := Lib.hid (fun q hq => (h.ok.pend q hq).2 : ∀ q ∈ D.pend, q.2.length = 128)
  obtain ⟨m, hm⟩ : ∃ m, D.pend.length = m := ⟨_, rfl⟩
  rw [hm] at c1 hpl
  have HM := Lib.hid hm
  clear h hcall hdn hpv hc1 hc2 hm
  go_enter Try.func39, Try.ntmps39
  go_wp2_with fail
  go_loopw [11] (fun x wr => ∃ k : Nat, k ≤ m ∧ x = .int .i64 (k : Int) ∧ Hid (Turn base sb bb mb w pv wr pv { D with has := execX D.pend dn D.has k })) (fun x _ => m - (intOf x).toNat)
  case atStart => exact ⟨0, Nat.zero_le _, rfl, Turn.refl HD.out⟩
  case round =>
    obtain ⟨k, hk, rfl, HT⟩ := hrel
    by_cases hlt : k < m
    · obtain ⟨q, hq⟩ : ∃ q, D.pend[k]? = some q := ⟨_, List.getElem?_eq_getElem (by rw [HM.out]; exact hlt)⟩
      obtain ⟨hqn, hql⟩ := HOK.out.pend q (List.mem_of_getElem? hq)
      have HQ := Lib.hid hq
      have hrd : Rd wr wr.heap.size A (pcells D.pend) := by
        have := HT.out.dev.pen
        rw [HPV.out] at this
        exact Rd.own this
      obtain ⟨pb, po, rfl, _, hcell⟩ := hrd.plain (by rw [pcells_length HPL.out, HM.out]; omega)
      have hrb : wr.rangeAt pb (po + k * 129) (pcell q) := by
        intro x v hv
        have hx : x < 129 := by have := (List.getElem?_eq_some_iff.1 hv).1; simpa [pcell, hql] using this
        have := hcell (k * 129 + x) v (by rw [pcells_at HPL.out hq hx]; exact hv)
        rw [← this]; congr 2; omega
      have HRB := Lib.hid hrb
      have HSW := Lib.hid (size_write hql)
      obtain ⟨fs, hfs⟩ := under_write
      have HFS := Lib.hid hfs
      obtain ⟨Z, hZe⟩ : ∃ Z : Array Value, Z = (.int .i64 0 :: List.replicate 128 (.int .u8 0)).toArray := ⟨_, rfl⟩
      have hZ : Z.size = 129 := by rw [hZe]; simp
      have hz : ∀ w, (zeroValue 69).run Try.prog w = .ok (.agg Z) w := by rw [hZe]; exact (zero_of_info zero_write2).1
      have HSZ : Hid (Z.size = (pcell q).toArray.size) := by show _ = _; rw [hZ]; simp [pcell, hql]
      clear hrd hcell hrb hq hZe hZ hfs
      go_wp2_with (first
        | ((with_reducible show wpList _ _ _ (⟨some 15, _, _, _, _, _⟩ :: _) _ _); go_must (refine wpList_load_mid rfl 69 (.tmp 14) rfl pb (po + k * 129) rfl _ (.struct fs) HRB.out HFS.out rfl HSW.out ?_))
        | ((with_reducible show wpList _ _ _ (⟨none, .store _ _ _, _, _, _, _⟩ :: _) _ _); go_must (refine wpList_store_new rfl 69 (.tmp 5) (.tmp 15) rfl Z (pcell q).toArray rfl rfl (by rw [List.size_toArray]; exact HSW.out) HSZ.out (all_oneCell_toArray (pcell_one q)) ?_)))
      simp only [Act.put]
      obtain ⟨wc, hwc⟩ : ∃ wc : World, wc = (wr.alloc (.cells (pcell q).toArray 69)).drew := ⟨_, rfl⟩
      have hbc : Below wr.heap.size wr wc := by rw [hwc]; exact ((Below.refl _ _).alloc (Nat.le_refl _) _).drew
      have HT2 := Lib.hid (HT.out.up hbc)
      have c0 := HT2.out.dev.c0
      have cq0 : wc.cell? ⟨wr.heap.size, 0, none⟩ = some (.int .i64 (q.1 : Int)) := by
        rw [hwc]; show (wr.alloc _).cell? _ = _
        rw [cell_of_row _ _ _ _ _ _ (heap_alloc_new wr _)]; rfl
      have HSRC : Hid (∀ j v, ((q.2.take (dn k)).map bv)[j]? = some v → wc.cell? ((⟨wr.heap.size, 1, none⟩ : Addr).add j) = some v) := Lib.hid fun j v hv => by
        rw [hwc]; show (wr.alloc _).cell? _ = _
        rw [add_plain, cell_of_row _ _ _ _ _ _ (heap_alloc_new wr _)]
        rw [List.map_take, List.getElem?_take] at hv
        split at hv
        · simpa [pcell, Nat.add_comm] using hv
        · cases hv
      obtain ⟨C, hC, hC'⟩ := HT2.out.dev.blk
      have HC := Lib.hid hC
      have HC2 := Lib.hid hC'
      obtain ⟨d, hd⟩ : ∃ d, dn k = d := ⟨_, rfl⟩
      have hd1 : d ≤ 128 := by rw [← hd]; exact HDN.out k
      have hcl := HCALL.out k (by rw [HM.out]; exact hlt) wc (HT.out.fr.andBelow hbc)
      rw [hd] at hcl HSRC
      have HQN := Lib.hid hqn
      have HQL := Lib.hid hql
      have hn2 := HOK.out.n2
      obtain ⟨qi, qb⟩ := q
      simp only at hqn hql cq0 HSRC HQN HQL
      have HCL := Lib.hid hcl
      have HDK := Lib.hid hd
      have HWC := Lib.hid hwc
      have hlt2 : (qi : Int) < (D.n : Int) := by omega
      clear hbc hC hC' hcl hd hwc hz hql hqn
      refine wp_region_still_tail 13 (by kernel_rfl) (by kernel_rfl) ?_
      simp only [List.take_succ_cons, List.take_zero, List.drop_succ_cons, List.drop_zero]
      change wpStill _ _ (wr.alloc (.cells (pcell (qi, qb)).toArray 69)).drew _ _ _
      rw [← HWC.out]
      iterate 11 still_step
      still_call (HCL.out.mono fun e w' ⟨h, h'⟩ => ⟨h, h'.symm⟩)
      have hd2 : (d : Int) ≤ 128 := by omega
      have hd3 : (0 : Int) ≤ (d : Int) := by omega
      still_step
      refine wpStill_nil ?_
      change wpList _ _ _ _ _ (wr.alloc (.cells (pcell (qi, qb)).toArray 69)).drew
      rw [← HWC.out]
      clear hd2 hd3
      have hpb := HT2.out.dev.putBlock qi HQN.out (qb.take d) (by rw [List.length_take]; omega)
      obtain ⟨cs, hcs⟩ : ∃ cs, (qb.take d).map bv = cs := ⟨_, rfl⟩
      have hone : ∀ v ∈ cs, v.oneCell' = true := by rw [← hcs]; exact bv_one
      have hlen : cs.length = d := by rw [← hcs]; simp [HQL.out]; omega
      have HCS : Hid (cs.length = Nat.min d 128) := by show _ = _; rw [hlen]; exact (Nat.min_eq_left hd1).symm
      have HFIT : Hid (qi * 128 + cs.length ≤ C.size) := by show _ ≤ _; have e : C.size = D.n * 128 := HC2.out.1; rw [hlen, e]; have := HQN.out; omega
      have HONE := Lib.hid hone
      rw [hcs] at hpb HSRC
      rw [setCells_row (P := Try.prog) HC.out _ _ HFIT.out hone, splice] at hpb
      have HPB := Lib.hid (HT2.out.trans hpb)
      clear hcs hlen hone hpb
      go_wp2_with ((with_reducible show wpList _ _ _ (⟨some 29, _, _, _, _, _⟩ :: _) _ _); go_must (refine wpList_copy_own (o := ⟨some 29, _, _, _, _, _⟩) rfl (.tmp 23) (.tmp 28) 33 33 rfl 5 Try.underlying33 size_u8 bb (qi * 128) 128 128 ⟨wr.heap.size, 1, none⟩ d 128 rfl rfl C 67 HC.out cs HCS.out HSRC.out HFIT.out HONE.out ?_))
      have HKX : Hid (execX D.pend dn D.has (k + 1) = upd (execX D.pend dn D.has k) qi (qb.take d)) := by show _ = _; rw [execX, HQ.out]; simp only [HDK.out]
      go_wp2
      go_roundw
      case rel => exact ⟨k + 1, by omega, by go_num, by rw [HKX.out]; exact HPB.out⟩
      case measure => simp [intOf]; omega
    · obtain rfl : k = m := by omega
      have c1 := HT.out.dev.c1
      rw [HPV.out] at c1
      have f1 := HT.out.dev.fz 1
      go_wp2_with fail
      go_end0
      refine ⟨rfl, .slice none 0 0, ?_⟩
      have ht := HT.out.trans HT.out.dev.drop
      rw [← HM.out] at ht
      exact ht

theorem flush_closure (k : Nat) (w : World) : Calls Try.prog 40 (#[.int .i64 (k : Int)] ++ #[]) w fun e w' => e = .returned (.int .i64 ((128 : Nat) : Int)) ∧ w = w' := by
  show Calls Try.prog 40 #[.int .i64 (k : Int)] w _
  go_enter Try.func40, Try.ntmps40
  go_wp2
  go_ret
  exact ⟨rfl, rfl⟩
def flushD (D : Dv) : Dv := if startE D = 0 then execD (startD D) (fun _ => 128) else startD D
theorem Flush_any {base sb bb mb : Nat} {pv : Value} {D : Dv} (w : World) (h : DevAt w base sb bb mb pv D) (hpl : D.pend.length ≤ 1000) :
    Calls Try.prog 16 #[.pointer (some ⟨sb, 0, none⟩)] w fun e w' => e = .returned (.int .i64 (startE D)) ∧ ∃ pv', Turn base sb bb mb w pv w' pv' (flushD D) := by
  have HD := Lib.hid h
  obtain ⟨x, hx⟩ : ∃ x, startE D = x := ⟨_, rfl⟩
  have hc := startE_cases D
  rw [hx] at hc
  have HX := Lib.hid hx
  obtain ⟨D1, hD1⟩ : ∃ D1, startD D = D1 := ⟨_, rfl⟩
  have hed : flushD D = if x = 0 then execD D1 (fun _ => 128) else D1 := by unfold flushD; rw [hx, hD1]
  have HPL : Hid (D1.pend.length ≤ 1000) := by rw [← hD1, startD_pend]; exact hpl
  have HE := Lib.hid hed
  have HD1 := Lib.hid hD1
  rw [hx]
  clear h hx hed hD1 hpl
  by_cases h0 : x = 0
  · subst h0
    clear hc
    go_enter Try.func16, Try.ntmps16
    go_wp2_with fail
    refine (start_any _ HD.out).mono ?_
    rintro e w1 ⟨rfl, ht⟩
    rw [HX.out]
    rw [HD1.out] at ht
    have HT1 := Lib.hid ht
    clear ht
    go_wp2_with fail
    refine (execute_any 40 (fun _ _ => rfl) #[] (fun _ => 128) _ HT1.out.dev (fun _ => Nat.le_refl _) HPL.out (fun k _ w' _ => flush_closure k w')).mono ?_
    rintro e w2 ⟨rfl, pv2, ht⟩
    have HT2 := Lib.hid (HT1.out.trans ht)
    clear ht
    go_wp2
    go_ret
    exact ⟨rfl, pv2, by rw [HE.out, if_pos trivial]; exact HT2.out⟩
  · have hs := HE.out
    rw [if_neg h0] at hs
    have HE2 := Lib.hid hs
    have hc2 : x = 9 ∨ x = 10 := by omega
    clear hs hc h0
    rcases hc2 with rfl | rfl
    all_goals
      go_enter Try.func16, Try.ntmps16
      go_wp2_with fail
      refine (start_any _ HD.out).mono ?_
      rintro e w1 ⟨rfl, ht⟩
      rw [HX.out]
      rw [HD1.out] at ht
      have HT1 := Lib.hid ht
      clear ht
      go_wp2
      go_ret
      exact ⟨rfl, pv, by rw [HE2.out]; exact HT1.out⟩

/-! ### Crash -/
/-- how many octets of the k-th pending write a crash does -/
def farN (far : List Int) (k : Nat) : Nat := match far[k]? with
  | some x => (min (max x 0) 128).toNat
  | none => 0
theorem farN_le (far : List Int) (k : Nat) : farN far k ≤ 128 := by
  unfold farN
  cases far[k]? with
  | none => exact Nat.zero_le _
  | some x => show (min (max x 0) 128).toNat ≤ 128; omega
theorem crash_closure (k : Nat) (cb n c : Nat) (A : Option Addr) (B : Nat) (far : List Int) (w : World) (hcell : w.cell? ⟨cb, 0, none⟩ = some (.slice A n c)) (hn : far.length = n) (hr : Rd w B A (far.map iv)) (hk : k ≤ 1000) :
    Calls Try.prog 41 (#[.int .i64 (k : Int)] ++ #[.pointer (some ⟨cb, 0, none⟩)]) w fun e w' => e = .returned (.int .i64 (farN far k : Int)) ∧ w = w' := by
  show Calls Try.prog 41 #[.int .i64 (k : Int), .pointer (some ⟨cb, 0, none⟩)] w _
  by_cases h : k < n
  · obtain ⟨x, hx⟩ : ∃ x, far[k]? = some x := ⟨_, List.getElem?_eq_getElem (by omega)⟩
    have hf : farN far k = (min (max x 0) 128).toNat := by unfold farN; rw [hx]
    have HF := Lib.hid hf
    obtain ⟨b, o, rfl, _, hc⟩ := hr.plain (by simp; omega)
    have hcx := hc k (iv x) (by simp [hx])
    unfold iv at hcx
    have hg : decide ((n : Int) ≤ (k : Int)) = false := by simp; omega
    clear hr hc hx hf
    have hx3 : x < 0 ∨ (0 ≤ x ∧ x ≤ 128) ∨ 128 < x := by omega
    rcases hx3 with h3 | ⟨h3, h4⟩ | h3
    · have h5 : (x < 0) = True := eq_true h3
      go_enter Try.func41, Try.ntmps41
      go_wp2
      go_ret
      exact ⟨congrArg (fun z => Ending.returned (.int .i64 z)) (by rw [HF.out]; omega), rfl⟩
    · have h5 : (x < 0) = False := eq_false (by omega)
      go_enter Try.func41, Try.ntmps41
      go_wp2
      go_ret
      exact ⟨congrArg (fun z => Ending.returned (.int .i64 z)) (by rw [HF.out]; omega), rfl⟩
    · have h5 : (x < 0) = False := eq_false (by omega)
      have h6 : (x ≤ 128) = False := eq_false (by omega)
      go_enter Try.func41, Try.ntmps41
      go_wp2
      go_ret
      exact ⟨congrArg (fun z => Ending.returned (.int .i64 z)) (by rw [HF.out]; omega), rfl⟩
  · have hf : farN far k = 0 := by unfold farN; rw [List.getElem?_eq_none (by omega)]
    have HF := Lib.hid hf
    have hg : decide ((n : Int) ≤ (k : Int)) = true := by simp; omega
    clear hf hr
    go_enter Try.func41, Try.ntmps41
    go_wp2
    go_ret
    exact ⟨by rw [HF.out]; rfl, rfl⟩
end Go.Proofs.Ytpjdnbmeedcafaa
