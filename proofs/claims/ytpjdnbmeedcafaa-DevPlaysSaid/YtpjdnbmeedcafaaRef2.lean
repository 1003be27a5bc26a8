/-
  Write, Flush and Erase of the document's own device.
-/
import Derived.Test.YtpjdnbmeedcafaaRef
import Derived.StillTailTactics
import Derived.Deep.LoopGhost
namespace Go.Proofs.Ytpjdnbmeedcafaa
open Go.RowKit
set_option linter.unusedVariables false

theorem RefAt.appended {w w1 w2 : World} {base rb : Nat} {hv fv lv v' : Value} {D : Dv} (h : RefAt w base rb hv fv lv D) (hb : Below w.heap.size w w1) (hg : w1.grownBy w2 lv.ownBlock) (k : Nat) (b : List UInt8) (hk : k < D.n) (hl : b.length = 128)
    (hown : w2.ownsRow base 72 2 v' (D.pend.length + 1) (wcells D.pend ++ wcell (k, b))) :
    RefAt (w2.setCell ⟨rb, 2, none⟩ v') base rb hv fv v' { D with pend := D.pend ++ [(k, b)] } ∧ Fr (FootR rb hv fv lv) w (w2.setCell ⟨rb, 2, none⟩ v') := by
  have h1 := h.up hb
  obtain ⟨a1, a2, a3, a4, a5⟩ := h1.apart
  have hs2 : Bk w2 rb 47 (rcells hv fv lv D) := (hg.block rb h1.cel.lt (fun e => a3 e.symm)).trans h1.cel
  have hvs : v'.ownBlock ≠ some rb := fun e => by obtain ⟨_, _, cs', h'⟩ := own_lt hown e; exact h'.ne hs2 (by decide) rfl
  refine ⟨⟨h.ok.pends fun p hp => ?_, hs2.set_ 2 v', ?_, ?_, ?_, h.brb⟩, ?_⟩
  · rcases List.mem_append.1 hp with hp | hp
    · exact h.ok.pend p hp
    · rw [List.mem_singleton] at hp; subst hp; exact ⟨hk, hl⟩
  · exact own_keep h1.has fun j hj => (Below.heap_setCell _ _ _ _ (fun e => by subst e; exact a1 hj)).trans (hg.block j (own_lt h1.has hj).2.1 (fun e => (a4 j hj).2 e.symm))
  · exact own_keep h1.flt fun j hj => (Below.heap_setCell _ _ _ _ (fun e => by subst e; exact a2 hj)).trans (hg.block j (own_lt h1.flt hj).2.1 (fun e => a5 j hj e.symm))
  · show World.ownsRow _ base _ 2 v' (D.pend ++ [(k, b)]).length (wcells (D.pend ++ [(k, b)]))
    rw [wcells_append, List.length_append, List.length_singleton, show wcells [(k, b)] = wcell (k, b) by simp [wcells]]
    exact own_keep hown fun j hj => Below.heap_setCell _ _ _ _ (fun e => by subst e; exact hvs hj)
  · exact ((Fr.of_below (S := FootR rb hv fv lv) hb).grown hg fun j hj => .inl (.inr (.inr (.inr hj)))).setCell (.inl (.inl rfl)) _
theorem info_wait : (Try.prog.info? 72).map (fun i => (i.zero, i.size, i.bytes)) = some (some (.agg #[.int .i64 0, .string ByteArray.empty]), 2, 24) := by kernel_rfl
theorem TurnR.of {base rb : Nat} {w w' : World} {hv fv lv hv' fv' lv' : Value} {D' : Dv} (h : RefAt w' base rb hv' fv' lv' D' ∧ Fr (FootR rb hv fv lv) w w') : TurnR base rb w hv fv lv w' D' := ⟨⟨_, _, _, h.1⟩, h.2⟩

theorem refWrite_no {base rb : Nat} {hv fv lv : Value} {D : Dv} (i : Int) (s : ByteArray) (w : World) (h : RefAt w base rb hv fv lv D) (hs : s.size ≤ 1000) (hbad : inN D.n i = false ∨ s.size ≠ 128) :
    Calls Try.prog 15 #[.pointer (some ⟨rb, 0, none⟩), .int .i64 i, .string s] w fun e w' => e = .returned (.int .i64 (if inN D.n i = false then 4 else 1)) ∧ w = w' := by
  obtain ⟨hg, hc, rfl, _, _⟩ := own_addr h.has h.ok.n1
  have h0 := h.c0
  have hn := h.ok.n2
  clear h
  by_cases hi : inN D.n i = true
  · obtain ⟨i0, i1⟩ := inN_yes hi
    have hz : ¬ s.size = 128 := by
      rcases hbad with h | h
      · rw [hi] at h; cases h
      · exact h
    have hz2 : ((s.size : Int) == 128) = false := by simpa using fun e => hz (by omega)
    rw [hi, if_neg (by decide)]
    clear hi hbad hz
    go_enter Try.func15, Try.ntmps15
    go_wp2
    go_ret
    exact ⟨rfl, rfl⟩
  · have hf : inN D.n i = false := by simpa using hi
    rw [if_pos hf]
    clear hi hbad
    rcases inN_no hf with h1 | h1
    · have hd : decide (i < 0) = true := by simpa using h1
      clear hf
      go_enter Try.func15, Try.ntmps15
      go_wp2
      go_ret
      exact ⟨rfl, rfl⟩
    · have hd : decide (i < 0) = false := by simp; omega
      clear hf
      go_enter Try.func15, Try.ntmps15
      go_wp2
      go_ret
      exact ⟨rfl, rfl⟩
theorem failB_startE (D : Dv) : startE D = if failB D = true then 10 else if D.mnt = false then 9 else 0 := by unfold startE failB; simp

set_option maxRecDepth 100000 in
set_option maxHeartbeats 1000000 in
theorem refWrite_yes {base rb : Nat} {hv fv lv : Value} {D : Dv} (k : Nat) (b : List UInt8) (w : World) (h : RefAt w base rb hv fv lv D) (hbase : base ≤ w.heap.size) (hk : k < D.n) (hb : b.length = 128) (hpl : D.pend.length ≤ 1000) :
    Calls Try.prog 15 #[.pointer (some ⟨rb, 0, none⟩), .int .i64 k, .string (str b)] w fun e w' => e = .returned (.int .i64 (writeE D k)) ∧ TurnR base rb w hv fv lv w' (writeD D k b) := by
  obtain ⟨hg, hc, rfl, _, _⟩ := own_addr h.has h.ok.n1
  have h0 := h.c0
  have hn := h.ok.n2
  have HH := Lib.hid h
  obtain ⟨fB, hfB⟩ : ∃ f, failB D = f := ⟨_, rfl⟩
  obtain ⟨D1, hD1⟩ : ∃ D1, startD D = D1 := ⟨_, rfl⟩
  obtain ⟨m, hm⟩ : ∃ m, D.mnt = m := ⟨_, rfl⟩
  obtain ⟨f, hff⟩ : ∃ f, D.flt k = f := ⟨_, rfl⟩
  obtain ⟨S, hS⟩ : ∃ S, str b = S := ⟨_, rfl⟩
  have hSz : S.size = 128 := by rw [← hS, str_size, hb]
  have hwE : writeE D k = if fB = true then 10 else if m = false then 9 else if 1 < f then 9 else 0 := by
    unfold writeE
    rw [failB_startE, hfB, hm, hff]
    cases fB <;> cases m <;> simp [incl]
  have hwD : writeD D k b = if writeE D k = 0 then { D1 with pend := D1.pend ++ [(k, b)] } else D1 := by unfold writeD; rw [hD1]
  have en : D1.n = D.n := by rw [← hD1]; exact startD_n D
  have ep : D1.pend = D.pend := by rw [← hD1]; exact startD_pend D
  have ef : D1.flt k = f := by rw [← hD1, startD_flt]; exact hff
  have em : D1.mnt = m := by rw [← hD1, startD_mnt]; exact hm
  obtain ⟨f1, f2⟩ := h.ok.flt k
  rw [hff] at f1 f2
  have HFB := Lib.hid hfB
  have HD1 := Lib.hid hD1
  have HWE := Lib.hid hwE
  have HWD := Lib.hid hwD
  have HEN := Lib.hid en
  have HEP := Lib.hid ep
  have HEF := Lib.hid ef
  have HEM := Lib.hid em
  have HBL := Lib.hid hb
  have HPL := Lib.hid hpl
  have HBASE := Lib.hid hbase
  have HK := Lib.hid hk
  have HS := Lib.hid hS
  have hk' : (k : Int) < (D.n : Int) := by omega
  have hk0 : decide ((k : Int) < 0) = false := by simp
  rw [hS]
  clear h hfB hD1 hm hff hwE hwD en ep ef em hb hpl hbase hk hS
  cases fB
  · cases m
    · have e1 : writeE D k = 9 := HWE.out
      have HE1 := Lib.hid e1
      rw [e1]
      clear e1
      go_enter Try.func15, Try.ntmps15
      go_wp2_with fail
      refine (fails_any _ HH.out).mono ?_
      rintro e w1 ⟨rfl, hr, hfr⟩
      rw [HFB.out]
      rw [HD1.out] at hr
      have HR := Lib.hid hr
      have HFR := Lib.hid hfr
      have c5 := hr.c5
      rw [HEM.out] at c5
      clear hr hfr
      go_wp2
      go_ret
      exact ⟨rfl, by rw [HWD.out, if_neg (by rw [HE1.out]; omega)]; exact .of ⟨HR.out, HFR.out⟩⟩
    · by_cases h1 : 1 < f
      · have e1 : writeE D k = 9 := by rw [HWE.out, if_neg (by decide), if_neg (by decide), if_pos h1]
        have HE1 := Lib.hid e1
        have hd : decide (f > 1) = true := by simpa using h1
        rw [e1]
        clear e1
        go_enter Try.func15, Try.ntmps15
        go_wp2_with fail
        refine (fails_any _ HH.out).mono ?_
        rintro e w1 ⟨rfl, hr, hfr⟩
        rw [HFB.out]
        rw [HD1.out] at hr
        have HR := Lib.hid hr
        have HFR := Lib.hid hfr
        have c5 := hr.c5
        rw [HEM.out] at c5
        have c1 := hr.c1
        obtain ⟨fg, fc, hfv, _, _⟩ := own_addr hr.flt hr.ok.n1
        rw [hfv, HEN.out] at c1
        have hcf : w1.cell? ⟨fg, k, none⟩ = some (.int .i64 f) := by
          have := hr.flt
          rw [hfv] at this
          rw [this.cellAt k (by rw [HEN.out]; have := HK.out; omega), flts_at _ _ _ (by rw [HEN.out]; exact HK.out), HEF.out]
        clear hr hfr hfv
        go_wp2
        go_ret
        exact ⟨rfl, by rw [HWD.out, if_neg (by rw [HE1.out]; omega)]; exact .of ⟨HR.out, HFR.out⟩⟩
      · have e1 : writeE D k = 0 := by rw [HWE.out, if_neg (by decide), if_neg (by decide), if_neg h1]
        have HE1 := Lib.hid e1
        have hd : decide (f > 1) = false := by simpa using h1
        rw [e1]
        clear e1
        obtain ⟨i0, hi', hz0', hz1', hz2'⟩ := info_parts info_wait
        have hi := Lib.hid hi'
        have hz0 := Lib.hid hz0'
        have hz1 := Lib.hid hz1'
        have hz2 := Lib.hid hz2'
        clear hi' hz0' hz1' hz2'
        go_enter Try.func15, Try.ntmps15
        go_wp2_with fail
        refine (fails_any _ HH.out).mono ?_
        rintro e w1 ⟨rfl, hr, hfr⟩
        rw [HFB.out]
        rw [HD1.out] at hr
        have HR := Lib.hid hr
        have HFR := Lib.hid hfr
        have c5 := hr.c5
        rw [HEM.out] at c5
        have c1 := hr.c1
        have c2 := hr.c2
        have f2' := hr.fz 2
        obtain ⟨fg, fc, hfv, _, _⟩ := own_addr hr.flt hr.ok.n1
        obtain ⟨A, cp, hlv, hlc, hlm⟩ := own_len hr.pen
        rw [hfv, HEN.out] at c1
        rw [hlv, HEP.out] at c2
        have hcf : w1.cell? ⟨fg, k, none⟩ = some (.int .i64 f) := by
          have := hr.flt
          rw [hfv] at this
          rw [this.cellAt k (by rw [HEN.out]; have := HK.out; omega), flts_at _ _ _ (by rw [HEN.out]; exact HK.out), HEF.out]
        obtain ⟨n, hnn⟩ : ∃ n, D.pend.length = n := ⟨_, rfl⟩
        have HOWN : Hid (w1.ownsRow base 72 2 (.slice A n cp) n (wcells D.pend)) := by
          have := hr.pen
          rw [hlv, HEP.out, hnn] at this
          exact this
        rw [hnn] at c2
        have hn1k : n ≤ 1000 := by rw [← hnn]; exact HPL.out
        have HLV : Hid (lv = .slice A n cp) := by show _ = _; rw [hlv, HEP.out, hnn]
        have HNN := Lib.hid hnn
        have hb1 : base ≤ w1.heap.size := Nat.le_trans HBASE.out hfr.size
        have hrb := hr.cel.lt
        have HA := Lib.hid hr.apart.2.2.1
        clear hr hfr hfv hlv hnn hlc hlm
        go_wp2_with (at_builtin; refine wpList_append_own _ rfl _ _ 45 rfl base 72 i0 (.agg #[.int .i64 0, .string ByteArray.empty]) 2 24 Try.underlying45 hi.out hz0.out hz1.out hz2.out rfl (by decide) _ _ _ rfl (HOWN.out.alloc _) ⟨w1.heap.size, 0, none⟩ 1 1 [.int .i64 (k : Int), .string S] rfl rfl ?g1 ?g2 ?g3 ?g4 ?g5 ?_)
        case g1 =>
          intro j u hj
          match j, hj with
          | 0, hj => simp at hj; subst hj; simp [Addr.add]
          | 1, hj => simp at hj; subst hj; rw [add_plain, cell_of_row _ _ _ _ _ _ (heap_alloc_new _ _)]; rfl
        case g2 => intro u hu; simp at hu; rcases hu with hu | hu <;> subst hu <;> rfl
        case g3 => unfold maxLen; omega
        case g4 => omega
        case g5 => simp; omega
        intro v2 w3 hown3 hgr3 _
        have HO3 := Lib.hid hown3
        have HG3 := Lib.hid hgr3
        have hcc : w3.cell? ⟨rb, 2, none⟩ = some (.slice A n cp) ∧ w3.frozen? ⟨rb, 2, none⟩ = false := by
          have hbl : w3.heap[rb]? = w1.heap[rb]? := (hgr3.block rb (by simp; omega) (fun e => HA.out (by rw [HLV.out]; exact e.symm))).trans (Below.heap_alloc w1 _ rb hrb)
          exact ⟨(World.cell?_of_block (w := w1) (a := ⟨rb, 2, none⟩) hbl).trans c2, (World.frozen?_of_block (w := w1) (a := ⟨rb, 2, none⟩) hbl).trans f2'⟩
        obtain ⟨hc3, hf3⟩ := hcc
        obtain ⟨A2, cp2, hv2, _, _⟩ := own_len hown3
        subst hv2
        clear hown3 hgr3
        go_wp2
        go_ret
        refine ⟨rfl, ?_⟩
        rw [HWD.out, if_pos HE1.out]
        have hap := HR.out.appended ((Below.refl _ _).alloc (Nat.le_refl _) _) (by rw [HLV.out]; exact HG3.out) k b (by rw [HEN.out]; exact HK.out) HBL.out (by rw [HEP.out, HNN.out]; have := HO3.out; rw [← HS.out] at this; exact this)
        exact .of ⟨hap.1, HFR.out.trans hap.2 fun j hj => .inl hj⟩
  · have e1 : writeE D k = 10 := HWE.out
    have HE1 := Lib.hid e1
    rw [e1]
    clear e1
    go_enter Try.func15, Try.ntmps15
    go_wp2_with fail
    refine (fails_any _ HH.out).mono ?_
    rintro e w1 ⟨rfl, hr, hfr⟩
    rw [HFB.out]
    rw [HD1.out] at hr
    have HR := Lib.hid hr
    have HFR := Lib.hid hfr
    clear hr hfr
    go_wp2
    go_ret
    exact ⟨rfl, by rw [HWD.out, if_neg (by rw [HE1.out]; omega)]; exact .of ⟨HR.out, HFR.out⟩⟩
end Go.Proofs.Ytpjdnbmeedcafaa
