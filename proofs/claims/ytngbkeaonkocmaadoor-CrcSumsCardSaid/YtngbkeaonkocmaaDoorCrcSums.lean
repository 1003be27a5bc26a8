/-
  The sum of any parts, and each half, is the document's; in whatever parts octets come, it is that of all. Conditions: crc.halves holds what its text lays, tied to the program.
-/
import Derived.Test.YtngbkeaonkocmaaDoorCrcAwake
import Derived.Test.YtngbkeaonkocmaaDoorCrcTab
import Derived.Test.YtngbkeaonkocmaaDoorOpenRows
import Derived.Test.YtngbkeaonkocmaaDoorCards
import Derived.Test.YtngbkeaonkocmaaDoorTie
import Derived.SevenTiedAt
namespace Go.Proofs.YtngbkeaonkocmaaDoor.crcSums
open Go.ChangeShapes Go.WideShapes Go.ChangeAt Go.RowKit
set_option linter.unusedVariables false

theorem info_sl : (Tryd.prog.info? 23).map (fun i => (i.zero, i.size, i.bytes)) = some (some (.slice none 0 0), 1, 24) := by kernel_rfl
/-- a part, cut -/
def cutP (p : Part) : Part := (p.1, p.2.1, p.2.2.take 300)
def cuts (ps : List Part) : List Part := (ps.take 9).map cutP
theorem cuts_snoc (ps : List Part) (k : Nat) (p : Part) (h9 : k < 9) (h : ps[k]? = some p) : (cuts ps).take (k + 1) = (cuts ps).take k ++ [cutP p] := by
  rw [List.take_add_one]
  congr 1
  simp [cuts, h9, h]
theorem cuts_length (ps : List Part) : (cuts ps).length = min 9 ps.length := by simp [cuts]
theorem allB_append (a b : List Part) : allB (a ++ b) = allB a ++ allB b := by simp [allB]
theorem allB_one (p : Part) : allB [p] = p.2.2 := by simp [allB]
theorem cuts_all : ∀ (l : List Part), (∀ p ∈ l, p.2.2.length ≤ 300) → (allB l).length ≤ 300 * l.length
  | [], _ => by simp [allB]
  | p :: l, h => by
    have h1 := cuts_all l (fun q hq => h q (by simp [hq]))
    have h2 := h p (by simp)
    have e : allB (p :: l) = p.2.2 ++ allB l := by simp [allB]
    rw [e, List.length_append, List.length_cons]
    omega
theorem cuts_len (ps : List Part) (k : Nat) : (allB ((cuts ps).take k)).length ≤ 2700 := by
  have h := cuts_all ((cuts ps).take k) (fun p hp => by
    have hp' := List.mem_of_mem_take hp
    obtain ⟨q, _, rfl⟩ := List.mem_map.1 hp'
    simp [cutP]; omega)
  have h2 : ((cuts ps).take k).length ≤ 9 := by rw [List.length_take, cuts_length]; omega
  omega

/-- half a byte's word, or none -/
def halfN (n : Int) : Nat := if 0 ≤ n ∧ n ≤ 15 then stepN 4 n.toNat else 0
theorem Half_any (n : Int) (w : World) (ht : Tab w) : Calls Tryd.prog 12 #[.int .i64 n] w fun e w' => e = .returned (.int .u32 (halfN n : Int)) ∧ w = w' := by
  unfold halfN
  by_cases h : 0 ≤ n ∧ n ≤ 15
  · obtain ⟨k, rfl⟩ := Int.eq_ofNat_of_zero_le h.1
    rw [if_pos h]
    exact Half_in k w (by omega) ht
  · rw [if_neg h]
    exact Half_out n w (by omega)

set_option maxRecDepth 100000 in
set_option maxHeartbeats 4000000 in
theorem walk (A : Option Addr) (c : Nat) (ps : List Part) (n : Int) (w : World) (hr : PartsIn w w.heap.size A ps) (hc : ps.length ≤ c) (hcm : c ≤ maxLen) (hx : -9223372036854775808 ≤ n ∧ n ≤ 9223372036854775807) (ht : Tab w) :
    Calls Tryd.prog 3 #[.slice A ps.length c, .int .i64 n] w fun e w' => e = .returned (.bool true) ∧ Below w.heap.size w w' := by
  obtain ⟨i0, hi', hz0', hz1', hz2'⟩ := info_parts info_sl
  have hi := Lib.hid hi'
  have hz0 := Lib.hid hz0'
  have hz1 := Lib.hid hz1'
  have hz2 := Lib.hid hz2'
  have HR := Lib.hid hr
  have HT := Lib.hid ht
  unfold maxLen at hcm
  obtain ⟨hx1, hx2⟩ := hx
  clear hi' hz0' hz1' hz2' hr ht
  go_enter Tryd.func3, Tryd.ntmps3
  go_wp2
  go_loopw [5, 6, 7] (fun r s i wr => ∃ k : Nat, k ≤ ps.length ∧ k ≤ 9 ∧ i = .int .i64 k ∧ s = .string (str (allB ((cuts ps).take k))) ∧ Hid (wr.ownsRow w.heap.size 23 1 r k (((cuts ps).take k).map partV)) ∧ Hid (Below w.heap.size w wr)) (fun _ _ i _ => 9 - (intOf i).toNat)
  case atStart => exact ⟨0, Nat.zero_le _, Nat.zero_le _, rfl, by simp [allB, str], by simpa [Hid] using World.ownsRow_nil w w.heap.size _ 1, Below.refl _ _⟩
  case round =>
    obtain ⟨k, hk, hk9, rfl, rfl, HO, HB⟩ := hrel
    have hlen := cuts_len ps k
    by_cases hgo : k < ps.length ∧ k < 9
    · obtain ⟨hlt, h9⟩ := hgo
      · obtain ⟨p, hp⟩ : ∃ p, ps[k]? = some p := ⟨_, List.getElem?_eq_getElem hlt⟩
        have hsn := Lib.hid (cuts_snoc ps k p h9 hp)
        obtain ⟨ad, rfl, hadB, hc0⟩ := HR.out.1 k (partV p) (by simp [hp])
        obtain ⟨hrd, hpl, hpm⟩ := HR.out.2 p (List.mem_of_getElem? hp)
        obtain ⟨A1, c1, bs⟩ := p
        simp only [partV] at hc0
        simp only at hrd hpl hpm
        have hc1 := (HB.out.cell (p := ad.add k) (by rw [block_add]; exact hadB)).trans hc0
        have HRD := Lib.hid hrd
        have HFEW : Hid (∀ w', Below w.heap.size w w' → Calls Tryd.prog 8 #[.slice A1 bs.length c1] w' fun e w'' => e = .returned (.slice A1 (bs.take 300).length c1) ∧ w' = w'') := fun w' hb =>
          few_any _ A1 c1 bs w' (hrd.below hb) hpl hpm
        obtain ⟨m, hm⟩ : ∃ m, (bs.take 300).length = m := ⟨_, rfl⟩
        have hm300 : m ≤ 300 := by rw [← hm]; simp; omega
        rw [hm] at HFEW
        have HM := Lib.hid hm
        obtain ⟨S, hS⟩ : ∃ S, S = str (allB ((cuts ps).take k)) := ⟨_, rfl⟩
        have hSz : S.size ≤ 2700 := by rw [hS, str_size]; exact hlen
        have hTz : (str (bs.take 300)).size ≤ 300 := by rw [str_size, hm]; exact hm300
        have HST : Hid (S ++ str (bs.take 300) = str (allB ((cuts ps).take (k + 1)))) := by
          rw [hsn.out, allB_append, allB_one, hS, str_append]; exact rfl
        have HS := Lib.hid hS
        rw [← hS]
        have hsz := HB.out.size
        have hkl : (k : Int) < 9 := by omega
        clear hp hrd hm hS hlen hc0
        go_wp2_with fail
        refine (HFEW.out _ HB.out).mono ?_
        rintro e w1 ⟨rfl, hw1⟩
        obtain rfl := hw1
        go_wp2_with (at_builtin; refine wpList_append_own _ rfl _ _ 22 rfl w.heap.size 23 i0 (.slice none 0 0) 1 24 Tryd.underlying22 hi.out hz0.out hz1.out hz2.out rfl (by decide) _ _ _ rfl (HO.out.alloc _) ⟨wr.heap.size, 0, none⟩ 1 1 [.slice A1 m c1] rfl rfl ?d1 ?d2 ?d3 ?d4 ?d5 ?_)
        case d1 =>
          intro j u hj
          match j, hj with
          | 0, hj => simp at hj; subst hj; simp [Addr.add]
        case d2 => intro u hu; simp at hu; subst hu; rfl
        case d3 => unfold maxLen; omega
        case d4 => omega
        case d5 => simp; omega
        intro r' w3 hown3 hgrow3 _
        have HO3 : Hid (w3.ownsRow w.heap.size 23 1 r' (k + 1) (((cuts ps).take (k + 1)).map partV)) := by
          have e2 : ([cutP (A1, c1, bs)].map partV) = [.slice A1 m c1] := by rw [← HM.out]; rfl
          rw [hsn.out, List.map_append, e2, List.map_take]; exact hown3
        have hb3 := (HB.out.alloc (by omega) _).grown hgrow3 (by simp; omega) (fun g hg => (HO.out.lt g hg).1)
        have HB3 := Lib.hid hb3
        have hc3 := (hb3.cell (p := ad.add k) (by rw [block_add]; exact hadB)).trans (((HB.out.cell (p := ad.add k) (by rw [block_add]; exact hadB)).symm).trans hc1)
        have hcv := run_conv (P := Tryd.prog) 23 5 9 Tryd.underlying23 Tryd.underlying5 under_str (bs := bs.take 300) (B := w.heap.size) m c1 HM.out (by have := (HRD.out.below hb3).take 300; rwa [← List.map_take] at this)
        clear hown3 hgrow3 hb3 hc1
        go_wp2_with fail
        refine (HFEW.out _ HB3.out).mono ?_
        rintro e w4 ⟨rfl, hw4⟩
        obtain rfl := hw4
        go_wp2
        go_roundw
        case rel => exact ⟨k + 1, by omega, by omega, by go_num, by rw [HST.out], HO3, HB3⟩
        case measure => simp [intOf]; omega
    · have hall : (cuts ps).take k = cuts ps := List.take_of_length_le (by rw [cuts_length]; omega)
      rw [hall] at HO hlen ⊢
      have hcl : (cuts ps).length = k := by rw [cuts_length]; omega
      have hout : (k < ps.length ∧ decide ((k : Int) < 9) = false) ∨ ¬ k < ps.length := by
        by_cases h : k < ps.length
        · exact .inl ⟨h, by simp; omega⟩
        · exact .inr h
      obtain ⟨A', c', rfl, _, _⟩ := own_len HO.out
      have hparts : ∀ w', Below wr.heap.size wr w' → Parts w' w'.heap.size A' (cuts ps) := fun w' hb => by
        refine ⟨(Rd.own HO.out).below hb |>.mono hb.size, fun p hp => ?_⟩
        obtain ⟨q, hq, rfl⟩ := List.mem_map.1 hp
        obtain ⟨hrd, _, _⟩ := HR.out.2 q (List.mem_of_mem_take hq)
        refine ⟨?_, by simp [cutP]; omega⟩
        have h1 := ((hrd.below HB.out).mono HB.out.size).below hb |>.mono hb.size
        have h2 := h1.take 300
        rwa [← List.map_take] at h2
      have HCL := Lib.hid hcl
      obtain ⟨s, hs⟩ : ∃ s, sumN (allB (cuts ps)) = s := ⟨_, rfl⟩
      have HS := Lib.hid hs
      obtain ⟨all, hall2⟩ : ∃ all, all = allB (cuts ps) := ⟨_, rfl⟩
      have HS2 : Hid (sumN all = s) := by rw [hall2]; exact HS.out
      have hal : all.length ≤ 2700 := by rw [hall2]; exact hlen
      rw [← hall2]
      have HSUM : Hid (∀ w', Below wr.heap.size wr w' → Calls Tryd.prog 10 #[.slice A' k c'] w' fun e w'' => e = .returned (.int .u32 (s : Int)) ∧ w' = w'') := fun w' hb => by
        have h := Sum_any _ A' c' (cuts ps) w' (hparts w' hb) (by rw [HCL.out]; omega) ((HT.out.up HB.out).up hb)
        rw [HCL.out, HS.out] at h
        exact h
      have HREF : Hid (∀ w', Calls Tryd.prog 11 #[.string (str all)] w' fun e w'' => e = .returned (.int .u32 (s : Int)) ∧ w' = w'') := fun w' => refSum_any all s w' (by omega) HS2.out
      have HL := Lib.hid hal
      obtain ⟨hf, hhf⟩ : ∃ hf : Int, hf = (halfN n : Int) := ⟨_, rfl⟩
      have HHALF : Hid (∀ w', Below wr.heap.size wr w' → Calls Tryd.prog 12 #[.int .i64 n] w' fun e w'' => e = .returned (.int .u32 hf) ∧ w' = w'') := fun w' hb => by rw [hhf]; exact Half_any n w' ((HT.out.up HB.out).up hb)
      have hn3 : (n < 0 ∧ hf = 0) ∨ (15 < n ∧ hf = 0) ∨ (0 ≤ n ∧ n ≤ 15) := by
        by_cases h0 : n < 0
        · exact .inl ⟨h0, by rw [hhf]; unfold halfN; rw [if_neg (by omega)]; rfl⟩
        · by_cases h1 : 15 < n
          · exact .inr (.inl ⟨h1, by rw [hhf]; unfold halfN; rw [if_neg (by omega)]; rfl⟩)
          · exact .inr (.inr ⟨by omega, by omega⟩)
      have HSTEPS : Hid (0 ≤ n → n ≤ 15 → ∀ w', Calls Tryd.prog 9 #[.int .u32 n, .int .i64 4] w' fun e w'' => e = .returned (.int .u32 hf) ∧ w' = w'') := fun h1 h2 w' => by
        obtain ⟨j, rfl⟩ := Int.eq_ofNat_of_zero_le h1
        have h := Steps_at (j : Int) 4 j 4 w' rfl rfl (by omega) (by omega)
        rw [hhf]; unfold halfN; rw [if_pos ⟨h1, h2⟩]
        exact h
      have HHF := Lib.hid hhf
      obtain ⟨c2, w2, hrun, hb2, hrd2⟩ := conv_in (P := Tryd.prog) 9 23 5 under_str Tryd.underlying23 Tryd.underlying5 wr all all.length rfl
      have HB2 := Lib.hid hb2
      have HRD2 := Lib.hid hrd2
      have hsz := hb2.size
      have hsz0 := HB.out.size
      have k2 := Lib.hid (Rd.new w2 23 #[.slice (some ⟨wr.heap.size, 0, none⟩) all.length c2] (0, 0))
      have HSUM1 : Hid (Calls Tryd.prog 10 #[.slice (some ⟨w2.heap.size, 0, none⟩) 1 1] (w2.alloc (.cells #[.slice (some ⟨wr.heap.size, 0, none⟩) all.length c2] 23)) fun e w'' => e = .returned (.int .u32 (s : Int)) ∧ (w2.alloc (.cells #[.slice (some ⟨wr.heap.size, 0, none⟩) all.length c2] 23)) = w'') :=
        Sum_one _ _ _ _ _ all.length s all _ rfl HS2.out (by omega) k2.out ((hrd2.alloc (Nat.le_refl _) _).mono (Nat.le_succ _)) (((HT.out.up HB.out).up hb2).alloc _)
      clear hs hall hall2 hparts hcl hgo hlen hal hhf hb2 hrd2
      rcases hn3 with ⟨hn, rfl⟩ | ⟨hn, rfl⟩ | ⟨hn, hn'⟩ <;> rcases hout with ⟨ho1, ho2⟩ | ho1
      all_goals
        go_wp2_with fail
        first
          | ((with_reducible refine (HSTEPS.out (by assumption) (by assumption) _).mono ?_); rintro e w1 ⟨rfl, hw1⟩; obtain rfl := hw1; go_wp2_with fail)
          | skip
        with_reducible refine (HSUM.out _ (Below.refl _ _)).mono ?_
        rintro e w1 ⟨rfl, hw1⟩
        obtain rfl := hw1
        go_wp2_with fail
        with_reducible refine (HREF.out _).mono ?_
        rintro e w1 ⟨rfl, hw1⟩
        obtain rfl := hw1
        go_wp2_with fail
        with_reducible refine HSUM1.out.mono ?_
        rintro e w1 ⟨rfl, hw1⟩
        have HB3 : Hid (Below wr.heap.size wr w1) := by rw [← hw1]; exact HB2.out.alloc hsz _
        clear hw1
        go_wp2_with fail
        with_reducible refine (HREF.out _).mono ?_
        rintro e w3 ⟨rfl, hw3⟩
        obtain rfl := hw3
        go_wp2_with fail
        with_reducible refine (HHALF.out _ HB3.out).mono ?_
        rintro e w3 ⟨rfl, hw3⟩
        obtain rfl := hw3
        go_wp2_with fail
        refine (awake_any _ ((HT.out.up HB.out).up HB3.out)).mono ?_
        rintro e w5 ⟨rfl, hb5⟩
        have hsz3 := HB3.out.size
        go_wp2
        go_ret
        exact ⟨rfl, HB.out.trans ((HB3.out.mono hsz0).trans (hb5.mono (by omega)))⟩


set_option maxRecDepth 100000 in
theorem lifted (os : Os) (started : os.Started) (H : Type) (enc : TypeId × Value → H) :
    ReturnsInHanded {} Tryd.checked os 3 .any (fun w args => (Rows.crcSumsSpec.pre enc Tryd.prog Tryd.f3 [] false w args ∧ laidMetH Tryd.prog laidHalves w) ∧ sizedMet enc Tryd.prog Tryd.f3 (OpenSpec.ofChange Rows.crcSumsSpec) false w args) (Rows.crcSumsSpec.post enc Tryd.prog Tryd.f3 false true false false) := by
  refine returnsInHanded_of_change_and (C := Tryd.checked) (X := fun w _ => laidMetH Tryd.prog laidHalves w) (fun _ _ _ hh h => h.of_heap hh) own started (by kernel_rfl) Tryd.func3
    (ChangeSpec.witness_shaped (enc := enc) (C := Tryd.checked) (os := os) (X := fun w _ => laidMetH Tryd.prog laidHalves w) false (World.doorLaid Tryd.prog 400 os) #[.slice none 0 0, .int .i64 0] 8 rfl (World.shaped_of_RefB (by kernel_rfl) (by kernel_rfl)) (by kernel_rfl) (by kernel_rfl) (by kernel_rfl) (door_met os _)) ?_
  intro W base args ds gs before hval0 hW _ _ hL _
  have hTab := tab_of_laid hL
  have hval : ∀ (j : Nat) t v, Tryd.f3.params[j]? = some t → args[j]? = some v → Value.okWide Tryd.prog W .any base t v := hval0
  have hW' := hW
  obtain ⟨p, q, hA0, hV, rfl, hfz, hnd⟩ := hW
  have hA : DataW.TrodAll enc Tryd.prog W 0 (fun _ => true) true Tryd.f3.params.toList args.toList ds p := hA0
  rw [Tryd.params3] at hA hval
  obtain ⟨v0, vs0, d0, ds0, p0, q0, hargs, rfl, rfl, h0, r0⟩ := trodAll_cons hA
  obtain ⟨v1, vs1, d1, ds1, p1, q1, rfl, rfl, rfl, h1, r1⟩ := trodAll_cons r0
  obtain ⟨rfl, rfl, rfl⟩ := trodAll_nil r1
  obtain rfl : args = #[v0, v1] := by cases args; simp_all
  obtain ⟨rfl, rfl⟩ := trodVars_none hV
  obtain ⟨a0, len0, cap0, rfl⟩ := okWide_slice Tryd.underlying22 (hval 0 22 v0 rfl rfl)
  have lt0 : ∀ x ∈ p0, x.block < W.heap.size := by obtain ⟨m, hm⟩ := h0; exact DataW.trod_lt m _ _ _ hm
  obtain ⟨x0, rfl, hc0, hm0, hr0⟩ := rows_in Tryd.underlying22 Tryd.underlying23 Tryd.underlying5 (by kernel_rfl) (by kernel_rfl) h0
  obtain ⟨x1, rfl, rfl, rfl, wx1⟩ := open_int Tryd.underlying3 (hval 1 3 v1 rfl rfl) h1
  have hx1 := bounds_i64 wx1
  clear hA0 hval0
  refine (walk a0 cap0 x0 x1 W hr0 hc0 hm0 hx1 hTab).mono fun e W' ⟨he, bel⟩ => ?_
  subst he
  exact ⟨_, rfl, _, _, _, [], _, [], hW', trodAll_mk1 (shut_bool Tryd.underlying4 _), (trodAll_cons_mk (Below.trod laidOut (by kernel_rfl) (of_decide_eq_true (by kernel_rfl)) h0 bel lt0) (trodAll_cons_mk (shut_int Tryd.underlying3 wx1) trodAll_mk0)), rfl, bel.frame _, fun h => by cases h⟩

theorem over : Rows.crcSumsRow.holds Tryd.pinned (OpenSpec.ofChange Rows.crcSumsSpec) :=
  OpenClaim.holds_of_wide 3 Tryd.f3 rfl rfl rfl rfl rfl rfl rfl ⟨rfl, rfl, rfl, rfl, rfl⟩ rfl rfl rfl rfl rfl (by kernel_rfl) Tryd.func3 (by kernel_rfl)
    (of_decide_eq_true (by kernel_rfl)) (by unfold Func.isWrapper; first | (rw [if_pos (by decide +kernel)]; kernel_rfl) | (rw [if_neg (by decide +kernel)]; exact ⟨rfl, rfl⟩))
    (fun os started H enc _ => lifted os started H enc)

theorem proved : Rows.CrcSumsCardSaid :=
  Claim7.holds_tied_plain_at .later [] [.data] true _ false
    over (fun _ h => by cases h) (by kernel_rfl) (fun _ h => by cases h) crcSums_row_tie rfl ⟨rfl, rfl⟩ (by kernel_rfl) rfl
    (fun f fn hf hfn => by
      obtain rfl : f = 3 := Option.some.inj ((show Tryd.prog.funcNamed "haymow/haymowlaw02.CrcSums" = some 3 by kernel_rfl).symm.trans hf) |>.symm
      obtain rfl : fn = Tryd.f3 := (Option.some.inj (Tryd.func3.symm.trans hfn)).symm
      exact ⟨by kernel_rfl, fun j t ht => by
        rw [Tryd.params3] at ht
        have hm : t ∈ [22, 3] := by simpa using Array.mem_of_getElem? ht
        have hall : ([22, 3].all fun u => !Tryd.prog.wantsStandIn u) = true := by kernel_rfl
        exact (show Tryd.prog.wantsStandIn t = false by simpa using List.all_eq_true.1 hall t hm)⟩)
    (by kernel_rfl)
#print axioms proved
end Go.Proofs.YtngbkeaonkocmaaDoor.crcSums
