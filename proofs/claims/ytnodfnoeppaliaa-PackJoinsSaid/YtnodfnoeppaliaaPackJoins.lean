/-
  The record of two lists of numbers, one behind the other, is both records so; of two numbers of one width the less one's record comes first, octet by octet, as pack.Pack answers. Conditions: none.
-/
import Derived.Test.YtnodfnoeppaliaaAwake
import Derived.Test.YtnodfnoeppaliaaOpenNums
import Derived.Test.YtnodfnoeppaliaaRows
import Derived.Lib.SmallJoins
namespace Go.Proofs.Ytnodfnoeppaliaa.packJoins
open Go.ChangeShapes Go.WideShapes Go.ChangeAt Go.RowKit Go.Joins
open Go.ChangeMaps (open_string shut_string)
set_option linter.unusedVariables false

theorem few_at (B : Nat) (A : Option Addr) (c : Nat) (l : List Num') (n m : Nat) (w : World) (hm : l.length = m) (hn : (l.take 60).length = n) (hr : Rd w B A (numsV l)) (hc : m ≤ c) (hcm : c ≤ maxLen) :
    Calls Try.prog 15 #[.slice A m c] w fun e w' => e = .returned (.slice A n c) ∧ w = w' := by
  subst hn hm
  exact few_any B A c l w hr hc hcm
theorem info_num : (Try.prog.info? 42).map (fun i => (i.zero, i.size, i.bytes)) = some (some (.agg #[.int .i64 0, .int .u64 0]), 2, 16) := by kernel_rfl
theorem one_numsV (l : List Num') : ∀ u ∈ numsV l, u.oneCell' = true := by
  intro u hu
  simp only [numsV, List.mem_flatMap, List.mem_cons, List.not_mem_nil, or_false] at hu
  obtain ⟨p, _, rfl | rfl⟩ := hu <;> rfl

set_option maxRecDepth 100000 in
set_option maxHeartbeats 4000000 in
theorem walk (A A' : Option Addr) (m m' c c' : Nat) (l l' : List Num') (v x : Int) (w : World) (hm : l.length = m) (hm' : l'.length = m') (hr : Rd w w.heap.size A (numsV l)) (hr' : Rd w w.heap.size A' (numsV l')) (hc : m ≤ c) (hcm : c ≤ maxLen) (hc' : m' ≤ c') (hcm' : c' ≤ maxLen)
    (hv : ∀ p ∈ l, p.2 < 18446744073709551616) (hv' : ∀ p ∈ l', p.2 < 18446744073709551616) (hvb : 0 ≤ v ∧ v ≤ 18446744073709551615) (hxb : 0 ≤ x ∧ x ≤ 18446744073709551615) :
    Calls Try.prog 6 #[.agg #[.slice A m c, .slice A' m' c', .int .u64 v, .int .u64 x]] w fun e w' => e = .returned (.bool true) ∧ Below w.heap.size w w' := by
  obtain ⟨i5, hi5, hz5, hs5, hy5⟩ := info_parts info_num
  have I5 := Lib.hid (And.intro hi5 (And.intro hz5 (And.intro hs5 hy5)))
  obtain ⟨n, hn⟩ : ∃ n, (l.take 60).length = n := ⟨_, rfl⟩
  obtain ⟨n', hn'⟩ : ∃ n', (l'.take 60).length = n' := ⟨_, rfl⟩
  have hn60 : n ≤ 60 := by rw [← hn]; simp; omega
  have hn60' : n' ≤ 60 := by rw [← hn']; simp; omega
  obtain ⟨a, ha⟩ : ∃ a, l.take 60 = a := ⟨_, rfl⟩
  obtain ⟨b, hb⟩ : ∃ b, l'.take 60 = b := ⟨_, rfl⟩
  have hR : Rd w w.heap.size A (numsV a) := by rw [← ha, numsV_take]; exact hr.take _
  have hR' : Rd w w.heap.size A' (numsV b) := by rw [← hb, numsV_take]; exact hr'.take _
  have HAL : Hid (a.length = n) := by show _ = _; rw [← ha]; exact hn
  have HBL : Hid (b.length = n') := by show _ = _; rw [← hb]; exact hn'
  have HVA : Hid (∀ p ∈ a, p.2 < 18446744073709551616) := fun p hp => hv p (by rw [← ha] at hp; exact List.mem_of_mem_take hp)
  have HVB : Hid (∀ p ∈ b, p.2 < 18446744073709551616) := fun p hp => hv' p (by rw [← hb] at hp; exact List.mem_of_mem_take hp)
  have HRA := Lib.hid hR
  have HRB := Lib.hid hR'
  have HF1 : Hid (∀ j, Calls Try.prog 15 #[.slice A m c] ((w.alloc (.cells #[.slice A m c, .slice A' m' c', .int .u64 v, .int .u64 x] 45)).drewN j)
      fun e w'' => e = .returned (.slice A n c) ∧ ∃ k, w'' = (w.alloc (.cells #[.slice A m c, .slice A' m' c', .int .u64 v, .int .u64 x] 45)).drewN k) := fun j =>
    (few_at _ _ _ l n m _ hm hn ((hr.alloc (Nat.le_refl _) _).drewN j) hc hcm).mono fun e w' ⟨h1, h2⟩ => ⟨h1, j, h2.symm⟩
  have HF2 : Hid (∀ j, Calls Try.prog 15 #[.slice A' m' c'] ((w.alloc (.cells #[.slice A m c, .slice A' m' c', .int .u64 v, .int .u64 x] 45)).drewN j)
      fun e w'' => e = .returned (.slice A' n' c') ∧ ∃ k, w'' = (w.alloc (.cells #[.slice A m c, .slice A' m' c', .int .u64 v, .int .u64 x] 45)).drewN k) := fun j =>
    (few_at _ _ _ l' n' m' _ hm' hn' ((hr'.alloc (Nat.le_refl _) _).drewN j) hc' hcm').mono fun e w' ⟨h1, h2⟩ => ⟨h1, j, h2.symm⟩
  obtain ⟨hv0, hv1⟩ := hvb
  obtain ⟨hx0, hx1⟩ := hxb
  clear hi5 hz5 hs5 hy5 hn hn' ha hb hR hR' hv hv' hr hr' hm hm'
  go_enter Try.func6, Try.ntmps6
  go_wp2
  go_quiet ((first | (go_at_call 15; with_reducible exact HF1.out _) | (go_at_call 15; with_reducible exact HF2.out _)))
  obtain ⟨wz, hwz⟩ : ∃ wz, wz = (w.alloc (.cells #[.slice A m c, .slice A' m' c', .int .u64 v, .int .u64 x] 45)).drewN nq := ⟨_, rfl⟩
  have HBz : Hid (Below w.heap.size w wz) := by rw [hwz]; exact ((Below.refl _ _).alloc (Nat.le_refl _) _).drewN' nq
  rw [← hwz]
  clear hwz HF1 HF2
  have hszz := HBz.out.size
  obtain ⟨qa, hqa⟩ : ∃ q, codeL a = q := ⟨_, rfl⟩
  obtain ⟨qb, hqb⟩ : ∃ q, codeL b = q := ⟨_, rfl⟩
  obtain ⟨ba, hba⟩ : ∃ q, packB a = q := ⟨_, rfl⟩
  obtain ⟨bb, hbb⟩ : ∃ q, packB b = q := ⟨_, rfl⟩
  obtain ⟨qz, hqz⟩ : ∃ q, codeL (a ++ b) = q := ⟨_, rfl⟩
  obtain ⟨bz, hbz⟩ : ∃ q, packB (a ++ b) = q := ⟨_, rfl⟩
  have hqs : qz = if qa = 0 then qb else qa := by rw [← hqz, ← hqa, ← hqb]; exact codeL_append a b
  have hbs : qz = 0 → bz = ba ++ bb := by
    intro h0
    rw [h0] at hqs
    have h1 : qa = 0 := by
      by_cases h : qa = 0
      · exact h
      · rw [if_neg h] at hqs; exact absurd hqs.symm h
    have h2 : qb = 0 := by rw [if_pos h1] at hqs; exact hqs.symm
    rw [← hbz, ← hba, ← hbb]
    unfold packB
    rw [if_pos (by omega), if_pos (by omega), if_pos (by omega), recs_append]
  have hla : ba.length ≤ 480 := by
    have := packB_len a
    have h2 := HAL.out
    rw [hba] at this
    omega
  have hlb : bb.length ≤ 480 := by
    have := packB_len b
    have h2 := HBL.out
    rw [hbb] at this
    omega
  have HQA := Lib.hid hqa
  have HQB := Lib.hid hqb
  have HBA := Lib.hid hba
  have HBB := Lib.hid hbb
  have HQZ := Lib.hid hqz
  have HBZ := Lib.hid hbz
  have HQS := Lib.hid hqs
  have HBS := Lib.hid hbs
  clear hqa hqb hba hbb hqz hbz hqs hbs
  go_wp2_with fail
  refine (Pack_all w.heap.size A n c a ba _ qa _ HAL.out HQA.out HBA.out rfl (HRA.out.below HBz.out) hszz (by omega) HVA.out).mono ?_
  rintro e w1 ⟨A1, c1, rfl, h1c, h1m, r1, hb1⟩
  have HB1 := Lib.hid (HBz.out.trans (hb1.mono hszz))
  have hsz1 := hb1.size
  have R1 := Lib.hid r1
  clear hb1 r1
  go_wp2_with fail
  refine (Pack_all w.heap.size A' n' c' b bb _ qb _ HBL.out HQB.out HBB.out rfl (HRB.out.below HB1.out) (by omega) (by omega) HVB.out).mono ?_
  rintro e w2 ⟨A2, c2, rfl, h2c, h2m, r2, hb2⟩
  have HB2 := Lib.hid (HB1.out.trans (hb2.mono (by omega)))
  have hsz2 := hb2.size
  have R2 := Lib.hid r2
  have R1b := Lib.hid ((R1.out.below hb2).mono hsz2)
  have hemp : Hid ((w2.alloc (.cells #[] 42)).ownsRow w2.heap.size 42 2 (.slice (some ⟨w2.heap.size, 0, none⟩) 0 0) 0 []) := World.ownsRow_made w2 #[] 0 (Nat.le_refl _) (by simp) rfl
  have RAe := Lib.hid ((HRA.out.below HB2.out).alloc (by omega) (.cells #[] 42))
  clear hb2 r2 R1
  go_wp2_with (at_builtin; refine wpList_append_rd _ rfl (.tmp 38) (.tmp 39) 37 rfl w2.heap.size 42 i5 (.agg #[.int .i64 0, .int .u64 0]) 2 16 Try.underlying37 I5.out.1 I5.out.2.1 I5.out.2.2.1 I5.out.2.2.2 rfl (by decide) _ _ _ rfl hemp.out w.heap.size A n c (numsV a) rfl ?l1 RAe.out (one_numsV a) ?l3 ?l4 ?l5 ?_)
  case l1 => rw [numsV_length, HAL.out]; omega
  case l3 => unfold maxLen; omega
  case l4 => omega
  case l5 => simp
  intro v5 w3 hown5 hg5
  have hbw3 : Hid (Below w2.heap.size w2 w3) := ((Below.refl w2.heap.size w2).alloc (Nat.le_refl _) _).grown hg5 (by simp) (fun g hg => by simp [Value.ownBlock] at hg; omega)
  have HO5 := Lib.hid hown5
  have hsz3 := hbw3.out.size
  have RBe := Lib.hid ((HRB.out.below HB2.out).below (hbw3.out.mono (by omega)))
  clear hown5 hg5 hemp RAe
  go_wp2_with (at_builtin; refine wpList_append_rd _ rfl (.tmp 40) (.tmp 41) 37 rfl w2.heap.size 42 i5 (.agg #[.int .i64 0, .int .u64 0]) 2 16 Try.underlying37 I5.out.1 I5.out.2.1 I5.out.2.2.1 I5.out.2.2.2 rfl (by decide) _ _ _ rfl HO5.out w.heap.size A' n' c' (numsV b) rfl ?m1 RBe.out (one_numsV b) ?m3 ?m4 hsz3 ?_)
  case m1 => rw [numsV_length, HBL.out]; omega
  case m3 => unfold maxLen; omega
  case m4 => omega
  intro v6 w4 hown6 hg6
  have hbw4 : Hid (Below w2.heap.size w2 w4) := hbw3.out.grown hg6 hsz3 (fun g hg => (HO5.out.lt g hg).1)
  obtain ⟨A6, c6, h6, h6c, h6m⟩ := own_len hown6
  subst h6
  have R6 : Hid (Rd w4 w4.heap.size A6 (numsV (a ++ b))) := by show Rd _ _ _ _; rw [numsV_append]; simpa using Rd.own hown6
  have hsz4 := hbw4.out.size
  have hlab : Hid ((a ++ b).length = n + n') := by show _ = _; rw [List.length_append, HAL.out, HBL.out]
  have hvab : Hid (∀ p ∈ a ++ b, p.2 < 18446744073709551616) := fun p hp => by
    rcases List.mem_append.1 hp with h | h
    · exact HVA.out p h
    · exact HVB.out p h
  clear hown6 hg6 HO5 RBe
  go_wp2_with fail
  refine (Pack_all _ A6 _ c6 (a ++ b) bz _ qz _ (by first | exact hlab.out | (rw [hlab.out]; omega)) HQZ.out HBZ.out rfl R6.out (Nat.le_refl _) (by omega) hvab.out).mono ?_
  rintro e w5 ⟨A5, c5, rfl, h5c, h5m, r5, hb5⟩
  have HBw5 : Hid (Below w2.heap.size w2 w5) := hbw4.out.trans (hb5.mono hsz4)
  have hsz5 := HBw5.out.size
  have R5 := Lib.hid r5
  have R1c := Lib.hid ((R1b.out.below HBw5.out).mono hsz5)
  have R2c := Lib.hid ((R2.out.below HBw5.out).mono hsz5)
  clear hb5 r5 R1b R2 hbw3 hbw4 R6
  have hcv1 := run_conv (P := Try.prog) 22 5 9 Try.underlying22 Try.underlying5 under9 _ c1 rfl R1c.out
  have hcv2 := run_conv (P := Try.prog) 22 5 9 Try.underlying22 Try.underlying5 under9 _ c2 rfl R2c.out
  have hcv5 := run_conv (P := Try.prog) 22 5 9 Try.underlying22 Try.underlying5 under9 _ c5 rfl R5.out
  have hs1 : (str ba).size ≤ 480 := by rw [str_size]; exact hla
  have hs2 : (str bb).size ≤ 480 := by rw [str_size]; exact hlb
  have hcmp : qz = 0 → ((str bz).toList == (str ba ++ str bb).toList) = true := fun h => by rw [HBS.out h, str_append]; simp
  have HCMP := Lib.hid hcmp
  clear hcmp
  have hcases : (qa = 0 ∧ qb = 0 ∧ qz = 0) ∨ ((qa == 0) = false ∧ (qz == 0) = false) ∨ ((qa == 0) = true ∧ (qb == 0) = false ∧ (qz == 0) = false) := by
    have := HQS.out
    by_cases h1 : qa = 0
    · rw [if_pos h1] at this
      by_cases h2 : qb = 0
      · left; exact ⟨h1, h2, by rw [this, h2]⟩
      · right; right; exact ⟨by simpa using h1, by simpa using h2, by rw [this]; simpa using h2⟩
    · rw [if_neg h1] at this
      right; left; exact ⟨by simpa using h1, by rw [this]; simpa using h1⟩
  have hless : Hid (Op.bytesLess (str (be 8 v.toNat)).toList (str (be 8 x.toNat)).toList = decide (v < x)) := by
    show _ = _
    rw [str_toList, str_toList, less_be, Nat.mod_eq_of_lt (by omega), Nat.mod_eq_of_lt (by omega), Bool.eq_iff_iff, decide_eq_true_eq, decide_eq_true_eq]
    omega
  have hbk1 : Hid (∀ W : World, Rd (W.alloc (.cells #[.int .i64 8, .int .u64 v] 42)) (W.heap.size + 1) (some ⟨W.heap.size, 0, none⟩) (numsV [(8, v.toNat)])) := fun W => by
    have h := Rd.bk (Bk.new W 42 #[.int .i64 8, .int .u64 v])
    rw [World.alloc_size'] at h
    rw [show numsV [(8, v.toNat)] = [.int .i64 8, .int .u64 (v.toNat : Int)] from rfl, Int.toNat_of_nonneg hv0]
    exact h
  have hbk2 : Hid (∀ W : World, Rd (W.alloc (.cells #[.int .i64 8, .int .u64 x] 42)) (W.heap.size + 1) (some ⟨W.heap.size, 0, none⟩) (numsV [(8, x.toNat)])) := fun W => by
    have h := Rd.bk (Bk.new W 42 #[.int .i64 8, .int .u64 x])
    rw [World.alloc_size'] at h
    rw [show numsV [(8, x.toNat)] = [.int .i64 8, .int .u64 (x.toNat : Int)] from rfl, Int.toNat_of_nonneg hx0]
    exact h
  have hp1 : Hid (codeL [(8, v.toNat)] = 0 ∧ recs [(8, v.toNat)] = be 8 v.toNat ∧ v.toNat < 18446744073709551616) :=
    ⟨(pack1 8 v.toNat (by omega) (by omega) (show v.toNat < 256 ^ 8 by omega)).1, (pack1 8 v.toNat (by omega) (by omega) (show v.toNat < 256 ^ 8 by omega)).2, by omega⟩
  have hp2 : Hid (codeL [(8, x.toNat)] = 0 ∧ recs [(8, x.toNat)] = be 8 x.toNat ∧ x.toNat < 18446744073709551616) :=
    ⟨(pack1 8 x.toNat (by omega) (by omega) (show x.toNat < 256 ^ 8 by omega)).1, (pack1 8 x.toNat (by omega) (by omega) (show x.toNat < 256 ^ 8 by omega)).2, by omega⟩
  have HBall : Hid (Below w.heap.size w w5) := HB2.out.trans (HBw5.out.mono (by omega))
  have hszall := HBall.out.size
  rcases hcases with ⟨h1, h2, h3⟩ | ⟨h1, h2⟩ | ⟨h1, h2, h3⟩
  · have hcmp := HCMP.out h3
    have h1' : (qa == 0) = true := by simpa using h1
    have h2' : (qb == 0) = true := by simpa using h2
    have h3' : (qz == 0) = true := by simpa using h3
    clear h1 h2 h3
    go_wp2_with fail
    refine (Pack_ok _ _ 1 1 [(8, v.toNat)] (be 8 v.toNat) 8 _ rfl hp1.out.1 hp1.out.2.1 (be_length 8 _) (hbk1.out w5) (by simp) (by omega) (by intro p hp; simp at hp; subst hp; exact hp1.out.2.2)).mono ?_
    rintro e w6 ⟨A7, c7, rfl, _, h7m, r7, _, hb7⟩
    have HB7 := Lib.hid ((HBall.out.alloc hszall _).trans (hb7.mono (by simp; omega)))
    have R7 := Lib.hid r7
    have hsz7 := HB7.out.size
    clear hb7 r7
    go_wp2_with fail
    refine (Pack_ok _ _ 1 1 [(8, x.toNat)] (be 8 x.toNat) 8 _ rfl hp2.out.1 hp2.out.2.1 (be_length 8 _) (hbk2.out w6) (by simp) (by omega) (by intro p hp; simp at hp; subst hp; exact hp2.out.2.2)).mono ?_
    rintro e w7 ⟨A8, c8, rfl, _, h8m, r8, _, hb8⟩
    have HB8 := Lib.hid ((HB7.out.alloc hsz7 _).trans (hb8.mono (by simp; omega)))
    have R7b := Lib.hid ((R7.out.alloc (Nat.le_refl _) (.cells #[.int .i64 8, .int .u64 x] 42)).below (hb8.mono (by simp)))
    have hcv7 := run_conv (P := Try.prog) 22 5 9 Try.underlying22 Try.underlying5 under9 8 c7 (be_length 8 _) R7b.out
    have hcv8 := run_conv (P := Try.prog) 22 5 9 Try.underlying22 Try.underlying5 under9 8 c8 (be_length 8 _) r8
    have hless' := hless.out
    have hsz8 := HB8.out.size
    clear hb8 r8
    go_wp2_with fail
    refine (awake_any _).mono ?_
    rintro e w9 ⟨rfl, hb9⟩
    go_wp2
    go_ret
    exact ⟨rfl, HB8.out.trans (hb9.mono hsz8)⟩
  · go_wp2_with fail
    refine (Pack_ok _ _ 1 1 [(8, v.toNat)] (be 8 v.toNat) 8 _ rfl hp1.out.1 hp1.out.2.1 (be_length 8 _) (hbk1.out w5) (by simp) (by omega) (by intro p hp; simp at hp; subst hp; exact hp1.out.2.2)).mono ?_
    rintro e w6 ⟨A7, c7, rfl, _, h7m, r7, _, hb7⟩
    have HB7 := Lib.hid ((HBall.out.alloc hszall _).trans (hb7.mono (by simp; omega)))
    have R7 := Lib.hid r7
    have hsz7 := HB7.out.size
    clear hb7 r7
    go_wp2_with fail
    refine (Pack_ok _ _ 1 1 [(8, x.toNat)] (be 8 x.toNat) 8 _ rfl hp2.out.1 hp2.out.2.1 (be_length 8 _) (hbk2.out w6) (by simp) (by omega) (by intro p hp; simp at hp; subst hp; exact hp2.out.2.2)).mono ?_
    rintro e w7 ⟨A8, c8, rfl, _, h8m, r8, _, hb8⟩
    have HB8 := Lib.hid ((HB7.out.alloc hsz7 _).trans (hb8.mono (by simp; omega)))
    have R7b := Lib.hid ((R7.out.alloc (Nat.le_refl _) (.cells #[.int .i64 8, .int .u64 x] 42)).below (hb8.mono (by simp)))
    have hcv7 := run_conv (P := Try.prog) 22 5 9 Try.underlying22 Try.underlying5 under9 8 c7 (be_length 8 _) R7b.out
    have hcv8 := run_conv (P := Try.prog) 22 5 9 Try.underlying22 Try.underlying5 under9 8 c8 (be_length 8 _) r8
    have hless' := hless.out
    have hsz8 := HB8.out.size
    clear hb8 r8
    go_wp2_with fail
    refine (awake_any _).mono ?_
    rintro e w9 ⟨rfl, hb9⟩
    go_wp2
    go_ret
    exact ⟨rfl, HB8.out.trans (hb9.mono hsz8)⟩
  · go_wp2_with fail
    refine (Pack_ok _ _ 1 1 [(8, v.toNat)] (be 8 v.toNat) 8 _ rfl hp1.out.1 hp1.out.2.1 (be_length 8 _) (hbk1.out w5) (by simp) (by omega) (by intro p hp; simp at hp; subst hp; exact hp1.out.2.2)).mono ?_
    rintro e w6 ⟨A7, c7, rfl, _, h7m, r7, _, hb7⟩
    have HB7 := Lib.hid ((HBall.out.alloc hszall _).trans (hb7.mono (by simp; omega)))
    have R7 := Lib.hid r7
    have hsz7 := HB7.out.size
    clear hb7 r7
    go_wp2_with fail
    refine (Pack_ok _ _ 1 1 [(8, x.toNat)] (be 8 x.toNat) 8 _ rfl hp2.out.1 hp2.out.2.1 (be_length 8 _) (hbk2.out w6) (by simp) (by omega) (by intro p hp; simp at hp; subst hp; exact hp2.out.2.2)).mono ?_
    rintro e w7 ⟨A8, c8, rfl, _, h8m, r8, _, hb8⟩
    have HB8 := Lib.hid ((HB7.out.alloc hsz7 _).trans (hb8.mono (by simp; omega)))
    have R7b := Lib.hid ((R7.out.alloc (Nat.le_refl _) (.cells #[.int .i64 8, .int .u64 x] 42)).below (hb8.mono (by simp)))
    have hcv7 := run_conv (P := Try.prog) 22 5 9 Try.underlying22 Try.underlying5 under9 8 c7 (be_length 8 _) R7b.out
    have hcv8 := run_conv (P := Try.prog) 22 5 9 Try.underlying22 Try.underlying5 under9 8 c8 (be_length 8 _) r8
    have hless' := hless.out
    have hsz8 := HB8.out.size
    clear hb8 r8
    go_wp2_with fail
    refine (awake_any _).mono ?_
    rintro e w9 ⟨rfl, hb9⟩
    go_wp2
    go_ret
    exact ⟨rfl, HB8.out.trans (hb9.mono hsz8)⟩

set_option maxRecDepth 100000 in
theorem lifted (os : Os) (started : os.Started) (H : Type) (enc : TypeId × Value → H) :
    ReturnsInHanded {} Try.checked os 6 .any (Rows.packJoinsSpec.pre6 enc Try.prog Try.f6 Rows.packJoinsRow.domain false) (Rows.packJoinsSpec.post enc Try.prog Try.f6 false true false false) := by
  refine returnsInHanded_of_change (C := Try.checked) own started (by kernel_rfl) Try.func6
    (ChangeSpec.witness6 (enc := enc) (C := Try.checked) false ⟨#[], #[.agg #[.slice none 0 0, .slice none 0 0, .int .u64 0, .int .u64 0]], []⟩ 8 (by kernel_rfl) (by kernel_rfl) (by kernel_rfl) (by kernel_rfl)) ?_
  intro W base args ds gs before hval0 hW hcnd _
  have hval : ∀ (j : Nat) t v, Try.f6.params[j]? = some t → args[j]? = some v → Value.okWide Try.prog W .any base t v := hval0
  have hW' := hW
  obtain ⟨p, q, hA0, hV, rfl, hfz, hnd⟩ := hW
  have hA : DataW.TrodAll enc Try.prog W 0 (fun _ => true) true Try.f6.params.toList args.toList ds p := hA0
  rw [Try.params6] at hA hval
  obtain ⟨v0, vs0, d0, ds0, p0, q0, hargs, rfl, rfl, h0, r0⟩ := trodAll_cons hA
  obtain ⟨rfl, rfl, rfl⟩ := trodAll_nil r0
  obtain rfl : args = #[v0] := by cases args; simp_all
  obtain ⟨rfl, rfl⟩ := trodVars_none hV
  have k0 := h0
  have lt0 : ∀ x ∈ p0, x.block < W.heap.size := by obtain ⟨m, hm⟩ := h0; exact DataW.trod_lt m _ _ _ hm
  obtain ⟨u0, u1, u2, u3, y0, y1, y2, y3, n, rfl, _, _, hy0, hy1, hy2, hy3⟩ := open_agg4 Try.underlying45 (by kernel_rfl) (by kernel_rfl) (hval 0 45 v0 rfl rfl) h0
  obtain ⟨a0, n0, cap0, l0, rfl, hl0, hc0, hm0, hr0, hx0⟩ := nums_trod hy0
  obtain ⟨a1, n1, cap1, l1, rfl, hl1, hc1, hm1, hr1, hx1⟩ := nums_trod hy1
  obtain ⟨x2, e2, _, wx2⟩ := DataW.trod_int Try.underlying40 hy2
  obtain ⟨x3, e3, _, wx3⟩ := DataW.trod_int Try.underlying40 hy3
  simp only [List.cons.injEq, and_true] at e2 e3
  subst e2 e3
  clear hA0 hval0
  refine (walk a0 a1 n0 n1 cap0 cap1 l0 l1 x2 x3 W hl0 hl1 hr0 hr1 hc0 hm0 hc1 hm1 hx0 hx1 (bounds_u64 wx2) (bounds_u64 wx3)).mono fun e W' ⟨he, bel⟩ => ?_
  subst he
  exact ⟨_, rfl, _, _, _, [], _, [], hW', trodAll_mk1 (shut_bool Try.underlying4 _), (trodAll_cons_mk (Below.trod laidOut (by kernel_rfl) (of_decide_eq_true (by kernel_rfl)) k0 bel lt0) trodAll_mk0), rfl, bel.frame _, fun h => by cases h⟩

theorem over : Rows.packJoinsRow.holds Try.pinned (OpenSpec.ofChange Rows.packJoinsSpec) :=
  OpenClaim.holds_of_wide 6 Try.f6 rfl rfl rfl rfl rfl rfl rfl ⟨rfl, rfl, rfl, rfl, rfl⟩ rfl rfl rfl rfl rfl (by kernel_rfl) Try.func6 (by kernel_rfl)
    (of_decide_eq_true (by kernel_rfl)) (by unfold Func.isWrapper; first | (rw [if_pos (by decide +kernel)]; kernel_rfl) | (rw [if_neg (by decide +kernel)]; exact ⟨rfl, rfl⟩))
    (fun os started H enc _ => lifted os started H enc)

theorem proved : Rows.PackJoinsSaid := over
#print axioms proved
end Go.Proofs.Ytnodfnoeppaliaa.packJoins
