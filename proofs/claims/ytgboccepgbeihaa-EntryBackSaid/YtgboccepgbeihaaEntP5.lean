/-
  What the landed entry's Find, Take and Add answer. (Printed by wip/tools/entp5.py.)
-/
import Derived.Test.YtgboccepgbeihaaEntP2
import Derived.Test.YtgboccepgbeihaaEntP4
import Derived.Test.YtgboccepgbeihaaRegTail
namespace Go.Proofs.Ytgboccepgbeihaa
open Go.RowKit
set_option maxRecDepth 100000
set_option linter.unusedVariables false

theorem etsV_drop (l : List Et) (k : Nat) : etsV (l.drop k) = (etsV l).drop (k * 3) := by
  induction l generalizing k with
  | nil => simp [etsV]
  | cons x l ih =>
    cases k with
    | zero => simp [etsV]
    | succ k =>
      rw [List.drop_succ_cons, etsV_cons, ih, show (k + 1) * 3 = k * 3 + 1 + 1 + 1 from by omega]
      simp
/-- a part of a slice of entries -/
theorem ets_cut {w : World} {B : Nat} {l : List Et} {A : Option Addr} {n c : Nat} (hl : l.length = n) (hnc : n ≤ c) (hc : c ≤ maxLen) (h : Rd w B A (etsV l)) (hB : B ≤ w.heap.size) (lo hi : Nat) (h1 : lo ≤ hi) (h2 : hi ≤ n) : EtsW w ((l.take hi).drop lo) (sliced A lo hi c 3) := by
  refine ⟨_, _, _, rfl, by rw [List.length_drop, List.length_take]; omega, by omega, by omega, ?_⟩
  by_cases hcl : c = lo
  · have : (l.take hi).drop lo = [] := List.drop_eq_nil_of_le (by rw [List.length_take]; omega)
    rw [this]; exact Rd.nil_
  · rw [if_neg hcl]
    cases A with
    | none =>
      have : l = [] := by
        cases l with
        | nil => rfl
        | cons x l => obtain ⟨ad, e, _⟩ := h 0 (.string (str x.name)) (by rw [etsV_cons]; rfl); cases e
      rw [this]; simp [etsV]; exact Rd.nil_
    | some ad =>
      rw [etsV_drop, etsV_take]
      exact ((h.take _).drop _).mono hB
theorem run_cut_h (A : Option Addr) (n c i : Nat) (wx : World) (h : i ≤ c) : (Instr.slice 22 (.slice A n c) none (some (.int .i64 (i : Int))) none).run Try.prog wx = .ok (sliced A 0 i c 3) wx := by
  have he : (Try.prog).elem 22 = 38 := by kernel_rfl
  rw [run_slice_h wx 22 A n c (by kernel_rfl) .i64 (i : Int) (by omega) (by omega), he, Try.sizeOf38]
  rfl
theorem run_cut_l (A : Option Addr) (n c i : Nat) (z : Int) (wx : World) (hz : z = (i : Int)) (h : i ≤ n) : (Instr.slice 22 (.slice A n c) (some (.int .i64 z)) none none).run Try.prog wx = .ok (sliced A i n c 3) wx := by
  subst hz
  have he : (Try.prog).elem 22 = 38 := by kernel_rfl
  rw [run_slice_l wx 22 A n c (by kernel_rfl) .i64 (i : Int) (by omega) (by omega), he, Try.sizeOf38]
  rfl
theorem Spot.cut {l : List Et} {s : List UInt8} {i : Nat} (hp : l.Pairwise ltE) (h : Spot l s i true) : cutE l s = l.take i ++ l.drop (i + 1) := by
  obtain ⟨x, hx, e, _⟩ := spot_at hp h.lo h.hi h.there.symm
  obtain ⟨hi, hh⟩ := List.getElem?_eq_some_iff.1 hx
  have hs : l = l.take i ++ x :: l.drop (i + 1) := by
    conv => lhs; rw [← List.take_append_drop i l, List.drop_eq_getElem_cons hi, hh]
  have ht : ∀ y ∈ l.take i, y.name ≠ s := fun y hy e2 => by
    obtain ⟨j, hj, hg⟩ := List.mem_iff_getElem.1 hy
    rw [List.length_take] at hj
    have := h.lo j y (by omega) (by rw [← hg, List.getElem_take]; exact List.getElem?_eq_getElem (by omega))
    rw [e2, ord_self] at this; omega
  have hd : ∀ y ∈ l.drop (i + 1), y.name ≠ s := fun y hy e2 => by
    rw [hs, List.pairwise_append, List.pairwise_cons] at hp
    have := hp.2.1.1 y hy
    exact this.ne (by rw [e, e2])
  unfold cutE
  conv => lhs; rw [hs]
  rw [List.filter_append, List.filter_cons_of_neg (by simp [e]), List.filter_eq_self.2 fun y hy => decide_eq_true (ht y hy), List.filter_eq_self.2 fun y hy => decide_eq_true (hd y hy)]
theorem Spot.put {l : List Et} {s : List UInt8} {i : Nat} (hp : l.Pairwise ltE) (h : Spot l s i false) (x : Et) (hx : x.name = s) : putE l x = l.take i ++ x :: l.drop i := by
  have ht : ∀ y ∈ l.take i, ordT y.name s < 0 := fun y hy => by
    obtain ⟨j, hj, hg⟩ := List.mem_iff_getElem.1 hy
    rw [List.length_take] at hj
    exact h.lo j y (by omega) (by rw [← hg, List.getElem_take]; exact List.getElem?_eq_getElem (by omega))
  have hd : ∀ y ∈ l.drop i, 0 < ordT y.name s := fun y hy => by
    obtain ⟨j, hj, hg⟩ := List.mem_iff_getElem.1 hy
    rw [List.length_drop] at hj
    have h1 := h.hi (i + j) y (by omega) (by rw [← hg, List.getElem_drop]; exact List.getElem?_eq_getElem (by omega))
    have h2 : ordT y.name s ≠ 0 := fun e0 => by
      have e2 := (ordT_zero _ _).1 e0
      have := (hasE_iff l s).2 ⟨y, List.mem_of_mem_drop hy, e2⟩
      rw [← h.there] at this; cases this
    omega
  unfold putE
  rw [hx]
  conv => lhs; rw [← List.take_append_drop i l]
  rw [List.filter_append, List.filter_append, List.filter_eq_self.2 fun y hy => decide_eq_true (ht y hy), (List.filter_eq_nil_iff (l := l.drop i)).2 fun y hy => by have := hd y hy; simp; omega,
    (List.filter_eq_nil_iff (l := l.take i)).2 fun y hy => by have := ht y hy; simp; omega, List.filter_eq_self.2 fun y hy => decide_eq_true (hd y hy)]
  simp
theorem find_of {l : List Et} {s : List UInt8} {i : Nat} {t : Bool} {q : Int} (h : Sought l s i t q) : findQ l s = if q = 0 then (if t = true then 0 else 6) else q := by
  obtain ⟨h1, h2⟩ := h
  by_cases hq : q = 0
  · rw [if_pos hq]
    obtain ⟨a, b⟩ := spotQ_zero.1 (h1 ▸ hq)
    have := (h2 hq).there
    unfold findQ
    rw [a, b, ← this]
    cases t <;> rfl
  · rw [if_neg hq, h1]
    unfold findQ spotQ at *
    cases hm : mayE l <;> cases hi : isT s <;> simp [hm, hi] at *
    exact absurd h1 hq
theorem Sought.pair {l : List Et} {s : List UInt8} {i : Nat} {t : Bool} (h : Sought l s i t 0) : mayE l = true ∧ l.Pairwise ltE ∧ Spot l s i t :=
  have hm := (spotQ_zero.1 h.1.symm).1
  ⟨hm, ((mayE_iff l).1 hm).2.1, h.2 rfl⟩

set_option maxHeartbeats 4000000 in
theorem eFind_any (B : Nat) (A : Option Addr) (n c : Nat) (l : List Et) (s : List UInt8) (w : World) (hl : l.length = n) (hn : n ≤ 1000000) (hr : Rd w B A (etsV l)) (hB : B ≤ w.heap.size) (hs : ∀ x ∈ l, x.name.length ≤ 100000) (hss : s.length ≤ 100000) :
    Calls Try.prog 17 #[.slice A n c, .string (str s)] w fun e w' => e = .returned (.tuple #[etG (findR l s), .int .i64 (findQ l s)]) ∧ Below w.heap.size w w' := by
  have HL := Lib.hid hl
  have HR0 := Lib.hid hr
  have HS := Lib.hid hs
  have HSE := Lib.hid fun w' (hb : Below w.heap.size w w') => sought_any B A n c l s w' hl hn (hr.below (hb.mono hB)) (Nat.le_trans hB hb.size) hs hss
  have HB0 := Lib.hid ((Below.refl w.heap.size w).alloc (Nat.le_refl _) (.cells #[.string ByteArray.empty, .int .i64 0, .int .i64 0] 38))
  have K0 := Lib.hid (Bk.new w 38 #[.string ByteArray.empty, .int .i64 0, .int .i64 0])
  obtain ⟨qq, hqq⟩ : ∃ qq, findQ l s = qq := ⟨_, rfl⟩
  obtain ⟨FF, hFF⟩ : ∃ FF, etG (findR l s) = FF := ⟨_, rfl⟩
  have HQ : Hid (findQ l s = qq) := hqq
  have HF : Hid (FF = if qq = 0 then etG (getE l s) else etG noE) := by show _ = _; rw [← hFF, ← hqq, findR]; split <;> rfl
  rw [hqq, hFF]
  have HNE : Hid (etG noE = .agg #[.string ByteArray.empty, .int .i64 0, .int .i64 0]) := rfl
  obtain ⟨S, hS⟩ : ∃ S, str s = S := ⟨_, rfl⟩
  rw [hS] at HSE ⊢
  clear hl hr hs hS hqq hFF
  go_enter Try.func17, Try.ntmps17
  go_wp2_with fail
  refine (HSE.out _ HB0.out).mono ?_
  rintro e w1 ⟨k, t, q, rfl, hst, hb⟩
  have K1 := Lib.hid (K0.out.below hb K0.out.lt)
  have HB1 := Lib.hid (HB0.out.trans (hb.mono HB0.out.size))
  have HST := Lib.hid hst
  clear hb hst K0 HB0
  by_cases hq : q = 0
  · subst hq
    cases t with
    | false =>
      obtain rfl : qq = 6 := by rw [← HQ.out, find_of HST.out]; rfl
      obtain rfl : FF = etG noE := HF.out
      obtain ⟨k0, k1, k2, f0, f1, f2⟩ := et_cells K1.out
      obtain ⟨p0, p1, p2, K2⟩ := et_puts K1.out (.string ByteArray.empty) (.int .i64 0) (.int .i64 0)
      have K2 := Lib.hid K2
      go_wp2
      refine bodyPost_ret (results_et rfl _ _ w.heap.size _ _ _ _ _ rfl rfl K2.out) rfl ⟨rfl, ?_⟩
      exact ((HB1.out.setCell (p := ⟨w.heap.size, 0, none⟩) (Nat.le_refl _) _).setCell (p := ⟨w.heap.size, 1, none⟩) (Nat.le_refl _) _).setCell (p := ⟨w.heap.size, 2, none⟩) (Nat.le_refl _) _
    | true =>
      obtain rfl : qq = 0 := by rw [← HQ.out, find_of HST.out]; rfl
      have hf : FF = etG (getE l s) := HF.out
      obtain ⟨hm, hp, sp⟩ := HST.out.pair
      obtain ⟨x, hx, -, hg⟩ := spot_at hp sp.lo sp.hi sp.there.symm
      have hkn : k < n := by have := (List.getElem?_eq_some_iff.1 hx).1; have := HL.out; omega
      have HOW := Lib.hid fun w' => own_any x.name x.ino x.ty w' (HS.out x (List.mem_of_getElem? hx))
      obtain ⟨b, o, rfl, hbB, -⟩ := HR0.out.plain (by rw [etsV_length, HL.out]; omega)
      obtain ⟨c0, c1, c2⟩ := ets_at (HR0.out.below (HB1.out.mono hB)) hx
      rw [hg] at hf
      subst hf
      obtain ⟨nm, qi, ti⟩ := x
      simp only at c0 c1 c2 HOW
      clear hg hx hm hp sp
      go_wp2_with fail
      refine (HOW.out _).mono ?_
      rintro e w2 ⟨rfl, hb⟩
      have K2 := Lib.hid (K1.out.below hb K1.out.lt)
      have HB2 := Lib.hid (HB1.out.trans (hb.mono HB1.out.size))
      clear hb K1 HB1 c0 c1 c2
      obtain ⟨k0, k1, k2, f0, f1, f2⟩ := et_cells K2.out
      obtain ⟨p0, p1, p2, K3⟩ := et_puts K2.out (.string (str nm)) (.int .i64 qi) (.int .i64 ti)
      have K3 := Lib.hid K3
      go_wp2
      refine bodyPost_ret (results_et rfl _ _ w.heap.size _ _ _ _ _ rfl rfl K3.out) rfl ⟨rfl, ?_⟩
      exact ((HB2.out.setCell (p := ⟨w.heap.size, 0, none⟩) (Nat.le_refl _) _).setCell (p := ⟨w.heap.size, 1, none⟩) (Nat.le_refl _) _).setCell (p := ⟨w.heap.size, 2, none⟩) (Nat.le_refl _) _
  · obtain rfl : qq = q := by rw [← HQ.out, find_of HST.out, if_neg hq]
    obtain rfl : FF = etG noE := by rw [HF.out, if_neg hq]
    obtain ⟨k0, k1, k2, f0, f1, f2⟩ := et_cells K1.out
    obtain ⟨p0, p1, p2, K2⟩ := et_puts K1.out (.string ByteArray.empty) (.int .i64 0) (.int .i64 0)
    have K2 := Lib.hid K2
    go_wp2
    refine bodyPost_ret (results_et rfl _ _ w.heap.size _ _ _ _ _ rfl rfl K2.out) rfl ⟨rfl, ?_⟩
    exact ((HB1.out.setCell (p := ⟨w.heap.size, 0, none⟩) (Nat.le_refl _) _).setCell (p := ⟨w.heap.size, 1, none⟩) (Nat.le_refl _) _).setCell (p := ⟨w.heap.size, 2, none⟩) (Nat.le_refl _) _

def slotTK (i : Nat) : Nat := 21 + i
def waitTK : Nat → List Nat
  | 2 => [0, 1]
  | 5 => [4]
  | 6 => [3, 5]
  | 7 => [2, 6]
  | _ => []
def leaveTK (A A1 A2 : Option Addr) (n c k n1 c1 n2 c2 : Nat) : Nat → Value → World → Prop
  | 0, v, _ => v = .slice A n c
  | 1, v, _ => v = .int .i64 (k : Int)
  | 2, v, _ => v = .slice A1 n1 c1
  | 3, v, _ => v = .slice A n c
  | 4, v, _ => v = .int .i64 (k : Int)
  | 5, v, _ => v = .int .i64 ((k : Int) + 1)
  | 6, v, _ => v = .slice A2 n2 c2
  | _, _, _ => True

set_option maxHeartbeats 8000000 in
theorem eTake_any (B : Nat) (A : Option Addr) (n c : Nat) (l : List Et) (s : List UInt8) (w : World) (hl : l.length = n) (hnc : n ≤ c) (hc : c ≤ maxLen) (hn : n ≤ 1000) (hr : Rd w B A (etsV l)) (hB : B ≤ w.heap.size) (hs : ∀ x ∈ l, x.name.length ≤ 100000) (hss : s.length ≤ 100000) :
    Calls Try.prog 21 #[.slice A n c, .string (str s)] w fun e w' => ∃ v, e = .returned (.tuple #[v, .int .i64 (findQ l s)]) ∧ EtsW w' (takeR l s) v ∧ Below w.heap.size w w' := by
  have HL := Lib.hid hl
  have HR0 := Lib.hid hr
  have HS := Lib.hid hs
  have HC := Lib.hid hc
  have HSE := Lib.hid fun w' (hb : Below w.heap.size w w') => sought_any B A n c l s w' hl (by omega) (hr.below (hb.mono hB)) (Nat.le_trans hB hb.size) hs hss
  obtain ⟨qq, hqq⟩ : ∃ qq, findQ l s = qq := ⟨_, rfl⟩
  obtain ⟨RR, hRR⟩ : ∃ RR, takeR l s = RR := ⟨_, rfl⟩
  have HQ : Hid (findQ l s = qq) := hqq
  have HF : Hid (RR = if qq = 0 then cutE l s else []) := by show _ = _; rw [← hRR, ← hqq]; rfl
  rw [hqq, hRR]
  obtain ⟨S, hS⟩ : ∃ S, str s = S := ⟨_, rfl⟩
  rw [hS] at HSE ⊢
  clear hl hr hs hS hqq hRR hc
  go_enter Try.func21, Try.ntmps21
  go_wp2_with fail
  refine (HSE.out _ (Below.refl _ _)).mono ?_
  rintro e w1 ⟨k, t, q, rfl, hst, hb⟩
  have HB1 := Lib.hid hb
  have HST := Lib.hid hst
  clear hb hst
  by_cases hq : q = 0
  · subst hq
    cases t with
    | false =>
      obtain rfl : qq = 6 := by rw [← HQ.out, find_of HST.out]; rfl
      obtain rfl : RR = [] := HF.out
      go_wp2
      go_ret2
      exact ⟨_, rfl, EtsW.nil_ _, HB1.out⟩
    | true =>
      obtain rfl : qq = 0 := by rw [← HQ.out, find_of HST.out]; rfl
      have hf : RR = cutE l s := HF.out
      obtain ⟨hm, hp, sp⟩ := HST.out.pair
      have hkn : k < n := by
        obtain ⟨x, hx, _⟩ := spot_at hp sp.lo sp.hi sp.there.symm
        have := (List.getElem?_eq_some_iff.1 hx).1
        have := HL.out
        omega
      have HFL : Hid (RR = [l.take k, l.drop (k + 1)].flatten) := by
        show _ = _
        rw [hf, sp.cut hp]; simp
      clear hf hm hp sp
      have hrd1 := HR0.out.below (HB1.out.mono hB)
      have hB1 := Nat.le_trans hB HB1.out.size
      have e1 := ets_cut HL.out hnc HC.out hrd1 hB1 0 k (Nat.zero_le _) (by omega)
      have e2 := ets_cut HL.out hnc HC.out hrd1 hB1 (k + 1) n (by omega) (Nat.le_refl _)
      rw [List.drop_zero] at e1
      rw [List.take_of_length_le (by rw [HL.out]; exact Nat.le_refl _)] at e2
      have HC1 : Hid (∀ wx, (Instr.slice 22 (.slice A n c) none (some (.int .i64 (k : Int))) none).run Try.prog wx = .ok (sliced A 0 k c 3) wx) := fun wx => run_cut_h A n c k wx (by omega)
      have HC2 : Hid (∀ wx, (Instr.slice 22 (.slice A n c) (some (.int .i64 ((k : Int) + 1))) none none).run Try.prog wx = .ok (sliced A (k + 1) n c 3) wx) := fun wx => run_cut_l A n c (k + 1) _ wx (by omega) (by omega)
      obtain ⟨A1, n1, c1, h1, -⟩ := id e1
      obtain ⟨A2, n2, c2, h2, -⟩ := id e2
      rw [h1] at e1 HC1
      rw [h2] at e2 HC2
      have E1 := Lib.hid e1
      have E2 := Lib.hid e2
      have HW1 : Hid (IntKind.i64.wrap ((k : Int) + 1) = (k : Int) + 1) := wrap_i64 (a := k + 1) (by omega)
      have HSS : Hid (∀ l' ∈ [l.take k, l.drop (k + 1)], ∀ x ∈ l', x.name.length ≤ 100000) := fun l' hl' x hx => by
        simp only [List.mem_cons, List.not_mem_nil, or_false] at hl'
        rcases hl' with rfl | rfl
        · exact HS.out x (List.mem_of_mem_take hx)
        · exact HS.out x (List.mem_of_mem_drop hx)
      have HLN : Hid ([l.take k, l.drop (k + 1)].flatten.length ≤ 1000) := by
        show _ ≤ _
        have := HL.out
        simp; omega
      clear h1 h2 e1 e2 hrd1
      go_wp2_with fail
      refine wp_region_tail (by kernel_rfl) 7 30 slotTK waitTK (leaveTK A A1 A2 n c k n1 c1 n2 c2) rfl
        (by kernel_rfl) (fun i v w w' _ _ h => by unfold leaveTK at *; split at h <;> exact h) ?_ ?_
      · intro i hi
        match i, hi with
        | 0, _ =>
          intro o ho a wc hk hb hd K hK
          cases ho
          have e0 := hk.rest 0 (.slice A n c) (by omega) (by kernel_rfl) rfl
          rw [Array.getD_eq_getD_getElem?] at e0
          go_simp
          exact hK _ _ (Below.refl _ _) rfl
        | 1, _ =>
          intro o ho a wc hk hb hd K hK
          cases ho
          have e0 := hk.rest 6 (.int .i64 (k : Int)) (by omega) (by kernel_rfl) rfl
          rw [Array.getD_eq_getD_getElem?] at e0
          go_simp
          exact hK _ _ (Below.refl _ _) rfl
        | 2, _ =>
          intro o ho a wc hk hb hd K hK
          cases ho
          have e0 := hd 0 (by simp [waitTK])
          have e1 := hd 1 (by simp [waitTK])
          simp only [leaveTK, slotTK, Nat.reduceAdd, Array.getD_eq_getD_getElem?] at e0 e1
          have q0 := HC1.out wc
          go_simp
          exact hK _ _ (Below.refl _ _) rfl
        | 3, _ =>
          intro o ho a wc hk hb hd K hK
          cases ho
          have e0 := hk.rest 0 (.slice A n c) (by omega) (by kernel_rfl) rfl
          rw [Array.getD_eq_getD_getElem?] at e0
          go_simp
          exact hK _ _ (Below.refl _ _) rfl
        | 4, _ =>
          intro o ho a wc hk hb hd K hK
          cases ho
          have e0 := hk.rest 6 (.int .i64 (k : Int)) (by omega) (by kernel_rfl) rfl
          rw [Array.getD_eq_getD_getElem?] at e0
          go_simp
          exact hK _ _ (Below.refl _ _) rfl
        | 5, _ =>
          intro o ho a wc hk hb hd K hK
          cases ho
          have e0 := hd 4 (by simp [waitTK])
          simp only [leaveTK, slotTK, Nat.reduceAdd, Array.getD_eq_getD_getElem?] at e0
          have q0 := HW1.out
          go_simp
          exact hK _ _ (Below.refl _ _) rfl
        | 6, _ =>
          intro o ho a wc hk hb hd K hK
          cases ho
          have e0 := hd 3 (by simp [waitTK])
          have e1 := hd 5 (by simp [waitTK])
          simp only [leaveTK, slotTK, Nat.reduceAdd, Array.getD_eq_getD_getElem?] at e0 e1
          have q0 := HC2.out wc
          go_simp
          exact hK _ _ (Below.refl _ _) rfl
        | _ + 7, h => exact absurd h (by omega)
      · intro vals w5 hb hR
        have v0 := hR 0 (by omega)
        have v1 := hR 1 (by omega)
        have v2 := hR 2 (by omega)
        have v3 := hR 3 (by omega)
        have v4 := hR 4 (by omega)
        have v5 := hR 5 (by omega)
        have v6 := hR 6 (by omega)
        simp only [leaveTK] at v0 v1 v2 v3 v4 v5 v6
        clear hR
        simp only [putAll, slotTK, Nat.reduceAdd, List.setIfInBounds_toArray, List.set_cons_zero, List.set_cons_succ, List.drop_succ_cons, List.drop_zero, v0, v1, v2, v3, v4, v5, v6]
        clear v0 v1 v2 v3 v4 v5 v6
        have E1' := E1.out.up hb
        have E2' := E2.out.up hb
        have HB5 := Lib.hid (HB1.out.trans (hb.mono HB1.out.size))
        have HJ := join_any (w5.heap.size + 1) (some ⟨w5.heap.size, 0, none⟩) 2 2 [l.take k, l.drop (k + 1)] [.slice A1 n1 c1, .slice A2 n2 c2] (w5.alloc (.cells #[.slice A1 n1 c1, .slice A2 n2 c2] 22)) rfl rfl (Rd.new w5 22 #[.slice A1 n1 c1, .slice A2 n2 c2] (0, 0)) (by rw [World.alloc_size']; exact Nat.le_refl _)
          (fun j l' hj => by
            match j, hj with
            | 0, hj => cases hj; exact ⟨_, rfl, E1'.up ((Below.refl _ _).alloc (Nat.le_refl _) _)⟩
            | 1, hj => cases hj; exact ⟨_, rfl, E2'.up ((Below.refl _ _).alloc (Nat.le_refl _) _)⟩) HLN.out HSS.out (by decide)
        have HJ := Lib.hid HJ
        have HB6 := Lib.hid (HB5.out.alloc HB5.out.size (.cells #[.slice A1 n1 c1, .slice A2 n2 c2] 22))
        clear E1' E2' hb
        go_wp2_with fail
        refine HJ.out.mono ?_
        rintro e w6 ⟨v, rfl, hv, hb⟩
        have HV := Lib.hid hv
        have HB7 := Lib.hid (HB6.out.trans (hb.mono HB6.out.size))
        clear hv hb
        go_wp2
        go_ret2
        exact ⟨_, rfl, by rw [HFL.out]; exact HV.out, HB7.out⟩
  · obtain rfl : qq = q := by rw [← HQ.out, find_of HST.out, if_neg hq]
    obtain rfl : RR = [] := by rw [HF.out, if_neg hq]
    go_wp2
    go_ret2
    exact ⟨_, rfl, EtsW.nil_ _, HB1.out⟩
end Go.Proofs.Ytgboccepgbeihaa
