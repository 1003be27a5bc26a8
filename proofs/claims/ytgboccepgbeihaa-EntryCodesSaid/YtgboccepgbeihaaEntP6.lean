/-
  What the landed entry's Add answers. (Printed by wip/tools/entp5.py.)
-/
import Derived.Test.YtgboccepgbeihaaEntP5
namespace Go.Proofs.Ytgboccepgbeihaa
open Go.RowKit
set_option maxRecDepth 100000
set_option linter.unusedVariables false

def slotAK (i : Nat) : Nat := 27 + i
def waitAK : Nat → List Nat
  | 2 => [0, 1]
  | 4 => [3]
  | 7 => [5, 6]
  | 8 => [2, 4, 7]
  | _ => []
def leaveAK (A A1 A2 : Option Addr) (n c k n1 c1 n2 c2 : Nat) (X : ByteArray) (xi xt : Int) : Nat → Value → World → Prop
  | 0, v, _ => v = .slice A n c
  | 1, v, _ => v = .int .i64 (k : Int)
  | 2, v, _ => v = .slice A1 n1 c1
  | 3, v, _ => v = .agg #[.string X, .int .i64 xi, .int .i64 xt]
  | 4, v, w => ∃ g, v = .slice (some ⟨g, 0, none⟩) 1 1 ∧ Bk w g 38 #[.string X, .int .i64 xi, .int .i64 xt]
  | 5, v, _ => v = .slice A n c
  | 6, v, _ => v = .int .i64 (k : Int)
  | 7, v, _ => v = .slice A2 n2 c2
  | _, _, _ => True
theorem add_of {l : List Et} {x : Et} {i : Nat} {t : Bool} {q : Int} (h : Sought l x.name i t q) : addQ l x = if q = 0 then (if rightE x = false then 1 else if t = true then 7 else if 30 ≤ l.length then 8 else 0) else q := by
  obtain ⟨h1, h2⟩ := h
  by_cases hq : q = 0
  · rw [if_pos hq]
    obtain ⟨a, b⟩ := spotQ_zero.1 (h1 ▸ hq)
    have := (h2 hq).there
    unfold addQ
    rw [a, b, ← this]
    rfl
  · rw [if_neg hq, h1]
    unfold addQ spotQ at *
    cases hm : mayE l <;> cases hi : isT x.name <;> simp [hm, hi] at *
    exact absurd h1 hq

set_option maxHeartbeats 8000000 in
theorem eAdd_any (B : Nat) (A : Option Addr) (n c : Nat) (l : List Et) (x : Et) (w : World) (hl : l.length = n) (hnc : n ≤ c) (hc : c ≤ maxLen) (hn : n ≤ 1000) (hr : Rd w B A (etsV l)) (hB : B ≤ w.heap.size) (hs : ∀ x ∈ l, x.name.length ≤ 100000) (hss : x.name.length ≤ 100000) :
    Calls Try.prog 19 #[.slice A n c, etG x] w fun e w' => ∃ v, e = .returned (.tuple #[v, .int .i64 (addQ l x)]) ∧ EtsW w' (addR l x) v ∧ Below w.heap.size w w' := by
  have HL := Lib.hid hl
  have HR0 := Lib.hid hr
  have HS := Lib.hid hs
  have HC := Lib.hid hc
  have HSX := Lib.hid hss
  have HSE := Lib.hid fun w' (hb : Below w.heap.size w w') => sought_any B A n c l x.name w' hl (by omega) (hr.below (hb.mono hB)) (Nat.le_trans hB hb.size) hs hss
  have HSO := Lib.hid fun w' => sound_any (str x.name) x.ino x.ty (rightE x) w' rfl
  obtain ⟨qq, hqq⟩ : ∃ qq, addQ l x = qq := ⟨_, rfl⟩
  obtain ⟨RR, hRR⟩ : ∃ RR, addR l x = RR := ⟨_, rfl⟩
  obtain ⟨ri, hri⟩ : ∃ ri, rightE x = ri := ⟨_, rfl⟩
  have HQ : Hid (addQ l x = qq) := hqq
  have HRI : Hid (rightE x = ri) := hri
  have HF : Hid (RR = if qq = 0 then putE l x else []) := by show _ = _; rw [← hRR, ← hqq]; rfl
  rw [hqq, hRR]
  rw [hri] at HSO
  obtain ⟨nm, xi, xt⟩ := x
  show Calls Try.prog 19 #[.slice A n c, .agg #[.string (str nm), .int .i64 xi, .int .i64 xt]] w _
  simp only at HSE HSO HSX
  obtain ⟨X, hX⟩ : ∃ X, str nm = X := ⟨_, rfl⟩
  have HXX : Hid (str nm = X) := hX
  rw [hX] at HSE HSO ⊢
  have HB0 := Lib.hid ((Below.refl w.heap.size w).alloc (Nat.le_refl _) (.cells #[.string X, .int .i64 xi, .int .i64 xt] 38))
  have K0 := Lib.hid (Bk.new w 38 #[.string X, .int .i64 xi, .int .i64 xt])
  obtain ⟨k0, k1, k2, -⟩ := et_cells K0.out
  clear hl hr hs hX hqq hRR hri hc hss
  go_enter Try.func19, Try.ntmps19
  go_wp2_with fail
  refine (HSE.out _ HB0.out).mono ?_
  rintro e w1 ⟨k, t, q, rfl, hst, hb⟩
  have K1 := Lib.hid (K0.out.below hb K0.out.lt)
  have HB1 := Lib.hid (HB0.out.trans (hb.mono HB0.out.size))
  have HST : Hid (Sought l (⟨nm, xi, xt⟩ : Et).name k t q) := hst
  clear hb hst K0 HB0 k0 k1 k2 HSE
  by_cases hq : q = 0
  · subst hq
    obtain ⟨k0, k1, k2, -⟩ := et_cells K1.out
    go_wp2_with fail
    refine (HSO.out _).mono ?_
    rintro e w2 ⟨rfl, hb⟩
    have K2 := Lib.hid (K1.out.below hb K1.out.lt)
    have HB2 := Lib.hid (HB1.out.trans (hb.mono HB1.out.size))
    clear hb K1 HB1 k0 k1 k2 HSO
    cases ri with
    | false =>
      obtain rfl : qq = 1 := by rw [← HQ.out, add_of HST.out, HRI.out]; rfl
      obtain rfl : RR = [] := HF.out
      go_wp2
      go_ret2
      exact ⟨_, rfl, EtsW.nil_ _, HB2.out⟩
    | true =>
      cases t with
      | true =>
        obtain rfl : qq = 7 := by rw [← HQ.out, add_of HST.out, HRI.out]; rfl
        obtain rfl : RR = [] := HF.out
        go_wp2
        go_ret2
        exact ⟨_, rfl, EtsW.nil_ _, HB2.out⟩
      | false =>
        obtain ⟨hm, hp, sp⟩ := HST.out.pair
        have hle : n ≤ 30 := by rw [← HL.out]; exact ((mayE_iff l).1 hm).2.2
        by_cases h30 : n = 30
        · obtain rfl : qq = 8 := by rw [← HQ.out, add_of HST.out, HRI.out, HL.out, h30]; rfl
          obtain rfl : RR = [] := HF.out
          subst h30
          clear hm hp sp
          go_wp2
          go_ret2
          exact ⟨_, rfl, EtsW.nil_ _, HB2.out⟩
        · obtain rfl : qq = 0 := by rw [← HQ.out, add_of HST.out, HRI.out, HL.out, if_pos rfl, if_neg (by decide), if_neg (by decide), if_neg (by omega)]
          have hf : RR = putE l ⟨nm, xi, xt⟩ := HF.out
          have hkn : k ≤ n := by rw [← HL.out]; exact sp.le
          have HFL : Hid (RR = [l.take k, [⟨nm, xi, xt⟩], l.drop k].flatten) := by
            show _ = _
            rw [hf, sp.put hp ⟨nm, xi, xt⟩ rfl]; simp
          clear hf hm hp sp
          have h30' : ((n : Int) == 30) = false := beq_false_of_ne (by omega)
          have hrd1 := HR0.out.below (HB2.out.mono hB)
          have hB1 := Nat.le_trans hB HB2.out.size
          have e1 := ets_cut HL.out hnc HC.out hrd1 hB1 0 k (Nat.zero_le _) hkn
          have e2 := ets_cut HL.out hnc HC.out hrd1 hB1 k n hkn (Nat.le_refl _)
          rw [List.drop_zero] at e1
          rw [List.take_of_length_le (by rw [HL.out]; exact Nat.le_refl _)] at e2
          have HC1 : Hid (∀ wx, (Instr.slice 22 (.slice A n c) none (some (.int .i64 (k : Int))) none).run Try.prog wx = .ok (sliced A 0 k c 3) wx) := fun wx => run_cut_h A n c k wx (by omega)
          have HC2 : Hid (∀ wx, (Instr.slice 22 (.slice A n c) (some (.int .i64 (k : Int))) none none).run Try.prog wx = .ok (sliced A k n c 3) wx) := fun wx => run_cut_l A n c k _ wx rfl hkn
          obtain ⟨A1, n1, c1, h1, -⟩ := id e1
          obtain ⟨A2, n2, c2, h2, -⟩ := id e2
          rw [h1] at e1 HC1
          rw [h2] at e2 HC2
          have E1 := Lib.hid e1
          have E2 := Lib.hid e2
          have HX : Hid (∀ w', Below w2.heap.size w2 w' → Bk w' w.heap.size 38 #[.string X, .int .i64 xi, .int .i64 xt]) := fun w' hb => K2.out.below hb K2.out.lt
          have HSS : Hid (∀ l' ∈ [l.take k, [⟨nm, xi, xt⟩], l.drop k], ∀ x ∈ l', x.name.length ≤ 100000) := fun l' hl' x hx => by
            simp only [List.mem_cons, List.not_mem_nil, or_false] at hl'
            rcases hl' with rfl | rfl | rfl
            · exact HS.out x (List.mem_of_mem_take hx)
            · rw [List.mem_singleton.1 hx]; exact HSX.out
            · exact HS.out x (List.mem_of_mem_drop hx)
          have HLN : Hid ([l.take k, [⟨nm, xi, xt⟩], l.drop k].flatten.length ≤ 1000) := by
            show _ ≤ _
            have := HL.out
            simp; omega
          clear h1 h2 e1 e2 hrd1 h30
          go_wp2_with fail
          refine wp_region_tail (by kernel_rfl) 8 37 slotAK waitAK (leaveAK A A1 A2 n c k n1 c1 n2 c2 X xi xt) rfl
            (by kernel_rfl) (fun i v w w' _ hb h => by unfold leaveAK at *; split at h <;> first | exact h | (obtain ⟨g, h1, h2⟩ := h; exact ⟨g, h1, h2.below hb h2.lt⟩)) ?_ ?_
          · intro i hi
            match i, hi with
            | 0, _ =>
              intro o ho a wc hk hb hd K hK
              cases ho
              have e0 := hk.rest 0 (.slice A n c) (by omega) (by kernel_rfl) rfl
              rw [Array.getD_eq_getD_getElem?] at e0
              go_simp
              exact hK _ _ (Below.refl _ _) rfl
            | 1, _ =>
              intro o ho a wc hk hb hd K hK
              cases ho
              have e0 := hk.rest 6 (.int .i64 (k : Int)) (by omega) (by kernel_rfl) rfl
              rw [Array.getD_eq_getD_getElem?] at e0
              go_simp
              exact hK _ _ (Below.refl _ _) rfl
            | 2, _ =>
              intro o ho a wc hk hb hd K hK
              cases ho
              have e0 := hd 0 (by simp [waitAK])
              have e1 := hd 1 (by simp [waitAK])
              simp only [leaveAK, slotAK, Nat.reduceAdd, Array.getD_eq_getD_getElem?] at e0 e1
              have q0 := HC1.out wc
              go_simp
              exact hK _ _ (Below.refl _ _) rfl
            | 3, _ =>
              intro o ho a wc hk hb hd K hK
              cases ho
              have e0 := hk.rest 3 (.pointer (some ⟨w.heap.size, 0, none⟩)) (by omega) (by kernel_rfl) rfl
              rw [Array.getD_eq_getD_getElem?] at e0
              obtain ⟨c0, c1, c2, -⟩ := et_cells (HX.out wc hb)
              go_simp
              exact hK _ _ (Below.refl _ _) rfl
            | 4, _ =>
              intro o ho a wc hk hb hd K hK
              cases ho
              have e0 := hd 3 (by simp [waitAK])
              simp only [leaveAK, slotAK, Nat.reduceAdd, Array.getD_eq_getD_getElem?] at e0
              go_simp
              exact hK _ _ ((Below.refl _ _).alloc (Nat.le_refl _) _) ⟨_, rfl, Bk.new _ _ _⟩
            | 5, _ =>
              intro o ho a wc hk hb hd K hK
              cases ho
              have e0 := hk.rest 0 (.slice A n c) (by omega) (by kernel_rfl) rfl
              rw [Array.getD_eq_getD_getElem?] at e0
              go_simp
              exact hK _ _ (Below.refl _ _) rfl
            | 6, _ =>
              intro o ho a wc hk hb hd K hK
              cases ho
              have e0 := hk.rest 6 (.int .i64 (k : Int)) (by omega) (by kernel_rfl) rfl
              rw [Array.getD_eq_getD_getElem?] at e0
              go_simp
              exact hK _ _ (Below.refl _ _) rfl
            | 7, _ =>
              intro o ho a wc hk hb hd K hK
              cases ho
              have e0 := hd 5 (by simp [waitAK])
              have e1 := hd 6 (by simp [waitAK])
              simp only [leaveAK, slotAK, Nat.reduceAdd, Array.getD_eq_getD_getElem?] at e0 e1
              have q0 := HC2.out wc
              go_simp
              exact hK _ _ (Below.refl _ _) rfl
            | _ + 8, h => exact absurd h (by omega)
          · intro vals w5 hb hR
            have v0 := hR 0 (by omega)
            have v1 := hR 1 (by omega)
            have v2 := hR 2 (by omega)
            have v3 := hR 3 (by omega)
            have v4 := hR 4 (by omega)
            have v5 := hR 5 (by omega)
            have v6 := hR 6 (by omega)
            have v7 := hR 7 (by omega)
            simp only [leaveAK] at v0 v1 v2 v3 v4 v5 v6 v7
            clear hR
            simp only [putAll, slotAK, Nat.reduceAdd, List.setIfInBounds_toArray, List.set_cons_zero, List.set_cons_succ, List.drop_succ_cons, List.drop_zero, v0, v1, v2, v3, v5, v6, v7]
            clear v0 v1 v2 v3 v5 v6 v7
            obtain ⟨g, hg, hbk⟩ := v4
            rw [hg]
            have E1' := E1.out.up hb
            have E2' := E2.out.up hb
            have E3' : EtsW w5 [⟨nm, xi, xt⟩] (.slice (some ⟨g, 0, none⟩) 1 1) := ⟨_, _, _, rfl, rfl, Nat.le_refl _, by unfold maxLen; omega, by
              have h := Rd.bk hbk
              rw [← HXX.out] at h
              exact h⟩
            have HB5 := Lib.hid (HB2.out.trans (hb.mono HB2.out.size))
            have HJ := join_any (w5.heap.size + 1) (some ⟨w5.heap.size, 0, none⟩) 3 3 [l.take k, [⟨nm, xi, xt⟩], l.drop k] [.slice A1 n1 c1, .slice (some ⟨g, 0, none⟩) 1 1, .slice A2 n2 c2] (w5.alloc (.cells #[.slice A1 n1 c1, .slice (some ⟨g, 0, none⟩) 1 1, .slice A2 n2 c2] 22)) rfl rfl (Rd.new w5 22 #[.slice A1 n1 c1, .slice (some ⟨g, 0, none⟩) 1 1, .slice A2 n2 c2] (0, 0)) (by rw [World.alloc_size']; exact Nat.le_refl _)
              (fun j l' hj => by
                match j, hj with
                | 0, hj => cases hj; exact ⟨_, rfl, E1'.up ((Below.refl _ _).alloc (Nat.le_refl _) _)⟩
                | 1, hj => cases hj; exact ⟨_, rfl, E3'.up ((Below.refl _ _).alloc (Nat.le_refl _) _)⟩
                | 2, hj => cases hj; exact ⟨_, rfl, E2'.up ((Below.refl _ _).alloc (Nat.le_refl _) _)⟩) HLN.out HSS.out (by decide)
            have HJ := Lib.hid HJ
            have HB6 := Lib.hid (HB5.out.alloc HB5.out.size (.cells #[.slice A1 n1 c1, .slice (some ⟨g, 0, none⟩) 1 1, .slice A2 n2 c2] 22))
            clear E1' E2' E3' hb hbk hg
            go_wp2_with fail
            refine HJ.out.mono ?_
            rintro e w6 ⟨v, rfl, hv, hb⟩
            have HV := Lib.hid hv
            have HB7 := Lib.hid (HB6.out.trans (hb.mono HB6.out.size))
            clear hv hb
            go_wp2
            go_ret2
            exact ⟨_, rfl, by rw [HFL.out]; exact HV.out, HB7.out⟩
  · obtain rfl : qq = q := by rw [← HQ.out, add_of HST.out, if_neg hq]
    obtain rfl : RR = [] := by rw [HF.out, if_neg hq]
    go_wp2
    go_ret2
    exact ⟨_, rfl, EtsW.nil_ _, HB1.out⟩
end Go.Proofs.Ytgboccepgbeihaa
