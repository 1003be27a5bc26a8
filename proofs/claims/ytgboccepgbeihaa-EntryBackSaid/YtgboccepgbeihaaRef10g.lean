/-
  What the document's answers of layer 10 are: Add. (Printed by wip/tools/ref10g.py.)
-/
import Derived.Test.YtgboccepgbeihaaRef10e
namespace Go.Proofs.Ytgboccepgbeihaa
open Go.RowKit
set_option maxRecDepth 100000
set_option linter.unusedVariables false

def slotGA (i : Nat) : Nat := 33 + i
def waitGA : Nat → List Nat
  | 2 => [0, 1]
  | 3 => [2]
  | 4 => [3]
  | 6 => [5]
  | 7 => [4, 6]
  | _ => []
def leaveGA (b o n c k g : Nat) (X Y : ByteArray) : Nat → Value → World → Prop
  | 0, v, _ => v = .slice (some ⟨b, o, none⟩) n c
  | 1, v, _ => v = .int .i64 (k : Int)
  | 2, v, _ => v = .pointer (some ⟨b, o + k * 3, none⟩)
  | 3, v, _ => v = .pointer (some ⟨b, o + k * 3, none⟩)
  | 4, v, _ => v = .string Y
  | 5, v, _ => v = .pointer (some ⟨g, 0, none⟩)
  | 6, v, _ => v = .string X
  | _, _, _ => True
def slotGB (i : Nat) : Nat := 59 + i
def waitGB : Nat → List Nat
  | 2 => [0, 1]
  | 3 => [2]
  | 4 => [3]
  | 6 => [5]
  | 7 => [4, 6]
  | _ => []
def leaveGB (b o n c k g : Nat) (X Y : ByteArray) : Nat → Value → World → Prop
  | 0, v, _ => v = .slice (some ⟨b, o, none⟩) n c
  | 1, v, _ => v = .int .i64 (k : Int)
  | 2, v, _ => v = .pointer (some ⟨b, o + k * 3, none⟩)
  | 3, v, _ => v = .pointer (some ⟨b, o + k * 3, none⟩)
  | 4, v, _ => v = .string Y
  | 5, v, _ => v = .pointer (some ⟨g, 0, none⟩)
  | 6, v, _ => v = .string X
  | _, _, _ => True
set_option maxHeartbeats 16000000 in
theorem refAdd10_any (B : Nat) (A : Option Addr) (n c : Nat) (l : List Et) (x : Et) (w : World) (hl : l.length = n) (hn : n ≤ 1000000) (hr : Rd w B A (etsV l)) (hB : B ≤ w.heap.size) (hs : ∀ x ∈ l, x.name.length ≤ 4398046511104) (hss : x.name.length ≤ 4398046511104) :
    Calls Try.prog 20 #[.slice A n c, etG x] w fun e w' => ∃ v, e = .returned (.tuple #[v, .int .i64 (addQ l x)]) ∧ EtsW w' (addR l x) v ∧ Below w.heap.size w w' := by
  obtain ⟨i0, hi, hz0, hz1, hz2⟩ := info_parts info_entry
  have hi := Lib.hid hi
  have hz0 := Lib.hid hz0
  have hz1 := Lib.hid hz1
  have hz2 := Lib.hid hz2
  have HL := Lib.hid hl
  have HR0 := Lib.hid hr
  have HS := Lib.hid hs
  obtain ⟨nm, xi, xt⟩ := x
  have HNM := Lib.hid hss
  have HM := Lib.hid fun w' (hb : Below w.heap.size w w') => refMay10_any B A n c l w' hl (by omega) (hr.below (hb.mono hB)) (Nat.le_trans hB hb.size) hs
  have HI := Lib.hid fun w' => refIs_any nm w' hss
  have HRI := Lib.hid fun w' => refRight_any (str nm) xi xt (rightE ⟨nm, xi, xt⟩) w' rfl
  have HA := Lib.hid fun w' (hb : Below w.heap.size w w') => refAt_any B A n c l nm w' hl (by omega) (hr.below (hb.mono hB)) (Nat.le_trans hB hb.size)
  show Calls _ _ #[.slice A n c, .agg #[.string (str nm), .int .i64 xi, .int .i64 xt]] _ _
  obtain ⟨X, hX⟩ : ∃ X, str nm = X := ⟨_, rfl⟩
  have HX0 := Lib.hid hX
  rw [hX] at HI HRI HA ⊢
  obtain ⟨m, hm⟩ : ∃ m, mayE l = m := ⟨_, rfl⟩
  obtain ⟨i, hi1⟩ : ∃ i, isT nm = i := ⟨_, rfl⟩
  obtain ⟨u, hu⟩ : ∃ u, rightE ⟨nm, xi, xt⟩ = u := ⟨_, rfl⟩
  obtain ⟨qq, hqq⟩ : ∃ qq, addQ l ⟨nm, xi, xt⟩ = qq := ⟨_, rfl⟩
  obtain ⟨RR, hRR⟩ : ∃ RR, addR l ⟨nm, xi, xt⟩ = RR := ⟨_, rfl⟩
  have HF : Hid ((if qq = 0 then putE l ⟨nm, xi, xt⟩ else []) = RR) := by show _ = _; rw [← hRR, ← hqq]; rfl
  have HQ : Hid (qq = if m = false then 1 else if i = false then 11 else if u = false then 1 else if hasE l nm = true then 7 else if 30 ≤ l.length then 8 else 0) := by show _ = _; rw [← hqq, ← hm, ← hi1, ← hu]; rfl
  rw [hqq, hRR]
  rw [hm] at HM
  rw [hi1] at HI
  rw [hu] at HRI
  have HB0 := Lib.hid ((Below.refl w.heap.size w).alloc (Nat.le_refl _) (.cells #[.string X, .int .i64 xi, .int .i64 xt] 38))
  have K0 := Lib.hid (Bk.new w 38 #[.string X, .int .i64 xi, .int .i64 xt])
  clear hl hr hs hss hm hi1 hu hX hqq hRR
  go_enter Try.func20, Try.ntmps20
  go_wp2_with fail
  refine (HM.out _ HB0.out).mono ?_
  rintro e w1 ⟨rfl, hb⟩
  have K1 := Lib.hid (K0.out.below hb K0.out.lt)
  have HB1 := Lib.hid (HB0.out.trans (hb.mono HB0.out.size))
  clear hb HM K0 HB0
  cases m with
  | false =>
    obtain rfl : qq = 1 := by rw [HQ.out]; rfl
    obtain rfl : RR = [] := HF.out.symm
    go_wp2
    go_ret2
    exact ⟨_, rfl, EtsW.nil_ _, HB1.out⟩
  | true =>
    obtain ⟨c0, c1, c2, f0, f1, f2⟩ := et_cells K1.out
    go_wp2_with fail
    refine (HI.out _).mono ?_
    rintro e w2 ⟨rfl, hb⟩
    have K2 := Lib.hid (K1.out.below hb K1.out.lt)
    have HB2 := Lib.hid (HB1.out.trans (hb.mono HB1.out.size))
    clear hb K1 HB1 HI c0 c1 c2 f0 f1 f2
    cases i with
    | false =>
      obtain rfl : qq = 11 := by rw [HQ.out]; rfl
      obtain rfl : RR = [] := HF.out.symm
      go_wp2
      go_ret2
      exact ⟨_, rfl, EtsW.nil_ _, HB2.out⟩
    | true =>
      obtain ⟨c0, c1, c2, f0, f1, f2⟩ := et_cells K2.out
      go_wp2_with fail
      refine (HRI.out _).mono ?_
      rintro e w3 ⟨rfl, hb⟩
      have K3 := Lib.hid (K2.out.below hb K2.out.lt)
      have HB3 := Lib.hid (HB2.out.trans (hb.mono HB2.out.size))
      clear hb K2 HB2 HRI c0 c1 c2 f0 f1 f2
      cases u with
      | false =>
        obtain rfl : qq = 1 := by rw [HQ.out]; rfl
        obtain rfl : RR = [] := HF.out.symm
        go_wp2
        go_ret2
        exact ⟨_, rfl, EtsW.nil_ _, HB3.out⟩
      | true =>
        obtain ⟨c0, c1, c2, f0, f1, f2⟩ := et_cells K3.out
        go_wp2_with fail
        refine (HA.out _ HB3.out).mono ?_
        rintro e w4 ⟨rfl, rfl⟩
        cases hh : hasE l nm with
        | true =>
          obtain rfl : qq = 7 := by rw [HQ.out, hh]; rfl
          obtain rfl : RR = [] := HF.out.symm
          obtain ⟨z, hz⟩ : ∃ z : Nat, atI l nm = (z : Int) := by rw [atI, hh]; exact ⟨_, rfl⟩
          rw [hz]
          clear hz hh
          go_wp2
          go_ret2
          exact ⟨_, rfl, EtsW.nil_ _, HB3.out⟩
        | false =>
          have hz : atI l nm = -1 := by rw [atI, hh]; rfl
          rw [hz]
          by_cases h30 : 30 ≤ n
          · obtain rfl : qq = 8 := by rw [HQ.out, hh, HL.out, if_pos h30]; rfl
            obtain rfl : RR = [] := HF.out.symm
            have h30' : (30 : Int) ≤ (n : Int) := by omega
            clear hz hh
            go_wp2
            go_ret2
            exact ⟨_, rfl, EtsW.nil_ _, HB3.out⟩
          · obtain rfl : qq = 0 := by rw [HQ.out, hh, HL.out, if_neg h30]; rfl
            have h30' : ¬ (30 : Int) ≤ (n : Int) := by omega
            have K6 := K3
            have HB6 := HB3
            clear hz hh c0 c1 c2 f0 f1 f2 HQ HA K3 HB3
            go_wp2
            go_loopw [6, 7] (fun r i wr => ∃ (k j : Nat), k ≤ n ∧ i = .int .i64 (k : Int) ∧ j ≤ k ∧ Hid (wr.ownsRow (w.heap.size + 1) 38 3 r j (etsV ((l.take k).filter fun y => decide (ordT y.name nm < 0)))) ∧ Hid (Bk wr w.heap.size 38 #[.string X, .int .i64 xi, .int .i64 xt]) ∧ Hid (Below w.heap.size w wr)) (fun _ i _ => n - (intOf i).toNat)
            case atStart => exact ⟨0, 0, Nat.zero_le _, rfl, Nat.le_refl _, ⟨rfl, .inl ⟨rfl, rfl⟩⟩, K6.out, HB6.out⟩
            case round =>
              obtain ⟨k, j, hk, rfl, hjk, HOWN, HX, HB⟩ := hrel
              obtain ⟨Ar, cr, hre, hcr, hcm⟩ := own_len HOWN.out
              subst hre
              by_cases hlt : k < n
              · obtain ⟨y, hy⟩ : ∃ y, l[k]? = some y := ⟨_, List.getElem?_eq_getElem (by rw [HL.out]; exact hlt)⟩
                obtain ⟨b, o, rfl, hbB, -⟩ := HR0.out.plain (by rw [etsV_length, HL.out]; omega)
                have hcells := fun w' (hb : Below wr.heap.size wr w') => ets_at (HR0.out.below ((HB.out.trans (hb.mono HB.out.size)).mono hB)) hy
                have HKX : Hid (∀ w', Below wr.heap.size wr w' → w'.cell? ⟨w.heap.size, 0, none⟩ = some (.string X)) := fun w' hb => (HX.out.below hb HX.out.lt).cell 0
                have HOR := Lib.hid fun w' => refOrder_any y.name nm w' (HS.out _ (List.mem_of_getElem? hy)) HNM.out
                have hT : l.take (k + 1) = l.take k ++ [y] := by rw [List.take_add_one, hy]; rfl
                obtain ⟨r, hr⟩ : ∃ r, ordT y.name nm = r := ⟨_, rfl⟩
                have HT1 : r < 0 → ((l.take (k + 1)).filter fun y => decide (ordT y.name nm < 0)) = ((l.take k).filter fun y => decide (ordT y.name nm < 0)) ++ [y] := fun h => by
                  rw [hT, List.filter_append, List.filter_cons_of_pos (by simpa [hr] using h)]; simp
                have HT0 : ¬ (r < 0) → ((l.take (k + 1)).filter fun y => decide (ordT y.name nm < 0)) = ((l.take k).filter fun y => decide (ordT y.name nm < 0)) := fun h => by
                  rw [hT, List.filter_append, List.filter_cons_of_neg (by simpa [hr] using h)]; simp
                rw [hr, HX0.out] at HOR
                obtain ⟨nm2, q, t⟩ := y
                simp only at hcells HOR hr
                obtain ⟨Y, hY⟩ : ∃ Y, str nm2 = Y := ⟨_, rfl⟩
                rw [hY] at hcells HOR
                have HKY : Hid (∀ w', Below wr.heap.size wr w' → w'.cell? ⟨b, o + k * 3, none⟩ = some (.string Y)) := fun w' hb => (hcells w' hb).1
                have HKC := Lib.hid hcells
                have HKN : Hid (k < n) := hlt
                by_cases hr0 : r < 0
                · have HOWN' : Hid (etsV ((l.take (k + 1)).filter fun y => decide (ordT y.name nm < 0)) = etsV ((l.take k).filter fun y => decide (ordT y.name nm < 0)) ++ [.string Y, .int .i64 q, .int .i64 t]) := by
                    show _ = _
                    rw [HT1 hr0, etsV_append, ← hY]; rfl
                  clear hcells hy hT HT1 HT0 hr hY
                  go_wp2_with fail
                  refine wp_region_tail (by kernel_rfl) 7 76 slotGA waitGA (leaveGA b o n c k w.heap.size X Y) rfl
                    (by kernel_rfl) (fun i v w w' _ _ h => by unfold leaveGA at *; split at h <;> exact h) ?_ ?_
                  · intro i hi
                    match i, hi with
                    | 0, _ =>
                      intro o ho a wc hk hb hd K hK
                      cases ho
                      have e0 := hk.rest 0 (.slice (some ⟨b, o, none⟩) n c) (by omega) (by kernel_rfl) rfl
                      rw [Array.getD_eq_getD_getElem?] at e0
                      go_simp
                      exact hK _ _ (Below.refl _ _) rfl
                    | 1, _ =>
                      intro o ho a wc hk hb hd K hK
                      cases ho
                      have e0 := hk.rest 7 (.int .i64 (k : Int)) (by omega) (by kernel_rfl) rfl
                      rw [Array.getD_eq_getD_getElem?] at e0
                      go_simp
                      exact hK _ _ (Below.refl _ _) rfl
                    | 2, _ =>
                      intro o ho a wc hk hb hd K hK
                      cases ho
                      have e0 := hd 0 (by simp [waitGA])
                      have e1 := hd 1 (by simp [waitGA])
                      simp only [leaveGA, slotGA, Nat.reduceAdd, Array.getD_eq_getD_getElem?] at e0 e1
                      have q := HKN.out
                      go_simp
                      exact hK _ _ (Below.refl _ _) rfl
                    | 3, _ =>
                      intro o ho a wc hk hb hd K hK
                      cases ho
                      have e0 := hd 2 (by simp [waitGA])
                      simp only [leaveGA, slotGA, Nat.reduceAdd, Array.getD_eq_getD_getElem?] at e0
                      go_simp
                      exact hK _ _ (Below.refl _ _) rfl
                    | 4, _ =>
                      intro o ho a wc hk hb hd K hK
                      cases ho
                      have e0 := hd 3 (by simp [waitGA])
                      simp only [leaveGA, slotGA, Nat.reduceAdd, Array.getD_eq_getD_getElem?] at e0
                      have c0 := HKY.out _ hb
                      go_simp
                      exact hK _ _ (Below.refl _ _) rfl
                    | 5, _ =>
                      intro o ho a wc hk hb hd K hK
                      cases ho
                      have e0 := hk.rest 3 (.pointer (some ⟨w.heap.size, 0, none⟩)) (by omega) (by kernel_rfl) rfl
                      rw [Array.getD_eq_getD_getElem?] at e0
                      go_simp
                      exact hK _ _ (Below.refl _ _) rfl
                    | 6, _ =>
                      intro o ho a wc hk hb hd K hK
                      cases ho
                      have e0 := hd 5 (by simp [waitGA])
                      simp only [leaveGA, slotGA, Nat.reduceAdd, Array.getD_eq_getD_getElem?] at e0
                      have c0 := HKX.out _ hb
                      go_simp
                      exact hK _ _ (Below.refl _ _) rfl
                    | _ + 7, h => exact absurd h (by omega)
                  · intro vals w5 hb hR
                    have v0 := hR 0 (by omega)
                    have v1 := hR 1 (by omega)
                    have v2 := hR 2 (by omega)
                    have v3 := hR 3 (by omega)
                    have v4 := hR 4 (by omega)
                    have v5 := hR 5 (by omega)
                    have v6 := hR 6 (by omega)
                    simp only [leaveGA] at v0 v1 v2 v3 v4 v5 v6
                    clear hR
                    simp only [putAll, slotGA, Nat.reduceAdd, List.setIfInBounds_toArray, List.set_cons_zero, List.set_cons_succ, List.drop_succ_cons, List.drop_zero, v0, v1, v2, v3, v4, v5, v6]
                    clear v0 v1 v2 v3 v4 v5 v6
                    go_wp2_with fail
                    refine (HOR.out _).mono ?_
                    rintro e w6 ⟨rfl, hb6⟩
                    have hb := hb.trans (hb6.mono hb.size)
                    have HB5 := Lib.hid (HB.out.trans (hb.mono HB.out.size))
                    have HX5 := Lib.hid (HX.out.below hb HX.out.lt)
                    have HOWN5 := Lib.hid ((own_upE HOWN.out hb).alloc (.cells #[.string Y, .int .i64 q, .int .i64 t] 38))
                    have HB6 := Lib.hid (HB5.out.alloc HB5.out.size (.cells #[.string Y, .int .i64 q, .int .i64 t] 38))
                    have HX6 := Lib.hid (HX5.out.alloc (.cells #[.string Y, .int .i64 q, .int .i64 t] 38))
                    have HNW := Lib.hid (Rd.new w6 38 #[.string Y, .int .i64 q, .int .i64 t] (0, 0))
                    have HZ5 : Hid (w.heap.size + 1 ≤ w6.heap.size) := HX5.out.lt
                    obtain ⟨c0, c1, c2⟩ := HKC.out _ hb
                    clear hb hb6
                    go_wp2_with (at_builtin; refine wpList_append_rd _ rfl _ _ 22 rfl (w.heap.size + 1) 38 i0 (.agg #[.string ByteArray.empty, .int .i64 0, .int .i64 0]) 3 32 Try.underlying22 hi.out hz0.out hz1.out hz2.out rfl (by decide) _ _ _ rfl HOWN5.out (w6.heap.size + 1) (some ⟨w6.heap.size, 0, none⟩) 1 1 [.string Y, .int .i64 q, .int .i64 t] rfl rfl HNW.out ?c2 ?c3 ?c4 ?c5 ?_)
                    case c2 => first | exact ⟨rfl, rfl, rfl⟩ | (intro u hu; simp only [List.mem_cons, List.not_mem_nil, or_false] at hu; rcases hu with rfl | rfl | rfl <;> rfl)
                    case c3 => unfold maxLen; omega
                    case c4 => omega
                    case c5 => have := HZ5.out; simp; omega
                    intro r' w7 hown7 hgrow
                    have HB7 := Lib.hid (HB6.out.grown hgrow HB6.out.size (fun g hg => by have := (HOWN5.out.lt g hg).1; omega))
                    have HX7 := Lib.hid (HX6.out.grown hgrow (fun e => by have := (HOWN5.out.lt _ e).1; omega))
                    have HOWN7 : Hid (w7.ownsRow (w.heap.size + 1) 38 3 r' (j + 1) (etsV ((l.take (k + 1)).filter fun y => decide (ordT y.name nm < 0)))) := by
                      show World.ownsRow _ _ _ _ _ _ _
                      rw [HOWN'.out]; exact hown7
                    clear hown7 hgrow HOWN5 HB6 HNW HB5 HX5 HX6
                    go_wp2
                    go_roundw
                    case rel => exact ⟨k + 1, j + 1, by omega, by go_num, by omega, HOWN7, HX7, HB7⟩
                    case measure => simp [intOf]; omega
                · have HOWN' : Hid (wr.ownsRow (w.heap.size + 1) 38 3 (.slice Ar j cr) j (etsV ((l.take (k + 1)).filter fun y => decide (ordT y.name nm < 0)))) := by
                    show World.ownsRow _ _ _ _ _ _ _
                    rw [HT0 hr0]; exact HOWN.out
                  clear hcells hy hT HT1 HT0 hr hY
                  go_wp2_with fail
                  refine wp_region_tail (by kernel_rfl) 7 76 slotGA waitGA (leaveGA b o n c k w.heap.size X Y) rfl
                    (by kernel_rfl) (fun i v w w' _ _ h => by unfold leaveGA at *; split at h <;> exact h) ?_ ?_
                  · intro i hi
                    match i, hi with
                    | 0, _ =>
                      intro o ho a wc hk hb hd K hK
                      cases ho
                      have e0 := hk.rest 0 (.slice (some ⟨b, o, none⟩) n c) (by omega) (by kernel_rfl) rfl
                      rw [Array.getD_eq_getD_getElem?] at e0
                      go_simp
                      exact hK _ _ (Below.refl _ _) rfl
                    | 1, _ =>
                      intro o ho a wc hk hb hd K hK
                      cases ho
                      have e0 := hk.rest 7 (.int .i64 (k : Int)) (by omega) (by kernel_rfl) rfl
                      rw [Array.getD_eq_getD_getElem?] at e0
                      go_simp
                      exact hK _ _ (Below.refl _ _) rfl
                    | 2, _ =>
                      intro o ho a wc hk hb hd K hK
                      cases ho
                      have e0 := hd 0 (by simp [waitGA])
                      have e1 := hd 1 (by simp [waitGA])
                      simp only [leaveGA, slotGA, Nat.reduceAdd, Array.getD_eq_getD_getElem?] at e0 e1
                      have q := HKN.out
                      go_simp
                      exact hK _ _ (Below.refl _ _) rfl
                    | 3, _ =>
                      intro o ho a wc hk hb hd K hK
                      cases ho
                      have e0 := hd 2 (by simp [waitGA])
                      simp only [leaveGA, slotGA, Nat.reduceAdd, Array.getD_eq_getD_getElem?] at e0
                      go_simp
                      exact hK _ _ (Below.refl _ _) rfl
                    | 4, _ =>
                      intro o ho a wc hk hb hd K hK
                      cases ho
                      have e0 := hd 3 (by simp [waitGA])
                      simp only [leaveGA, slotGA, Nat.reduceAdd, Array.getD_eq_getD_getElem?] at e0
                      have c0 := HKY.out _ hb
                      go_simp
                      exact hK _ _ (Below.refl _ _) rfl
                    | 5, _ =>
                      intro o ho a wc hk hb hd K hK
                      cases ho
                      have e0 := hk.rest 3 (.pointer (some ⟨w.heap.size, 0, none⟩)) (by omega) (by kernel_rfl) rfl
                      rw [Array.getD_eq_getD_getElem?] at e0
                      go_simp
                      exact hK _ _ (Below.refl _ _) rfl
                    | 6, _ =>
                      intro o ho a wc hk hb hd K hK
                      cases ho
                      have e0 := hd 5 (by simp [waitGA])
                      simp only [leaveGA, slotGA, Nat.reduceAdd, Array.getD_eq_getD_getElem?] at e0
                      have c0 := HKX.out _ hb
                      go_simp
                      exact hK _ _ (Below.refl _ _) rfl
                    | _ + 7, h => exact absurd h (by omega)
                  · intro vals w5 hb hR
                    have v0 := hR 0 (by omega)
                    have v1 := hR 1 (by omega)
                    have v2 := hR 2 (by omega)
                    have v3 := hR 3 (by omega)
                    have v4 := hR 4 (by omega)
                    have v5 := hR 5 (by omega)
                    have v6 := hR 6 (by omega)
                    simp only [leaveGA] at v0 v1 v2 v3 v4 v5 v6
                    clear hR
                    simp only [putAll, slotGA, Nat.reduceAdd, List.setIfInBounds_toArray, List.set_cons_zero, List.set_cons_succ, List.drop_succ_cons, List.drop_zero, v0, v1, v2, v3, v4, v5, v6]
                    clear v0 v1 v2 v3 v4 v5 v6
                    go_wp2_with fail
                    refine (HOR.out _).mono ?_
                    rintro e w6 ⟨rfl, hb6⟩
                    have hb := hb.trans (hb6.mono hb.size)
                    have HB5 := Lib.hid (HB.out.trans (hb.mono HB.out.size))
                    have HX5 := Lib.hid (HX.out.below hb HX.out.lt)
                    have HOWN5 := Lib.hid (own_upE HOWN'.out hb)
                    clear hb hb6
                    go_wp2
                    go_roundw
                    case rel => exact ⟨k + 1, j, by omega, by go_num, by omega, HOWN5, HX5, HB5⟩
                    case measure => simp [intOf]; omega
              · have hkn : n = k := by omega
                subst hkn
                have hall : (l.take n).filter (fun y => decide (ordT y.name nm < 0)) = l.filter (fun y => decide (ordT y.name nm < 0)) := by rw [List.take_of_length_le (by rw [HL.out]; exact Nat.le_refl _)]
                have HV : Hid (etsV (l.filter (fun y => decide (ordT y.name nm < 0)) ++ [⟨nm, xi, xt⟩]) = etsV (l.filter (fun y => decide (ordT y.name nm < 0))) ++ [.string X, .int .i64 xi, .int .i64 xt]) := by
                  show _ = _
                  rw [etsV_append, ← HX0.out]; rfl
                rw [hall] at HOWN
                clear hall
                obtain ⟨c0, c1, c2, f0, f1, f2⟩ := et_cells HX.out
                have HOWN5 := Lib.hid (HOWN.out.alloc (.cells #[.string X, .int .i64 xi, .int .i64 xt] 38))
                have HB6 := Lib.hid (HB.out.alloc HB.out.size (.cells #[.string X, .int .i64 xi, .int .i64 xt] 38))
                have HX6 := Lib.hid (HX.out.alloc (.cells #[.string X, .int .i64 xi, .int .i64 xt] 38))
                have HNW := Lib.hid (Rd.new wr 38 #[.string X, .int .i64 xi, .int .i64 xt] (0, 0))
                have HZ5 : Hid (w.heap.size + 1 ≤ wr.heap.size) := HX.out.lt
                go_wp2_with (at_builtin; refine wpList_append_rd _ rfl _ _ 22 rfl (w.heap.size + 1) 38 i0 (.agg #[.string ByteArray.empty, .int .i64 0, .int .i64 0]) 3 32 Try.underlying22 hi.out hz0.out hz1.out hz2.out rfl (by decide) _ _ _ rfl HOWN5.out (wr.heap.size + 1) (some ⟨wr.heap.size, 0, none⟩) 1 1 [.string X, .int .i64 xi, .int .i64 xt] rfl rfl HNW.out ?c2 ?c3 ?c4 ?c5 ?_)
                case c2 => first | exact ⟨rfl, rfl, rfl⟩ | (intro u hu; simp only [List.mem_cons, List.not_mem_nil, or_false] at hu; rcases hu with rfl | rfl | rfl <;> rfl)
                case c3 => unfold maxLen; omega
                case c4 => omega
                case c5 => have := HZ5.out; simp; omega
                intro r' w7 hown7 hgrow
                have HBS := Lib.hid (HB6.out.grown hgrow HB6.out.size (fun g hg => by have := (HOWN5.out.lt g hg).1; omega))
                have HXS := Lib.hid (HX6.out.grown hgrow (fun e => by have := (HOWN5.out.lt _ e).1; omega))
                have HOWNS : Hid (w7.ownsRow (w.heap.size + 1) 38 3 r' (j + 1) (etsV (l.filter (fun y => decide (ordT y.name nm < 0)) ++ [⟨nm, xi, xt⟩]))) := by
                  show World.ownsRow _ _ _ _ _ _ _
                  rw [HV.out]; exact hown7
                clear hown7 hgrow HOWN5 HB6 HNW HX6 c0 c1 c2 f0 f1 f2 HOWN HB HX
                go_wp2
                go_loopw [6, 8] (fun r i wr => ∃ (k j : Nat), k ≤ n ∧ i = .int .i64 (k : Int) ∧ j ≤ n + 1 + k ∧ Hid (wr.ownsRow (w.heap.size + 1) 38 3 r j (etsV (l.filter (fun y => decide (ordT y.name nm < 0)) ++ (⟨nm, xi, xt⟩ : Et) :: (l.take k).filter fun y => decide (0 < ordT y.name nm)))) ∧ Hid (Bk wr w.heap.size 38 #[.string X, .int .i64 xi, .int .i64 xt]) ∧ Hid (Below w.heap.size w wr)) (fun _ i _ => n - (intOf i).toNat)
                case atStart => exact ⟨0, j + 1, Nat.zero_le _, rfl, by omega, by show World.ownsRow _ _ _ _ _ _ _; simpa using HOWNS.out, HXS.out, HBS.out⟩
                case round =>
                  obtain ⟨k, j, hk, rfl, hjk, HOWN, HX, HB⟩ := hrel
                  obtain ⟨Ar, cr, hre, hcr, hcm⟩ := own_len HOWN.out
                  subst hre
                  by_cases hlt : k < n
                  · obtain ⟨y, hy⟩ : ∃ y, l[k]? = some y := ⟨_, List.getElem?_eq_getElem (by rw [HL.out]; exact hlt)⟩
                    obtain ⟨b, o, rfl, hbB, -⟩ := HR0.out.plain (by rw [etsV_length, HL.out]; omega)
                    have hcells := fun w' (hb : Below wr.heap.size wr w') => ets_at (HR0.out.below ((HB.out.trans (hb.mono HB.out.size)).mono hB)) hy
                    have HKX : Hid (∀ w', Below wr.heap.size wr w' → w'.cell? ⟨w.heap.size, 0, none⟩ = some (.string X)) := fun w' hb => (HX.out.below hb HX.out.lt).cell 0
                    have HOR := Lib.hid fun w' => refOrder_any y.name nm w' (HS.out _ (List.mem_of_getElem? hy)) HNM.out
                    have hT : l.take (k + 1) = l.take k ++ [y] := by rw [List.take_add_one, hy]; rfl
                    obtain ⟨r, hr⟩ : ∃ r, ordT y.name nm = r := ⟨_, rfl⟩
                    have HT1 : 0 < r → (l.filter (fun y => decide (ordT y.name nm < 0)) ++ (⟨nm, xi, xt⟩ : Et) :: (l.take (k + 1)).filter fun y => decide (0 < ordT y.name nm)) = (l.filter (fun y => decide (ordT y.name nm < 0)) ++ (⟨nm, xi, xt⟩ : Et) :: (l.take k).filter fun y => decide (0 < ordT y.name nm)) ++ [y] := fun h => by
                      rw [hT, List.filter_append, List.filter_cons_of_pos (by simpa [hr] using h)]; simp
                    have HT0 : ¬ (0 < r) → (l.filter (fun y => decide (ordT y.name nm < 0)) ++ (⟨nm, xi, xt⟩ : Et) :: (l.take (k + 1)).filter fun y => decide (0 < ordT y.name nm)) = (l.filter (fun y => decide (ordT y.name nm < 0)) ++ (⟨nm, xi, xt⟩ : Et) :: (l.take k).filter fun y => decide (0 < ordT y.name nm)) := fun h => by
                      rw [hT, List.filter_append, List.filter_cons_of_neg (by simpa [hr] using h)]; simp
                    rw [hr, HX0.out] at HOR
                    obtain ⟨nm2, q, t⟩ := y
                    simp only at hcells HOR hr
                    obtain ⟨Y, hY⟩ : ∃ Y, str nm2 = Y := ⟨_, rfl⟩
                    rw [hY] at hcells HOR
                    have HKY : Hid (∀ w', Below wr.heap.size wr w' → w'.cell? ⟨b, o + k * 3, none⟩ = some (.string Y)) := fun w' hb => (hcells w' hb).1
                    have HKC := Lib.hid hcells
                    have HKN : Hid (k < n) := hlt
                    by_cases hr0 : 0 < r
                    · have HOWN' : Hid (etsV (l.filter (fun y => decide (ordT y.name nm < 0)) ++ (⟨nm, xi, xt⟩ : Et) :: (l.take (k + 1)).filter fun y => decide (0 < ordT y.name nm)) = etsV (l.filter (fun y => decide (ordT y.name nm < 0)) ++ (⟨nm, xi, xt⟩ : Et) :: (l.take k).filter fun y => decide (0 < ordT y.name nm)) ++ [.string Y, .int .i64 q, .int .i64 t]) := by
                        show _ = _
                        rw [HT1 hr0, etsV_append, ← hY]; rfl
                      clear hcells hy hT HT1 HT0 hr hY
                      go_wp2_with fail
                      refine wp_region_tail (by kernel_rfl) 7 76 slotGB waitGB (leaveGB b o n c k w.heap.size X Y) rfl
                        (by kernel_rfl) (fun i v w w' _ _ h => by unfold leaveGB at *; split at h <;> exact h) ?_ ?_
                      · intro i hi
                        match i, hi with
                        | 0, _ =>
                          intro o ho a wc hk hb hd K hK
                          cases ho
                          have e0 := hk.rest 0 (.slice (some ⟨b, o, none⟩) n c) (by omega) (by kernel_rfl) rfl
                          rw [Array.getD_eq_getD_getElem?] at e0
                          go_simp
                          exact hK _ _ (Below.refl _ _) rfl
                        | 1, _ =>
                          intro o ho a wc hk hb hd K hK
                          cases ho
                          have e0 := hk.rest 8 (.int .i64 (k : Int)) (by omega) (by kernel_rfl) rfl
                          rw [Array.getD_eq_getD_getElem?] at e0
                          go_simp
                          exact hK _ _ (Below.refl _ _) rfl
                        | 2, _ =>
                          intro o ho a wc hk hb hd K hK
                          cases ho
                          have e0 := hd 0 (by simp [waitGB])
                          have e1 := hd 1 (by simp [waitGB])
                          simp only [leaveGB, slotGB, Nat.reduceAdd, Array.getD_eq_getD_getElem?] at e0 e1
                          have q := HKN.out
                          go_simp
                          exact hK _ _ (Below.refl _ _) rfl
                        | 3, _ =>
                          intro o ho a wc hk hb hd K hK
                          cases ho
                          have e0 := hd 2 (by simp [waitGB])
                          simp only [leaveGB, slotGB, Nat.reduceAdd, Array.getD_eq_getD_getElem?] at e0
                          go_simp
                          exact hK _ _ (Below.refl _ _) rfl
                        | 4, _ =>
                          intro o ho a wc hk hb hd K hK
                          cases ho
                          have e0 := hd 3 (by simp [waitGB])
                          simp only [leaveGB, slotGB, Nat.reduceAdd, Array.getD_eq_getD_getElem?] at e0
                          have c0 := HKY.out _ hb
                          go_simp
                          exact hK _ _ (Below.refl _ _) rfl
                        | 5, _ =>
                          intro o ho a wc hk hb hd K hK
                          cases ho
                          have e0 := hk.rest 3 (.pointer (some ⟨w.heap.size, 0, none⟩)) (by omega) (by kernel_rfl) rfl
                          rw [Array.getD_eq_getD_getElem?] at e0
                          go_simp
                          exact hK _ _ (Below.refl _ _) rfl
                        | 6, _ =>
                          intro o ho a wc hk hb hd K hK
                          cases ho
                          have e0 := hd 5 (by simp [waitGB])
                          simp only [leaveGB, slotGB, Nat.reduceAdd, Array.getD_eq_getD_getElem?] at e0
                          have c0 := HKX.out _ hb
                          go_simp
                          exact hK _ _ (Below.refl _ _) rfl
                        | _ + 7, h => exact absurd h (by omega)
                      · intro vals w5 hb hR
                        have v0 := hR 0 (by omega)
                        have v1 := hR 1 (by omega)
                        have v2 := hR 2 (by omega)
                        have v3 := hR 3 (by omega)
                        have v4 := hR 4 (by omega)
                        have v5 := hR 5 (by omega)
                        have v6 := hR 6 (by omega)
                        simp only [leaveGB] at v0 v1 v2 v3 v4 v5 v6
                        clear hR
                        simp only [putAll, slotGB, Nat.reduceAdd, List.setIfInBounds_toArray, List.set_cons_zero, List.set_cons_succ, List.drop_succ_cons, List.drop_zero, v0, v1, v2, v3, v4, v5, v6]
                        clear v0 v1 v2 v3 v4 v5 v6
                        go_wp2_with fail
                        refine (HOR.out _).mono ?_
                        rintro e w6 ⟨rfl, hb6⟩
                        have hb := hb.trans (hb6.mono hb.size)
                        have HB5 := Lib.hid (HB.out.trans (hb.mono HB.out.size))
                        have HX5 := Lib.hid (HX.out.below hb HX.out.lt)
                        have HOWN5 := Lib.hid ((own_upE HOWN.out hb).alloc (.cells #[.string Y, .int .i64 q, .int .i64 t] 38))
                        have HB6 := Lib.hid (HB5.out.alloc HB5.out.size (.cells #[.string Y, .int .i64 q, .int .i64 t] 38))
                        have HX6 := Lib.hid (HX5.out.alloc (.cells #[.string Y, .int .i64 q, .int .i64 t] 38))
                        have HNW := Lib.hid (Rd.new w6 38 #[.string Y, .int .i64 q, .int .i64 t] (0, 0))
                        have HZ5 : Hid (w.heap.size + 1 ≤ w6.heap.size) := HX5.out.lt
                        obtain ⟨c0, c1, c2⟩ := HKC.out _ hb
                        clear hb hb6
                        go_wp2_with (at_builtin; refine wpList_append_rd _ rfl _ _ 22 rfl (w.heap.size + 1) 38 i0 (.agg #[.string ByteArray.empty, .int .i64 0, .int .i64 0]) 3 32 Try.underlying22 hi.out hz0.out hz1.out hz2.out rfl (by decide) _ _ _ rfl HOWN5.out (w6.heap.size + 1) (some ⟨w6.heap.size, 0, none⟩) 1 1 [.string Y, .int .i64 q, .int .i64 t] rfl rfl HNW.out ?c2 ?c3 ?c4 ?c5 ?_)
                        case c2 => first | exact ⟨rfl, rfl, rfl⟩ | (intro u hu; simp only [List.mem_cons, List.not_mem_nil, or_false] at hu; rcases hu with rfl | rfl | rfl <;> rfl)
                        case c3 => unfold maxLen; omega
                        case c4 => omega
                        case c5 => have := HZ5.out; simp; omega
                        intro r' w7 hown7 hgrow
                        have HB7 := Lib.hid (HB6.out.grown hgrow HB6.out.size (fun g hg => by have := (HOWN5.out.lt g hg).1; omega))
                        have HX7 := Lib.hid (HX6.out.grown hgrow (fun e => by have := (HOWN5.out.lt _ e).1; omega))
                        have HOWN7 : Hid (w7.ownsRow (w.heap.size + 1) 38 3 r' (j + 1) (etsV (l.filter (fun y => decide (ordT y.name nm < 0)) ++ (⟨nm, xi, xt⟩ : Et) :: (l.take (k + 1)).filter fun y => decide (0 < ordT y.name nm)))) := by
                          show World.ownsRow _ _ _ _ _ _ _
                          rw [HOWN'.out]; exact hown7
                        clear hown7 hgrow HOWN5 HB6 HNW HB5 HX5 HX6
                        go_wp2
                        go_roundw
                        case rel => exact ⟨k + 1, j + 1, by omega, by go_num, by omega, HOWN7, HX7, HB7⟩
                        case measure => simp [intOf]; omega
                    · have HOWN' : Hid (wr.ownsRow (w.heap.size + 1) 38 3 (.slice Ar j cr) j (etsV (l.filter (fun y => decide (ordT y.name nm < 0)) ++ (⟨nm, xi, xt⟩ : Et) :: (l.take (k + 1)).filter fun y => decide (0 < ordT y.name nm)))) := by
                        show World.ownsRow _ _ _ _ _ _ _
                        rw [HT0 hr0]; exact HOWN.out
                      clear hcells hy hT HT1 HT0 hr hY
                      go_wp2_with fail
                      refine wp_region_tail (by kernel_rfl) 7 76 slotGB waitGB (leaveGB b o n c k w.heap.size X Y) rfl
                        (by kernel_rfl) (fun i v w w' _ _ h => by unfold leaveGB at *; split at h <;> exact h) ?_ ?_
                      · intro i hi
                        match i, hi with
                        | 0, _ =>
                          intro o ho a wc hk hb hd K hK
                          cases ho
                          have e0 := hk.rest 0 (.slice (some ⟨b, o, none⟩) n c) (by omega) (by kernel_rfl) rfl
                          rw [Array.getD_eq_getD_getElem?] at e0
                          go_simp
                          exact hK _ _ (Below.refl _ _) rfl
                        | 1, _ =>
                          intro o ho a wc hk hb hd K hK
                          cases ho
                          have e0 := hk.rest 8 (.int .i64 (k : Int)) (by omega) (by kernel_rfl) rfl
                          rw [Array.getD_eq_getD_getElem?] at e0
                          go_simp
                          exact hK _ _ (Below.refl _ _) rfl
                        | 2, _ =>
                          intro o ho a wc hk hb hd K hK
                          cases ho
                          have e0 := hd 0 (by simp [waitGB])
                          have e1 := hd 1 (by simp [waitGB])
                          simp only [leaveGB, slotGB, Nat.reduceAdd, Array.getD_eq_getD_getElem?] at e0 e1
                          have q := HKN.out
                          go_simp
                          exact hK _ _ (Below.refl _ _) rfl
                        | 3, _ =>
                          intro o ho a wc hk hb hd K hK
                          cases ho
                          have e0 := hd 2 (by simp [waitGB])
                          simp only [leaveGB, slotGB, Nat.reduceAdd, Array.getD_eq_getD_getElem?] at e0
                          go_simp
                          exact hK _ _ (Below.refl _ _) rfl
                        | 4, _ =>
                          intro o ho a wc hk hb hd K hK
                          cases ho
                          have e0 := hd 3 (by simp [waitGB])
                          simp only [leaveGB, slotGB, Nat.reduceAdd, Array.getD_eq_getD_getElem?] at e0
                          have c0 := HKY.out _ hb
                          go_simp
                          exact hK _ _ (Below.refl _ _) rfl
                        | 5, _ =>
                          intro o ho a wc hk hb hd K hK
                          cases ho
                          have e0 := hk.rest 3 (.pointer (some ⟨w.heap.size, 0, none⟩)) (by omega) (by kernel_rfl) rfl
                          rw [Array.getD_eq_getD_getElem?] at e0
                          go_simp
                          exact hK _ _ (Below.refl _ _) rfl
                        | 6, _ =>
                          intro o ho a wc hk hb hd K hK
                          cases ho
                          have e0 := hd 5 (by simp [waitGB])
                          simp only [leaveGB, slotGB, Nat.reduceAdd, Array.getD_eq_getD_getElem?] at e0
                          have c0 := HKX.out _ hb
                          go_simp
                          exact hK _ _ (Below.refl _ _) rfl
                        | _ + 7, h => exact absurd h (by omega)
                      · intro vals w5 hb hR
                        have v0 := hR 0 (by omega)
                        have v1 := hR 1 (by omega)
                        have v2 := hR 2 (by omega)
                        have v3 := hR 3 (by omega)
                        have v4 := hR 4 (by omega)
                        have v5 := hR 5 (by omega)
                        have v6 := hR 6 (by omega)
                        simp only [leaveGB] at v0 v1 v2 v3 v4 v5 v6
                        clear hR
                        simp only [putAll, slotGB, Nat.reduceAdd, List.setIfInBounds_toArray, List.set_cons_zero, List.set_cons_succ, List.drop_succ_cons, List.drop_zero, v0, v1, v2, v3, v4, v5, v6]
                        clear v0 v1 v2 v3 v4 v5 v6
                        go_wp2_with fail
                        refine (HOR.out _).mono ?_
                        rintro e w6 ⟨rfl, hb6⟩
                        have hb := hb.trans (hb6.mono hb.size)
                        have HB5 := Lib.hid (HB.out.trans (hb.mono HB.out.size))
                        have HX5 := Lib.hid (HX.out.below hb HX.out.lt)
                        have HOWN5 := Lib.hid (own_upE HOWN'.out hb)
                        clear hb hb6
                        go_wp2
                        go_roundw
                        case rel => exact ⟨k + 1, j, by omega, by go_num, by omega, HOWN5, HX5, HB5⟩
                        case measure => simp [intOf]; omega
                  · obtain rfl : k = n := by omega
                    have hfin : l.filter (fun y => decide (ordT y.name nm < 0)) ++ (⟨nm, xi, xt⟩ : Et) :: (l.take k).filter (fun y => decide (0 < ordT y.name nm)) = putE l ⟨nm, xi, xt⟩ := by
                      rw [List.take_of_length_le (by rw [HL.out]; exact Nat.le_refl _), putE]
                    have HE : Hid (EtsW wr (putE l ⟨nm, xi, xt⟩) (.slice Ar j cr)) := by rw [← hfin]; exact EtsW.own HOWN.out
                    obtain rfl : RR = putE l ⟨nm, xi, xt⟩ := HF.out.symm
                    clear hfin
                    go_wp2
                    go_ret2
                    exact ⟨_, rfl, HE.out, HB.out⟩
end Go.Proofs.Ytgboccepgbeihaa
