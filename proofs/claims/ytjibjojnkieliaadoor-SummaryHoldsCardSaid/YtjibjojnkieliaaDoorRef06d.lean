/-
  What the document's answers of layer 6 are: Encode, Whole, Of. (Printed by wip/tools/ref06d.py.)
-/
import Derived.Test.YtjibjojnkieliaaDoorRef06c
import Derived.Test.YtjibjojnkieliaaDoorSum9
namespace Go.Proofs.YtjibjojnkieliaaDoor
open Go.RowKit
set_option linter.unusedVariables false

theorem refEncode_any (s x : Int) (f : Bool) (B : Nat) (A : Option Addr) (n c : Nat) (l : List En) (w : World) (hl : l.length = n) (hr : Rd w B A (ensV l)) (hB : B ≤ w.heap.size) (hok : ptOk ⟨s, x, f, l⟩ = true) (hsum : sumsOk l) :
    Calls Tryd.prog 14 #[ptV s x f A n c] w fun e w' => e = .returned (.string (str (octB ⟨s, x, f, l⟩))) ∧ Below w.heap.size w w' := by
  obtain ⟨h1, h2⟩ := ptOk_yes hok
  obtain ⟨m1, m2, m3, m4, m5, m6⟩ := headOk_yes h1
  simp only at m1 m2 m3 m4 m5 m6
  obtain ⟨s, rfl⟩ := Int.eq_ofNat_of_zero_le (show 0 ≤ s by omega)
  obtain ⟨x, rfl⟩ := Int.eq_ofNat_of_zero_le m3
  exact refEncode_nat s x f B A n c l w hl hr hB (by omega) (by omega) (by omega) h2 hsum

/-- texts, as cells -/
def strsV (bs : List (List UInt8)) : List Value := bs.map fun b => .string (str b)
def slotWA (i : Nat) : Nat := 23 + i
def waitWA : Nat → List Nat
  | 2 => [0, 1]
  | 3 => [2]
  | 4 => [3]
  | 5 => [4]
  | 6 => [5]
  | 7 => [6]
  | 8 => [6]
  | 9 => [6, 7, 8]
  | 10 => [6, 9]
  | 11 => [6, 10]
  | 12 => [6]
  | 13 => [6, 12]
  | 14 => [6]
  | 15 => [6, 13, 14]
  | 16 => [6, 15]
  | 17 => [6, 16]
  | 18 => [6, 11, 17]
  | _ => []
def leaveWA (g' o' n c' k gp g o c sm y4 : Nat) (b : List UInt8) : Nat → Value → World → Prop
  | 0, v, _ => v = .slice (some ⟨g', o', none⟩) n c'
  | 1, v, _ => v = .int .i64 (k : Int)
  | 2, v, _ => v = .pointer (some ⟨g', o' + k, none⟩)
  | 3, v, _ => v = .string (str b)
  | 4, v, _ => v = .int .i64 128
  | 5, v, _ => v = .bool false
  | 6, v, _ => v = .bool false
  | 7, v, _ => v = .slice (some ⟨g', o', none⟩) n c'
  | 8, v, _ => v = .int .i64 (k : Int)
  | 9, v, _ => v = .pointer (some ⟨g', o' + k, none⟩)
  | 10, v, _ => v = .string (str b)
  | 11, v, _ => v = .int .u32 (sm : Int)
  | 12, v, _ => v = .pointer (some ⟨gp, 3, none⟩)
  | 13, v, _ => v = .slice (some ⟨g, o, none⟩) n c
  | 14, v, _ => v = .int .i64 (k : Int)
  | 15, v, _ => v = .pointer (some ⟨g, o + k * 4, none⟩)
  | 16, v, _ => v = .pointer (some ⟨g, o + k * 4 + 3, none⟩)
  | 17, v, _ => v = .int .u32 (y4 : Int)
  | _, _, _ => True
def slotWB (i : Nat) : Nat := 23 + i
def waitWB : Nat → List Nat
  | 2 => [0, 1]
  | 3 => [2]
  | 4 => [3]
  | 5 => [4]
  | 6 => [5]
  | 7 => [6]
  | 8 => [6]
  | 9 => [6, 7, 8]
  | 10 => [6, 9]
  | 11 => [6, 10]
  | 12 => [6]
  | 13 => [6, 12]
  | 14 => [6]
  | 15 => [6, 13, 14]
  | 16 => [6, 15]
  | 17 => [6, 16]
  | 18 => [6, 11, 17]
  | _ => []
def leaveWB (g' o' n c' k z : Nat) (b : List UInt8) : Nat → Value → World → Prop
  | 0, v, _ => v = .slice (some ⟨g', o', none⟩) n c'
  | 1, v, _ => v = .int .i64 (k : Int)
  | 2, v, _ => v = .pointer (some ⟨g', o' + k, none⟩)
  | 3, v, _ => v = .string (str b)
  | 4, v, _ => v = .int .i64 (z : Int)
  | 5, v, _ => v = .bool true
  | 6, v, _ => v = .bool true
  | 7, v, _ => v = undef
  | 8, v, _ => v = undef
  | 9, v, _ => v = undef
  | 10, v, _ => v = undef
  | 11, v, _ => v = undef
  | 12, v, _ => v = undef
  | 13, v, _ => v = undef
  | 14, v, _ => v = undef
  | 15, v, _ => v = undef
  | 16, v, _ => v = undef
  | 17, v, _ => v = undef
  | _, _, _ => True
set_option maxRecDepth 100000 in
set_option maxHeartbeats 4000000 in
theorem refWhole_any (s x : Int) (f : Bool) (A A' : Option Addr) (n c m c' : Nat) (l : List En) (bs : List (List UInt8)) (t : Bool) (w : World) (hl : l.length = n) (hm : bs.length = m) (hn : n ≤ 9223372036854775807) (hmm : m ≤ 9223372036854775807) (hr : Rd w w.heap.size A (ensV l)) (hr' : Rd w w.heap.size A' (strsV bs)) (hb : ∀ b ∈ bs, b.length ≤ 9223372036854775807)
    (ht : t = true ↔ WholeP ⟨s, x, f, l⟩ bs) :
    Calls Tryd.prog 19 #[ptV s x f A n c, .slice A' m c'] w fun e w' => e = .returned (.bool t) ∧ Below w.heap.size w w' := by
  have K0 := Lib.hid (Bk.new w 24 #[.int .i64 s, .int .i64 x, .bool f, .slice A n c])
  have HB0 := Lib.hid ((Below.refl w.heap.size w).alloc (Nat.le_refl _) (.cells #[.int .i64 s, .int .i64 x, .bool f, .slice A n c] 24))
  obtain ⟨q, hq⟩ : ∃ q, ptOk ⟨s, x, f, l⟩ = q := ⟨_, rfl⟩
  have HM := Lib.hid (refMay_any s x f w.heap.size A n c l q _ hl hn (hr.below HB0.out) HB0.out.size hq)
  obtain ⟨k0, k1, k2, k3, -⟩ := ent_cells K0.out
  have HL := Lib.hid hl
  have HL' := Lib.hid hm
  have HR := Lib.hid hr
  have HR' := Lib.hid hr'
  have HT := Lib.hid ht
  have HQ := Lib.hid hq
  have HBL := Lib.hid hb
  clear hl hm hr hr' ht hq hb
  unfold ptV at HM ⊢
  go_enter Tryd.func19, Tryd.ntmps19
  go_wp2_with fail
  refine HM.out.mono ?_
  rintro e w1 ⟨rfl, hb1⟩
  have HB1 := Lib.hid (HB0.out.trans (hb1.mono HB0.out.size))
  have K1 := Lib.hid (K0.out.below hb1 K0.out.lt)
  clear hb1 HM k0 k1 k2 k3 K0 HB0
  obtain ⟨k0, k1, k2, k3, -⟩ := ent_cells K1.out
  cases q
  · have HF : Hid (t = false) := by
      cases t with
      | false => exact rfl
      | true => have h := (HT.out.1 rfl).1; rw [HQ.out] at h; cases h
    go_wp2
    go_ret
    exact ⟨ret_bool HF.out.symm, HB1.out⟩
  · by_cases hnm : n = m
    · subst hnm
      go_wp2
      go_loopw [5] (fun i wr => ∃ k : Nat, k ≤ n ∧ i = .int .i64 k ∧ Hid (∀ j y b, j < k → l[j]? = some y → bs[j]? = some b → b.length = 128 ∧ sumN b = y.sum) ∧ Hid (Bk wr w.heap.size 24 #[.int .i64 s, .int .i64 x, .bool f, .slice A n c]) ∧ Hid (Below w.heap.size w wr)) (fun i _ => n - (intOf i).toNat)
      case atStart => exact ⟨0, Nat.zero_le _, rfl, fun j _ _ h => absurd h (by omega), K1.out, HB1.out⟩
      case round =>
        obtain ⟨k, hk, rfl, HALL, HKR, HB⟩ := hrel
        clear k0 k1 k2 k3 K1 HB1
        obtain ⟨k0, k1, k2, k3, -⟩ := ent_cells HKR.out
        by_cases hlt : k < n
        · obtain ⟨y, hy⟩ : ∃ y, l[k]? = some y := ⟨_, List.getElem?_eq_getElem (by have := HL.out; omega)⟩
          obtain ⟨b, hb⟩ : ∃ b, bs[k]? = some b := ⟨_, List.getElem?_eq_getElem (by have := HL'.out; omega)⟩
          obtain ⟨g, o, rfl, -, -⟩ := HR.out.plain (by rw [ensV_length]; have := HL.out; omega)
          obtain ⟨g', o', rfl, -, -⟩ := HR'.out.plain (by simp [strsV]; have := HL'.out; omega)
          obtain ⟨y1, y2, y3, y4⟩ := y
          obtain ⟨-, -, -, n3⟩ := ensV_get l k _ hy
          obtain ⟨z, hz⟩ : ∃ z, (str b).size = z := ⟨_, rfl⟩
          obtain ⟨sm, hsm⟩ : ∃ z, sumN b = z := ⟨_, rfl⟩
          have HZ : Hid (b.length = z) := by show _ = _; rw [← hz, str_size]
          have hbz : z ≤ 9223372036854775807 := by rw [← HZ.out]; exact HBL.out b (List.mem_of_getElem? hb)
          have HZS := Lib.hid hz
          have HSM := Lib.hid hsm
          have HKS : Hid (∀ w', Below wr.heap.size wr w' → w'.cell? ⟨g', o' + k, none⟩ = some (.string (str b))) := fun w' hbw => by
            have hc := HR'.out.below (HB.out.trans (hbw.mono HB.out.size))
            obtain ⟨ad, e, _, hc⟩ := hc k (.string (str b)) (by simp [strsV, hb])
            cases e; rwa [add_plain] at hc
          have HKL : Hid (∀ w', Below wr.heap.size wr w' → w'.cell? ⟨g, o + k * 4 + 3, none⟩ = some (.int .u32 (y4 : Int))) := fun w' hbw => by
            have hc := HR.out.below (HB.out.trans (hbw.mono HB.out.size))
            obtain ⟨ad, e, _, hc⟩ := hc _ _ n3; cases e; rwa [add_plain, ← Nat.add_assoc] at hc
          have HKP : Hid (∀ w', Below wr.heap.size wr w' → Bk w' w.heap.size 24 #[.int .i64 s, .int .i64 x, .bool f, .slice (some ⟨g, o, none⟩) n c]) := fun w' hbw => HKR.out.below hbw HKR.out.lt
          have HY := Lib.hid hy
          have HBB := Lib.hid hb
          clear n3 hy hb hz hsm
          by_cases h128 : z = 128
          · subst h128
            go_wp2_with fail
            refine wp_region_tail (by kernel_rfl) 18 43 slotWA waitWA (leaveWA g' o' n c' k w.heap.size g o c sm y4 b) rfl
              (by kernel_rfl) (fun i v w w' _ _ h => by unfold leaveWA at *; split at h <;> exact h) ?_ ?_
            · intro i hi
              match i, hi with
              | 0, _ =>
                intro o ho a wc hk hb hd K hK
                cases ho
                have e0 := hk.rest 1 (.slice (some ⟨g', o', none⟩) n c') (by omega) (by kernel_rfl) rfl
                rw [Array.getD_eq_getD_getElem?] at e0
                go_simp
                exact hK _ _ (Below.refl _ _) rfl
              | 1, _ =>
                intro o ho a wc hk hb hd K hK
                cases ho
                have e0 := hk.rest 5 (.int .i64 (k : Int)) (by omega) (by kernel_rfl) rfl
                rw [Array.getD_eq_getD_getElem?] at e0
                go_simp
                exact hK _ _ (Below.refl _ _) rfl
              | 2, _ =>
                intro o ho a wc hk hb hd K hK
                cases ho
                have e0 := hd 0 (by simp [waitWA])
                have e1 := hd 1 (by simp [waitWA])
                simp only [leaveWA, slotWA, Nat.reduceAdd, Array.getD_eq_getD_getElem?] at e0 e1
                go_simp
                exact hK _ _ (Below.refl _ _) rfl
              | 3, _ =>
                intro o ho a wc hk hb hd K hK
                cases ho
                have e0 := hd 2 (by simp [waitWA])
                simp only [leaveWA, slotWA, Nat.reduceAdd, Array.getD_eq_getD_getElem?] at e0
                have c0 := HKS.out _ hb
                go_simp
                exact hK _ _ (Below.refl _ _) rfl
              | 4, _ =>
                intro o ho a wc hk hb hd K hK
                cases ho
                have e0 := hd 3 (by simp [waitWA])
                simp only [leaveWA, slotWA, Nat.reduceAdd, Array.getD_eq_getD_getElem?] at e0
                have zs := HZS.out
                go_simp
                exact hK _ _ (Below.refl _ _) rfl
              | 5, _ =>
                intro o ho a wc hk hb hd K hK
                cases ho
                have e0 := hd 4 (by simp [waitWA])
                simp only [leaveWA, slotWA, Nat.reduceAdd, Array.getD_eq_getD_getElem?] at e0
                go_simp
                exact hK _ _ (Below.refl _ _) rfl
              | 6, _ =>
                intro o ho a wc hk hb hd K hK
                cases ho
                have e0 := hd 5 (by simp [waitWA])
                simp only [leaveWA, slotWA, Nat.reduceAdd, Array.getD_eq_getD_getElem?] at e0
                go_simp
                exact hK _ _ (Below.refl _ _) rfl
              | 7, _ =>
                intro o ho a wc hk hb hd K hK
                cases ho
                have e0 := hk.rest 1 (.slice (some ⟨g', o', none⟩) n c') (by omega) (by kernel_rfl) rfl
                rw [Array.getD_eq_getD_getElem?] at e0
                have e1 := hd 6 (by simp [waitWA])
                simp only [leaveWA, slotWA, Nat.reduceAdd, Array.getD_eq_getD_getElem?] at e1
                have gs := hk.some_ (s := 29) (by omega) e1
                go_simp
                exact hK _ _ (Below.refl _ _) rfl
              | 8, _ =>
                intro o ho a wc hk hb hd K hK
                cases ho
                have e0 := hk.rest 5 (.int .i64 (k : Int)) (by omega) (by kernel_rfl) rfl
                rw [Array.getD_eq_getD_getElem?] at e0
                have e1 := hd 6 (by simp [waitWA])
                simp only [leaveWA, slotWA, Nat.reduceAdd, Array.getD_eq_getD_getElem?] at e1
                have gs := hk.some_ (s := 29) (by omega) e1
                go_simp
                exact hK _ _ (Below.refl _ _) rfl
              | 9, _ =>
                intro o ho a wc hk hb hd K hK
                cases ho
                have e0 := hd 6 (by simp [waitWA])
                have e1 := hd 7 (by simp [waitWA])
                have e2 := hd 8 (by simp [waitWA])
                simp only [leaveWA, slotWA, Nat.reduceAdd, Array.getD_eq_getD_getElem?] at e0 e1 e2
                have gs := hk.some_ (s := 29) (by omega) e0
                go_simp
                exact hK _ _ (Below.refl _ _) rfl
              | 10, _ =>
                intro o ho a wc hk hb hd K hK
                cases ho
                have e0 := hd 6 (by simp [waitWA])
                have e1 := hd 9 (by simp [waitWA])
                simp only [leaveWA, slotWA, Nat.reduceAdd, Array.getD_eq_getD_getElem?] at e0 e1
                have gs := hk.some_ (s := 29) (by omega) e0
                have c0 := HKS.out _ hb
                go_simp
                exact hK _ _ (Below.refl _ _) rfl
              | 11, _ =>
                intro o ho a wc hk hb hd K hK
                cases ho
                have e0 := hd 6 (by simp [waitWA])
                have e1 := hd 10 (by simp [waitWA])
                simp only [leaveWA, slotWA, Nat.reduceAdd, Array.getD_eq_getD_getElem?] at e0 e1
                have gs := hk.some_ (s := 29) (by omega) e0
                go_simp
                refine (refSum_any b sm wc (by rw [HZ.out]; omega) HSM.out).mono ?_
                rintro e w3 ⟨rfl, rfl⟩
                exact hK _ _ (Below.refl _ _) rfl
              | 12, _ =>
                intro o ho a wc hk hb hd K hK
                cases ho
                have e0 := hk.rest 2 (.pointer (some ⟨w.heap.size, 0, none⟩)) (by omega) (by kernel_rfl) rfl
                rw [Array.getD_eq_getD_getElem?] at e0
                have e1 := hd 6 (by simp [waitWA])
                simp only [leaveWA, slotWA, Nat.reduceAdd, Array.getD_eq_getD_getElem?] at e1
                have gs := hk.some_ (s := 29) (by omega) e1
                go_simp
                exact hK _ _ (Below.refl _ _) rfl
              | 13, _ =>
                intro o ho a wc hk hb hd K hK
                cases ho
                have e0 := hd 6 (by simp [waitWA])
                have e1 := hd 12 (by simp [waitWA])
                simp only [leaveWA, slotWA, Nat.reduceAdd, Array.getD_eq_getD_getElem?] at e0 e1
                have gs := hk.some_ (s := 29) (by omega) e0
                obtain ⟨c0, c1, c2, c3, -⟩ := ent_cells (HKP.out _ hb)
                go_simp
                exact hK _ _ (Below.refl _ _) rfl
              | 14, _ =>
                intro o ho a wc hk hb hd K hK
                cases ho
                have e0 := hk.rest 5 (.int .i64 (k : Int)) (by omega) (by kernel_rfl) rfl
                rw [Array.getD_eq_getD_getElem?] at e0
                have e1 := hd 6 (by simp [waitWA])
                simp only [leaveWA, slotWA, Nat.reduceAdd, Array.getD_eq_getD_getElem?] at e1
                have gs := hk.some_ (s := 29) (by omega) e1
                go_simp
                exact hK _ _ (Below.refl _ _) rfl
              | 15, _ =>
                intro o ho a wc hk hb hd K hK
                cases ho
                have e0 := hd 6 (by simp [waitWA])
                have e1 := hd 13 (by simp [waitWA])
                have e2 := hd 14 (by simp [waitWA])
                simp only [leaveWA, slotWA, Nat.reduceAdd, Array.getD_eq_getD_getElem?] at e0 e1 e2
                have gs := hk.some_ (s := 29) (by omega) e0
                go_simp
                exact hK _ _ (Below.refl _ _) rfl
              | 16, _ =>
                intro o ho a wc hk hb hd K hK
                cases ho
                have e0 := hd 6 (by simp [waitWA])
                have e1 := hd 15 (by simp [waitWA])
                simp only [leaveWA, slotWA, Nat.reduceAdd, Array.getD_eq_getD_getElem?] at e0 e1
                have gs := hk.some_ (s := 29) (by omega) e0
                go_simp
                exact hK _ _ (Below.refl _ _) rfl
              | 17, _ =>
                intro o ho a wc hk hb hd K hK
                cases ho
                have e0 := hd 6 (by simp [waitWA])
                have e1 := hd 16 (by simp [waitWA])
                simp only [leaveWA, slotWA, Nat.reduceAdd, Array.getD_eq_getD_getElem?] at e0 e1
                have gs := hk.some_ (s := 29) (by omega) e0
                have c0 := HKL.out _ hb
                go_simp
                exact hK _ _ (Below.refl _ _) rfl
              | _ + 18, h => exact absurd h (by omega)
            · intro vals w2 hb hR
              have v0 := hR 0 (by omega)
              have v1 := hR 1 (by omega)
              have v2 := hR 2 (by omega)
              have v3 := hR 3 (by omega)
              have v4 := hR 4 (by omega)
              have v5 := hR 5 (by omega)
              have v6 := hR 6 (by omega)
              have v7 := hR 7 (by omega)
              have v8 := hR 8 (by omega)
              have v9 := hR 9 (by omega)
              have v10 := hR 10 (by omega)
              have v11 := hR 11 (by omega)
              have v12 := hR 12 (by omega)
              have v13 := hR 13 (by omega)
              have v14 := hR 14 (by omega)
              have v15 := hR 15 (by omega)
              have v16 := hR 16 (by omega)
              have v17 := hR 17 (by omega)
              simp only [leaveWA] at v0 v1 v2 v3 v4 v5 v6 v7 v8 v9 v10 v11 v12 v13 v14 v15 v16 v17
              clear hR
              simp only [putAll, slotWA, Nat.reduceAdd, List.setIfInBounds_toArray, List.set_cons_zero, List.set_cons_succ, List.drop_succ_cons, List.drop_zero, v0, v1, v2, v3, v4, v5, v6, v7, v8, v9, v10, v11, v12, v13, v14, v15, v16, v17]
              clear v0 v1 v2 v3 v4 v5 v6 v7 v8 v9 v10 v11 v12 v13 v14 v15 v16 v17
              have HB2 := Lib.hid (HB.out.trans (hb.mono HB.out.size))
              have HKP2 := Lib.hid (HKP.out _ hb)
              clear hb HKP HKL HKS k0 k1 k2 k3
              by_cases hs : sm = y4
              · subst hs
                go_wp2
                go_roundw
                case rel =>
                  refine ⟨k + 1, by omega, by go_num, fun j u v hj hu hv => ?_, HKP2.out, HB2.out⟩
                  by_cases e : j = k
                  · subst e
                    rw [HY.out] at hu
                    rw [HBB.out] at hv
                    cases hu
                    cases hv
                    exact ⟨HZ.out, HSM.out⟩
                  · exact HALL.out j u v (by omega) hu hv
                case measure => simp [intOf]; omega
              · have hne : ((sm : Int) != (y4 : Int)) = true := by simp; omega
                have HF : Hid (t = false) := by
                  cases t with
                  | false => exact rfl
                  | true =>
                    have h := (HT.out.1 rfl).2.2 k _ b HY.out HBB.out
                    rw [HSM.out] at h
                    exact absurd h hs
                clear hs
                go_wp2
                go_ret
                exact ⟨ret_bool HF.out.symm, HB2.out⟩
          · have hne : ((z : Int) != 128) = true := by simp; omega
            go_wp2_with fail
            refine wp_region_tail (by kernel_rfl) 18 43 slotWB waitWB (leaveWB g' o' n c' k z b) rfl
              (by kernel_rfl) (fun i v w w' _ _ h => by unfold leaveWB at *; split at h <;> exact h) ?_ ?_
            · intro i hi
              match i, hi with
              | 0, _ =>
                intro o ho a wc hk hb hd K hK
                cases ho
                have e0 := hk.rest 1 (.slice (some ⟨g', o', none⟩) n c') (by omega) (by kernel_rfl) rfl
                rw [Array.getD_eq_getD_getElem?] at e0
                go_simp
                exact hK _ _ (Below.refl _ _) rfl
              | 1, _ =>
                intro o ho a wc hk hb hd K hK
                cases ho
                have e0 := hk.rest 5 (.int .i64 (k : Int)) (by omega) (by kernel_rfl) rfl
                rw [Array.getD_eq_getD_getElem?] at e0
                go_simp
                exact hK _ _ (Below.refl _ _) rfl
              | 2, _ =>
                intro o ho a wc hk hb hd K hK
                cases ho
                have e0 := hd 0 (by simp [waitWB])
                have e1 := hd 1 (by simp [waitWB])
                simp only [leaveWB, slotWB, Nat.reduceAdd, Array.getD_eq_getD_getElem?] at e0 e1
                go_simp
                exact hK _ _ (Below.refl _ _) rfl
              | 3, _ =>
                intro o ho a wc hk hb hd K hK
                cases ho
                have e0 := hd 2 (by simp [waitWB])
                simp only [leaveWB, slotWB, Nat.reduceAdd, Array.getD_eq_getD_getElem?] at e0
                have c0 := HKS.out _ hb
                go_simp
                exact hK _ _ (Below.refl _ _) rfl
              | 4, _ =>
                intro o ho a wc hk hb hd K hK
                cases ho
                have e0 := hd 3 (by simp [waitWB])
                simp only [leaveWB, slotWB, Nat.reduceAdd, Array.getD_eq_getD_getElem?] at e0
                have zs := HZS.out
                go_simp
                exact hK _ _ (Below.refl _ _) rfl
              | 5, _ =>
                intro o ho a wc hk hb hd K hK
                cases ho
                have e0 := hd 4 (by simp [waitWB])
                simp only [leaveWB, slotWB, Nat.reduceAdd, Array.getD_eq_getD_getElem?] at e0
                go_simp
                exact hK _ _ (Below.refl _ _) rfl
              | 6, _ =>
                intro o ho a wc hk hb hd K hK
                cases ho
                have e0 := hd 5 (by simp [waitWB])
                simp only [leaveWB, slotWB, Nat.reduceAdd, Array.getD_eq_getD_getElem?] at e0
                go_simp
                exact hK _ _ (Below.refl _ _) rfl
              | 7, _ =>
                intro o ho a wc hk hb hd K hK
                cases ho
                have e0 := hk.rest 1 (.slice (some ⟨g', o', none⟩) n c') (by omega) (by kernel_rfl) rfl
                rw [Array.getD_eq_getD_getElem?] at e0
                have e1 := hd 6 (by simp [waitWB])
                simp only [leaveWB, slotWB, Nat.reduceAdd, Array.getD_eq_getD_getElem?] at e1
                have gs := hk.some_ (s := 29) (by omega) e1
                go_simp
                exact hK _ _ (Below.refl _ _) rfl
              | 8, _ =>
                intro o ho a wc hk hb hd K hK
                cases ho
                have e0 := hk.rest 5 (.int .i64 (k : Int)) (by omega) (by kernel_rfl) rfl
                rw [Array.getD_eq_getD_getElem?] at e0
                have e1 := hd 6 (by simp [waitWB])
                simp only [leaveWB, slotWB, Nat.reduceAdd, Array.getD_eq_getD_getElem?] at e1
                have gs := hk.some_ (s := 29) (by omega) e1
                go_simp
                exact hK _ _ (Below.refl _ _) rfl
              | 9, _ =>
                intro o ho a wc hk hb hd K hK
                cases ho
                have e0 := hd 6 (by simp [waitWB])
                have e1 := hd 7 (by simp [waitWB])
                have e2 := hd 8 (by simp [waitWB])
                simp only [leaveWB, slotWB, Nat.reduceAdd, Array.getD_eq_getD_getElem?] at e0 e1 e2
                have gs := hk.some_ (s := 29) (by omega) e0
                go_simp
                exact hK _ _ (Below.refl _ _) rfl
              | 10, _ =>
                intro o ho a wc hk hb hd K hK
                cases ho
                have e0 := hd 6 (by simp [waitWB])
                have e1 := hd 9 (by simp [waitWB])
                simp only [leaveWB, slotWB, Nat.reduceAdd, Array.getD_eq_getD_getElem?] at e0 e1
                have gs := hk.some_ (s := 29) (by omega) e0
                go_simp
                exact hK _ _ (Below.refl _ _) rfl
              | 11, _ =>
                intro o ho a wc hk hb hd K hK
                cases ho
                have e0 := hd 6 (by simp [waitWB])
                have e1 := hd 10 (by simp [waitWB])
                simp only [leaveWB, slotWB, Nat.reduceAdd, Array.getD_eq_getD_getElem?] at e0 e1
                have gs := hk.some_ (s := 29) (by omega) e0
                go_simp
                exact hK _ _ (Below.refl _ _) rfl
              | 12, _ =>
                intro o ho a wc hk hb hd K hK
                cases ho
                have e0 := hk.rest 2 (.pointer (some ⟨w.heap.size, 0, none⟩)) (by omega) (by kernel_rfl) rfl
                rw [Array.getD_eq_getD_getElem?] at e0
                have e1 := hd 6 (by simp [waitWB])
                simp only [leaveWB, slotWB, Nat.reduceAdd, Array.getD_eq_getD_getElem?] at e1
                have gs := hk.some_ (s := 29) (by omega) e1
                go_simp
                exact hK _ _ (Below.refl _ _) rfl
              | 13, _ =>
                intro o ho a wc hk hb hd K hK
                cases ho
                have e0 := hd 6 (by simp [waitWB])
                have e1 := hd 12 (by simp [waitWB])
                simp only [leaveWB, slotWB, Nat.reduceAdd, Array.getD_eq_getD_getElem?] at e0 e1
                have gs := hk.some_ (s := 29) (by omega) e0
                go_simp
                exact hK _ _ (Below.refl _ _) rfl
              | 14, _ =>
                intro o ho a wc hk hb hd K hK
                cases ho
                have e0 := hk.rest 5 (.int .i64 (k : Int)) (by omega) (by kernel_rfl) rfl
                rw [Array.getD_eq_getD_getElem?] at e0
                have e1 := hd 6 (by simp [waitWB])
                simp only [leaveWB, slotWB, Nat.reduceAdd, Array.getD_eq_getD_getElem?] at e1
                have gs := hk.some_ (s := 29) (by omega) e1
                go_simp
                exact hK _ _ (Below.refl _ _) rfl
              | 15, _ =>
                intro o ho a wc hk hb hd K hK
                cases ho
                have e0 := hd 6 (by simp [waitWB])
                have e1 := hd 13 (by simp [waitWB])
                have e2 := hd 14 (by simp [waitWB])
                simp only [leaveWB, slotWB, Nat.reduceAdd, Array.getD_eq_getD_getElem?] at e0 e1 e2
                have gs := hk.some_ (s := 29) (by omega) e0
                go_simp
                exact hK _ _ (Below.refl _ _) rfl
              | 16, _ =>
                intro o ho a wc hk hb hd K hK
                cases ho
                have e0 := hd 6 (by simp [waitWB])
                have e1 := hd 15 (by simp [waitWB])
                simp only [leaveWB, slotWB, Nat.reduceAdd, Array.getD_eq_getD_getElem?] at e0 e1
                have gs := hk.some_ (s := 29) (by omega) e0
                go_simp
                exact hK _ _ (Below.refl _ _) rfl
              | 17, _ =>
                intro o ho a wc hk hb hd K hK
                cases ho
                have e0 := hd 6 (by simp [waitWB])
                have e1 := hd 16 (by simp [waitWB])
                simp only [leaveWB, slotWB, Nat.reduceAdd, Array.getD_eq_getD_getElem?] at e0 e1
                have gs := hk.some_ (s := 29) (by omega) e0
                go_simp
                exact hK _ _ (Below.refl _ _) rfl
              | _ + 18, h => exact absurd h (by omega)
            · intro vals w2 hb hR
              have v0 := hR 0 (by omega)
              have v1 := hR 1 (by omega)
              have v2 := hR 2 (by omega)
              have v3 := hR 3 (by omega)
              have v4 := hR 4 (by omega)
              have v5 := hR 5 (by omega)
              have v6 := hR 6 (by omega)
              have v7 := hR 7 (by omega)
              have v8 := hR 8 (by omega)
              have v9 := hR 9 (by omega)
              have v10 := hR 10 (by omega)
              have v11 := hR 11 (by omega)
              have v12 := hR 12 (by omega)
              have v13 := hR 13 (by omega)
              have v14 := hR 14 (by omega)
              have v15 := hR 15 (by omega)
              have v16 := hR 16 (by omega)
              have v17 := hR 17 (by omega)
              simp only [leaveWB] at v0 v1 v2 v3 v4 v5 v6 v7 v8 v9 v10 v11 v12 v13 v14 v15 v16 v17
              clear hR
              simp only [putAll, slotWB, Nat.reduceAdd, List.setIfInBounds_toArray, List.set_cons_zero, List.set_cons_succ, List.drop_succ_cons, List.drop_zero, v0, v1, v2, v3, v4, v5, v6, v7, v8, v9, v10, v11, v12, v13, v14, v15, v16, v17]
              clear v0 v1 v2 v3 v4 v5 v6 v7 v8 v9 v10 v11 v12 v13 v14 v15 v16 v17
              have HB2 := Lib.hid (HB.out.trans (hb.mono HB.out.size))
              have HF : Hid (t = false) := by
                cases t with
                | false => exact rfl
                | true =>
                  have h := (HT.out.1 rfl).2.1.2 b (List.mem_of_getElem? HBB.out)
                  rw [HZ.out] at h
                  exact absurd h h128
              clear hb HKP HKL HKS k0 k1 k2 k3
              go_wp2
              go_ret
              exact ⟨ret_bool HF.out.symm, HB2.out⟩
        · have HF : Hid (t = true) := by
            refine HT.out.2 ⟨HQ.out, ⟨by simp only [HL.out, HL'.out], fun b hb => ?_⟩, fun j y b hy hb => ?_⟩
            · obtain ⟨j, hj, rfl⟩ := List.mem_iff_getElem.1 hb
              have hj' : j < l.length := by have := HL.out; have := HL'.out; omega
              exact (HALL.out j _ _ (by have := HL'.out; omega) (List.getElem?_eq_getElem hj') (List.getElem?_eq_getElem hj)).1
            · exact (HALL.out j y b (by have h := (List.getElem?_eq_some_iff.1 hb).1; have := HL'.out; omega) hy hb).2
          go_wp2
          go_ret
          exact ⟨ret_bool HF.out.symm, HB.out⟩
    · have HF : Hid (t = false) := by
        cases t with
        | false => exact rfl
        | true => exact absurd (by have h := (HT.out.1 rfl).2.1.1; rw [← HL.out, ← HL'.out]; exact h) hnm
      have hne : ((m : Int) == (n : Int)) = false := by simp; omega
      clear hnm
      go_wp2
      go_ret
      exact ⟨ret_bool HF.out.symm, HB1.out⟩
end Go.Proofs.YtjibjojnkieliaaDoor
