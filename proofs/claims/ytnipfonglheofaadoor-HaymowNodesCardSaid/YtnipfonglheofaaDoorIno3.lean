/-
  What inode.numbers, what seals a record, Encode and Node do. (Printed by wip/tools/ino3.py.)
-/
import Derived.Test.YtnipfonglheofaaDoorIno2
import Derived.Test.YtnipfonglheofaaDoorCrcSeal
import Derived.Test.YtnipfonglheofaaDoorRegTail
namespace Go.Proofs.YtnipfonglheofaaDoor
open Go.RowKit
set_option maxRecDepth 100000
set_option linter.unusedVariables false

/-- a new slice of numbers -/
def InoNums (base : Nat) (l : List Num') (n : Nat) (v : Value) (w : World) : Prop := ∃ g : Nat, v = .slice (some ⟨g, 0, none⟩) n n ∧ base ≤ g ∧ Bk w g 74 (numsV l).toArray
theorem InoNums.up {base : Nat} {l : List Num'} {n : Nat} {v : Value} {w w' : World} (h : InoNums base l n v w) (hb : Below w.heap.size w w') : InoNums base l n v w' := by
  obtain ⟨g, rfl, hg, hr⟩ := h
  exact ⟨g, rfl, hg, hr.below hb hr.lt⟩
theorem InoNums.new {base : Nat} (w : World) (cs : Array Value) (l : List Num') {n : Nat} (hB : base ≤ w.heap.size) (h : cs = (numsV l).toArray) : InoNums base l n (.slice (some ⟨w.heap.size, 0, none⟩) n n) (w.alloc (.cells cs 74)) :=
  ⟨_, rfl, hB, by rw [← h]; exact Bk.new w _ cs⟩
theorem own_of_bkI {w : World} {base e : Nat} {size g n : Nat} {xs : List Value} (h : Bk w g e xs.toArray) (hb : base ≤ g) (hl : xs.length = n * size) (hm : n ≤ maxLen) : w.ownsRow base e size (.slice (some ⟨g, 0, none⟩) n n) n xs :=
  ⟨by omega, .inr ⟨g, n, xs.toArray, rfl, hb, h, Nat.le_refl _, hm, by simp; omega, by rw [List.take_of_length_le (by simp; omega)]⟩⟩
theorem info_numI : (Tryd.prog.info? 74).map (fun i => (i.zero, i.size, i.bytes)) = some (some (.agg #[.int .i64 0, .int .u64 0]), 2, 16) := by kernel_rfl
theorem numsV_one (l : List Num') : ∀ u ∈ numsV l, u.oneCell' = true := by
  intro u hu
  obtain ⟨q, _, hq⟩ := List.mem_flatMap.1 hu
  simp at hq
  rcases hq with rfl | rfl <;> rfl

def slotI5 (i : Nat) : Nat := 12 + i
def waitI5 : Nat → List Nat
  | 2 => [1]
  | 3 => [2]
  | 5 => [4]
  | 6 => [5]
  | 7 => [6]
  | 8 => [3, 7]
  | 9 => [0, 8]
  | _ => []
def leaveI5 (B0 b : Nat) (r : Value) (y1 : Int) (y2 : Nat) : Nat → Value → World → Prop
  | 0, v, _ => v = r
  | 1, v, _ => v = .pointer (some ⟨b, 0, none⟩)
  | 2, v, _ => v = .int .i64 y1
  | 3, v, _ => v = .agg #[.int .i64 4, .int .u64 y1]
  | 4, v, _ => v = .pointer (some ⟨b, 1, none⟩)
  | 5, v, _ => v = .int .u32 (y2 : Int)
  | 6, v, _ => v = .int .u64 (y2 : Int)
  | 7, v, _ => v = .agg #[.int .i64 4, .int .u64 (y2 : Int)]
  | 8, v, w => InoNums B0 (prR ⟨y1, y2⟩) 2 v w
  | _, _, _ => True
theorem leaveI5_mono (B0 b : Nat) (r : Value) (y1 : Int) (y2 : Nat) (w0 : World) (i : Nat) (v' : Value) (w w' : World) (_ : Below w0.heap.size w0 w) (hb : Below w.heap.size w w') (h : leaveI5 B0 b r y1 y2 i v' w) : leaveI5 B0 b r y1 y2 i v' w' := by
  unfold leaveI5 at *
  split at h <;> first | exact h | exact InoNums.up h hb

set_option maxRecDepth 100000 in
set_option maxHeartbeats 4000000 in
theorem inoNumbers_any (B : Nat) (A : Option Addr) (n c : Nat) (l : List Pr) (w : World) (hl : l.length = n) (hn : n ≤ 1000) (hr : Rd w B A (prsV l)) (hB : B ≤ w.heap.size) (hok : ∀ q ∈ l, prOk q = true) (hs : prSums l) :
    Calls Tryd.prog 18 #[.slice A n c] w fun e w' => ∃ A' c', e = .returned (.slice A' (2 * n) c') ∧ Rd w' w'.heap.size A' (numsV (prsR l)) ∧ Below w.heap.size w w' := by
  obtain ⟨i0, hi, hz0, hz1, hz2⟩ := info_parts info_numI
  have hi := Lib.hid hi
  have hz0 := Lib.hid hz0
  have hz1 := Lib.hid hz1
  have hz2 := Lib.hid hz2
  have HR := Lib.hid hr
  have HL := Lib.hid hl
  have HOKS := Lib.hid hok
  have HS := Lib.hid hs
  clear hr hl hok hs
  go_enter Tryd.func18, Tryd.ntmps18
  go_wp2
  go_loopw [3, 8] (fun r i wr => ∃ k : Nat, k ≤ n ∧ i = .int .i64 k ∧ Hid (wr.ownsRow w.heap.size 74 2 r (2 * k) (numsV (prsR (l.take k)))) ∧ Hid (Below w.heap.size w wr)) (fun _ i _ => n - (intOf i).toNat)
  case atStart => exact ⟨0, Nat.zero_le _, rfl, ⟨by simp [prsR, numsV], .inl ⟨rfl, rfl⟩⟩, Below.refl _ _⟩
  case round =>
    obtain ⟨k, hk, rfl, HOWN, HB⟩ := hrel
    obtain ⟨Ar, cr, hre, hcr, hcm⟩ := own_len HOWN.out
    subst hre
    by_cases hlt : k < n
    · obtain ⟨y, hy⟩ : ∃ y, l[k]? = some y := ⟨_, List.getElem?_eq_getElem (by have := HL.out; omega)⟩
      obtain ⟨b, o, rfl, hbB, hc⟩ := (HR.out.below (HB.out.mono hB)).plain (by rw [prsV_length]; have := HL.out; omega)
      obtain ⟨n0, n1⟩ := prsV_get l k y hy
      have c0 := hc _ _ n0
      have c1 := hc _ _ n1
      rw [← Nat.add_assoc] at c1
      have hy4 := HS.out y (List.mem_of_getElem? hy)
      obtain ⟨q1, q2, q3⟩ := prOk_yes (HOKS.out y (List.mem_of_getElem? hy))
      have HY := Lib.hid hy
      obtain ⟨y1, y2⟩ := y
      simp only at c0 c1 hy4 q1 q2
      have K3 := Lib.hid (Bk.new wr 29 #[.int .i64 y1, .int .u32 (y2 : Int)])
      have HB3 := Lib.hid (HB.out.alloc HB.out.size (.cells #[.int .i64 y1, .int .u32 (y2 : Int)] 29))
      have HOWN3 := Lib.hid (HOWN.out.alloc (.cells #[.int .i64 y1, .int .u32 (y2 : Int)] 29))
      clear hc n0 n1 hy HOWN q3
      go_wp2_with fail
      obtain ⟨w5, hw5⟩ : ∃ w5, wr.alloc (.cells #[.int .i64 y1, .int .u32 (y2 : Int)] 29) = w5 := ⟨_, rfl⟩
      rw [hw5] at K3 HB3 HOWN3 ⊢
      have HK : Hid (∀ w', Below w5.heap.size w5 w' → Bk w' wr.heap.size 29 #[.int .i64 y1, .int .u32 (y2 : Int)]) := fun w' hb => K3.out.below hb K3.out.lt
      have HZ := Lib.hid HB3.out.size
      clear hw5 c0 c1 HB K3
      refine wp_region_tail (by kernel_rfl) 9 24 slotI5 waitI5 (leaveI5 w.heap.size wr.heap.size (.slice Ar (2 * k) cr) y1 y2) rfl
        (by kernel_rfl) (leaveI5_mono _ _ _ _ _ _) ?_ ?_
      · intro i hi
        match i, hi with
        | 0, _ =>
          intro o ho a wc hk hb hd K hK
          cases ho
          have e0 := hk.rest 3 (.slice Ar (2 * k) cr) (by omega) (by kernel_rfl) rfl
          rw [Array.getD_eq_getD_getElem?] at e0
          go_simp
          exact hK _ _ (Below.refl _ _) rfl
        | 1, _ =>
          intro o ho a wc hk hb hd K hK
          cases ho
          have e0 := hk.rest 5 (.pointer (some ⟨wr.heap.size, 0, none⟩)) (by omega) (by kernel_rfl) rfl
          rw [Array.getD_eq_getD_getElem?] at e0
          go_simp
          exact hK _ _ (Below.refl _ _) rfl
        | 2, _ =>
          intro o ho a wc hk hb hd K hK
          cases ho
          have e0 := hd 1 (by simp [waitI5])
          simp only [leaveI5, slotI5, Nat.reduceAdd, Array.getD_eq_getD_getElem?] at e0
          obtain ⟨c0, c1, -⟩ := ino_cells2 (HK.out _ hb)
          go_simp
          exact hK _ _ (Below.refl _ _) rfl
        | 3, _ =>
          intro o ho a wc hk hb hd K hK
          cases ho
          have e0 := hd 2 (by simp [waitI5])
          simp only [leaveI5, slotI5, Nat.reduceAdd, Array.getD_eq_getD_getElem?] at e0
          go_simp
          refine (inoNumber_any 4 y1 wc (by omega) (by omega)).mono ?_
          rintro e w3 ⟨rfl, hw3⟩
          exact hK _ _ hw3 rfl
        | 4, _ =>
          intro o ho a wc hk hb hd K hK
          cases ho
          have e0 := hk.rest 5 (.pointer (some ⟨wr.heap.size, 0, none⟩)) (by omega) (by kernel_rfl) rfl
          rw [Array.getD_eq_getD_getElem?] at e0
          go_simp
          exact hK _ _ (Below.refl _ _) rfl
        | 5, _ =>
          intro o ho a wc hk hb hd K hK
          cases ho
          have e0 := hd 4 (by simp [waitI5])
          simp only [leaveI5, slotI5, Nat.reduceAdd, Array.getD_eq_getD_getElem?] at e0
          obtain ⟨c0, c1, -⟩ := ino_cells2 (HK.out _ hb)
          go_simp
          exact hK _ _ (Below.refl _ _) rfl
        | 6, _ =>
          intro o ho a wc hk hb hd K hK
          cases ho
          have e0 := hd 5 (by simp [waitI5])
          simp only [leaveI5, slotI5, Nat.reduceAdd, Array.getD_eq_getD_getElem?] at e0
          go_simp
          go_bits
          exact hK _ _ (Below.refl _ _) rfl
        | 7, _ =>
          intro o ho a wc hk hb hd K hK
          cases ho
          have e0 := hd 6 (by simp [waitI5])
          simp only [leaveI5, slotI5, Nat.reduceAdd, Array.getD_eq_getD_getElem?] at e0
          go_simp
          exact hK _ _ (Below.refl _ _) rfl
        | 8, _ =>
          intro o ho a wc hk hb hd K hK
          cases ho
          have e0 := hd 3 (by simp [waitI5])
          have e1 := hd 7 (by simp [waitI5])
          simp only [leaveI5, slotI5, Nat.reduceAdd, Array.getD_eq_getD_getElem?] at e0 e1
          go_simp
          exact hK _ _ ((Below.refl _ _).alloc (Nat.le_refl _) _) (InoNums.new wc _ _ (Nat.le_trans HZ.out hb.size) (by simp [prR, numsV]; omega))
        | _ + 9, h => exact absurd h (by omega)
      · intro vals w2 hb hR
        have v0 := hR 0 (by omega)
        have v1 := hR 1 (by omega)
        have v2 := hR 2 (by omega)
        have v3 := hR 3 (by omega)
        have v4 := hR 4 (by omega)
        have v5 := hR 5 (by omega)
        have v6 := hR 6 (by omega)
        have v7 := hR 7 (by omega)
        have v8 := hR 8 (by omega)
        simp only [leaveI5] at v0 v1 v2 v3 v4 v5 v6 v7 v8
        clear hR
        simp only [putAll, slotI5, Nat.reduceAdd, List.setIfInBounds_toArray, List.set_cons_zero, List.set_cons_succ, List.drop_succ_cons, List.drop_zero, v0, v1, v2, v3, v4, v5, v6, v7]
        clear v0 v1 v2 v3 v4 v5 v6 v7
        obtain ⟨g3, v8, hg3, hbk3⟩ := v8
        rw [v8]
        have hr3 : Rd w2 w2.heap.size (some ⟨g3, 0, none⟩) (numsV (prR ⟨y1, y2⟩)) := by simpa using Rd.bk hbk3
        have HOWN4 := Lib.hid (own_up HOWN3.out hb)
        have HB4 := Lib.hid (HB3.out.trans (hb.mono HB3.out.size))
        have HZ4 := HB4.out.size
        clear hb hbk3 hg3 v8 HK HB3 HOWN3
        go_wp2_with (at_builtin; refine wpList_append_rd _ rfl _ _ 58 rfl w.heap.size 74 i0 (.agg #[.int .i64 0, .int .u64 0]) 2 16 Tryd.underlying58 hi.out hz0.out hz1.out hz2.out rfl (by decide) _ _ _ rfl HOWN4.out w2.heap.size (some ⟨g3, 0, none⟩) 2 2 (numsV (prR ⟨y1, y2⟩)) rfl rfl hr3 ?c2 ?c3 ?c4 ?c5 ?_)
        case c2 => exact numsV_one _
        case c3 => unfold maxLen; omega
        case c4 => omega
        case c5 => exact HZ4
        intro r' w6 hown6 hgrow
        have HB6 := Lib.hid (HB4.out.grown hgrow HZ4 (fun g hg => (HOWN4.out.lt g hg).1))
        have HOWN6 : Hid (w6.ownsRow w.heap.size 74 2 r' (2 * (k + 1)) (numsV (prsR (l.take (k + 1))))) := by
          rw [prsR_take_succ l k _ HY.out, numsV_append]
          exact hown6
        clear hown6 hgrow HOWN4 HB4 hr3
        go_wp2
        go_roundw
        case rel => exact ⟨k + 1, by omega, by go_num, HOWN6.out, HB6.out⟩
        case measure => simp [intOf]; omega
    · obtain rfl : k = n := by omega
      have HE : Hid (l.take k = l) := List.take_of_length_le (by have := HL.out; omega)
      have hrd := Rd.own HOWN.out
      rw [HE.out] at hrd
      have HRD := Lib.hid hrd
      clear hrd
      go_wp2
      go_ret
      exact ⟨Ar, cr, rfl, HRD.out, HB.out⟩

set_option maxHeartbeats 1000000 in
theorem inoSeal_any (B : Nat) (A : Option Addr) (n c : Nat) (l : List Num') (w : World) (hl : l.length = n) (hn : n ≤ 1000) (hr : Rd w B A (numsV l)) (hB : B ≤ w.heap.size) (hok : ∀ q ∈ l, okN q = true) (hm : (recs l).length ≤ 124) (ht : Tab w) :
    Calls Tryd.prog 17 #[.slice A n c] w fun e w' => ∃ g, e = .returned (.tuple #[.slice (some ⟨g, 0, none⟩) 128 128, .int .i64 0]) ∧ w.heap.size ≤ g ∧ Bk w' g 5 ((sealB (recs l)).map bv).toArray ∧ Below w.heap.size w w' := by
  obtain ⟨m, hmm⟩ : ∃ m, (recs l).length = m := ⟨_, rfl⟩
  have HP := Lib.hid (Pack_ok B A n c l _ m w hl ((codeL_zero _).2 hok) rfl hmm hr hB (by omega) (numsV_bound hok))
  have HMM := Lib.hid hmm
  have HM := Lib.hid hm
  have HTW := Lib.hid ht
  clear hr hl hok hm ht hmm
  go_enter Tryd.func17, Tryd.ntmps17
  go_wp2_with fail
  refine HP.out.mono ?_
  rintro e w7 ⟨A7, c7, rfl, hc7, hcm7, hrd7, _, hb7⟩
  have HB7 := Lib.hid hb7
  have HRD7 := Lib.hid hrd7
  clear hrd7 hb7
  go_wp2_with fail
  have hS := Seal_any w7.heap.size A7 c7 (recs l) w7 HRD7.out (Nat.le_refl _) HM.out (HTW.out.up HB7.out)
  rw [HMM.out] at hS
  refine hS.mono ?_
  rintro e w8 ⟨g8, rfl, hg8, hbk8, hb8⟩
  have HG := Lib.hid (show Bk w8 g8 5 ((sealB (recs l)).map bv).toArray ∧ w.heap.size ≤ g8 ∧ Below w.heap.size w w8 from ⟨hbk8, by have := HB7.out.size; omega, HB7.out.trans (hb8.mono HB7.out.size)⟩)
  clear hbk8 hb8 hS hg8
  go_wp2
  go_ret2
  exact ⟨g8, rfl, HG.out.2.1, HG.out.1, HG.out.2.2⟩

theorem node_no (B : Nat) (A : Option Addr) (n c : Nat) (l : List Pr) (w : World) (hl : l.length = n) (hn : n ≤ 9223372036854775807) (hr : Rd w B A (prsV l)) (hB : B ≤ w.heap.size) (h : n ≠ 15 ∨ l.all prOk = false) :
    Calls Tryd.prog 8 #[.slice A n c] w fun e w' => e = .returned (.tuple #[.slice none 0 0, .int .i64 1]) ∧ Below w.heap.size w w' := by
  by_cases h15 : n = 15
  · subst h15
    have HV := Lib.hid (inoValid_any B A 15 c l false w hl (by omega) hr hB (h.resolve_left (by simp)))
    clear hr hl h
    go_enter Tryd.func8, Tryd.ntmps8
    go_wp2_with fail
    refine HV.out.mono ?_
    rintro e w1 ⟨rfl, hb1⟩
    have HB1 := Lib.hid hb1
    clear hb1
    go_wp2
    go_ret2
    exact ⟨rfl, HB1.out⟩
  · have hne : ((n : Int) == 15) = false := by simp; omega
    clear hr hl h
    go_enter Tryd.func8, Tryd.ntmps8
    go_wp2
    go_ret2
    exact ⟨rfl, Below.refl _ _⟩

set_option maxHeartbeats 1000000 in
theorem node_yes (B : Nat) (A : Option Addr) (c : Nat) (l : List Pr) (w : World) (hl : l.length = 15) (hr : Rd w B A (prsV l)) (hB : B ≤ w.heap.size) (h : l.all prOk = true) (hs : prSums l) (ht : Tab w) :
    Calls Tryd.prog 8 #[.slice A 15 c] w fun e w' => ∃ g, e = .returned (.tuple #[.slice (some ⟨g, 0, none⟩) 128 128, .int .i64 0]) ∧ w.heap.size ≤ g ∧ Bk w' g 5 ((nodB l).map bv).toArray ∧ Below w.heap.size w w' := by
  have HV := Lib.hid (inoValid_any B A 15 c l true w hl (by omega) hr hB h)
  have HL := Lib.hid hl
  have HR := Lib.hid hr
  have HOK : Hid (∀ q ∈ l, prOk q = true) := List.all_eq_true.1 h
  have HS := Lib.hid hs
  have HT := Lib.hid ht
  clear hr hl h hs ht
  go_enter Tryd.func8, Tryd.ntmps8
  go_wp2_with fail
  refine HV.out.mono ?_
  rintro e w1 ⟨rfl, hb1⟩
  have HB1 := Lib.hid hb1
  clear hb1
  go_wp2_with fail
  refine (inoNumbers_any B A 15 c l w1 HL.out (by omega) (HR.out.below (HB1.out.mono hB)) (Nat.le_trans hB HB1.out.size) HOK.out HS.out).mono ?_
  rintro e w2 ⟨A2, c2, rfl, hr2, hb2⟩
  have HB2 := Lib.hid (HB1.out.trans (hb2.mono HB1.out.size))
  have HR2 := Lib.hid hr2
  clear hb2 hr2
  go_wp2_with fail
  refine (inoSeal_any w2.heap.size A2 30 c2 (prsR l) w2 (by rw [prsR_length, HL.out]) (by omega) HR2.out (Nat.le_refl _) (prsR_ok HOK.out HS.out) (by rw [recs_prsR, HL.out]; omega) (HT.out.up HB2.out)).mono ?_
  rintro e w3 ⟨g, rfl, hg, hbk, hb3⟩
  have HG := Lib.hid (show Bk w3 g 5 ((nodB l).map bv).toArray ∧ w.heap.size ≤ g ∧ Below w.heap.size w w3 from ⟨hbk, by have := HB2.out.size; omega, HB2.out.trans (hb3.mono HB2.out.size)⟩)
  clear hb3 hbk hg
  go_wp2
  go_ret2
  exact ⟨g, rfl, HG.out.2.1, HG.out.1, HG.out.2.2⟩

def slotI3 (i : Nat) : Nat := 15 + i
def waitI3 : Nat → List Nat
  | 2 => [1]
  | 4 => [3]
  | 5 => [4]
  | 7 => [6]
  | 8 => [7]
  | 10 => [9]
  | 11 => [10]
  | 13 => [12]
  | 14 => [13]
  | 16 => [15]
  | 17 => [16]
  | 18 => [0, 2, 5, 8, 11, 14, 17]
  | 19 => [18]
  | _ => []
def leaveI3 (b : Nat) (m : Int) (x : Ino) : Nat → Value → World → Prop
  | 0, v, _ => v = .agg #[.int .i64 4, .int .u64 1768845156]
  | 1, v, _ => v = .int .i64 m
  | 2, v, _ => v = .agg #[.int .i64 1, .int .u64 m]
  | 3, v, _ => v = .pointer (some ⟨b, 0, none⟩)
  | 4, v, _ => v = .int .i64 x.ty
  | 5, v, _ => v = .agg #[.int .i64 1, .int .u64 x.ty]
  | 6, v, _ => v = .pointer (some ⟨b, 1, none⟩)
  | 7, v, _ => v = .int .i64 x.links
  | 8, v, _ => v = .agg #[.int .i64 1, .int .u64 x.links]
  | 9, v, _ => v = .pointer (some ⟨b, 2, none⟩)
  | 10, v, _ => v = .int .i64 x.ver
  | 11, v, _ => v = .agg #[.int .i64 4, .int .u64 x.ver]
  | 12, v, _ => v = .pointer (some ⟨b, 3, none⟩)
  | 13, v, _ => v = .int .i64 x.size
  | 14, v, _ => v = .agg #[.int .i64 6, .int .u64 x.size]
  | 15, v, _ => v = .pointer (some ⟨b, 4, none⟩)
  | 16, v, _ => v = .int .i64 x.tick
  | 17, v, _ => v = .agg #[.int .i64 4, .int .u64 x.tick]
  | 18, v, w => InoNums b (headIR m x) 7 v w
  | _, _, _ => True
theorem leaveI3_mono (b : Nat) (m : Int) (x : Ino) (w0 : World) (i : Nat) (v' : Value) (w w' : World) (_ : Below w0.heap.size w0 w) (hb : Below w.heap.size w w') (h : leaveI3 b m x i v' w) : leaveI3 b m x i v' w' := by
  unfold leaveI3 at *
  split at h <;> first | exact h | exact InoNums.up h hb

end Go.Proofs.YtnipfonglheofaaDoor
