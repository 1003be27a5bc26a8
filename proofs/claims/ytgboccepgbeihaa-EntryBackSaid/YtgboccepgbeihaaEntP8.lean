/-
  What the landed entry's Decode answers. (Printed by wip/tools/entp8.py.)
-/
import Derived.Test.YtgboccepgbeihaaEntP5
import Derived.Test.YtgboccepgbeihaaEntC
import Derived.Test.YtgboccepgbeihaaUnpack
import Derived.Test.YtgboccepgbeihaaRegTail
namespace Go.Proofs.Ytgboccepgbeihaa
open Go.RowKit
set_option maxRecDepth 100000
set_option linter.unusedVariables false

def lenV : Value → Nat
  | .slice _ n _ => n
  | _ => 0
/-- a part of a slice of octets -/
theorem byt_cut {w : World} {B : Nat} {l : List UInt8} {A : Option Addr} {n c : Nat} (hl : l.length = n) (h : Rd w B A (l.map bv)) (lo hi : Nat) : Rd w B (if c = lo then A else A.map (·.add (lo * 1))) (((l.take hi).drop lo).map bv) ∨ c = lo := by
  by_cases hcl : c = lo
  · exact .inr hcl
  · left
    rw [if_neg hcl]
    cases A with
    | none =>
      have : l = [] := by
        cases l with
        | nil => rfl
        | cons x l => obtain ⟨ad, e, _⟩ := h 0 (bv x) rfl; cases e
      rw [this]; simp; exact Rd.nil_
    | some ad =>
      rw [List.map_drop, List.map_take, Nat.mul_one]
      exact (h.take _).drop _
theorem byt_cut' {w : World} {B : Nat} {l : List UInt8} {A : Option Addr} {n c : Nat} (hl : l.length = n) (hnc : n ≤ c) (hc : c ≤ maxLen) (h : Rd w B A (l.map bv)) (lo hi : Nat) (h1 : lo ≤ hi) (h2 : hi ≤ n) :
    ∃ A' n' c', sliced A lo hi c 1 = .slice A' n' c' ∧ ((l.take hi).drop lo).length = n' ∧ n' = hi - lo ∧ n' ≤ c' ∧ c' ≤ maxLen ∧ Rd w B A' (((l.take hi).drop lo).map bv) := by
  refine ⟨_, _, _, rfl, by rw [List.length_drop, List.length_take]; omega, rfl, by omega, by omega, ?_⟩
  rcases byt_cut (c := c) hl h lo hi with h3 | h3
  · exact h3
  · have : (l.take hi).drop lo = [] := List.drop_eq_nil_of_le (by rw [List.length_take]; omega)
    rw [this]; exact Rd.nil_
theorem run_bcut_lh (A : Option Addr) (n c : Nat) (lo hi : Nat) (zl zh : Int) (wx : World) (hz : zl = (lo : Int)) (hz' : zh = (hi : Int)) (h : lo ≤ hi) (h' : hi ≤ c) : (Instr.slice 23 (.slice A n c) (some (.int .i64 zl)) (some (.int .i64 zh)) none).run Try.prog wx = .ok (sliced A lo hi c 1) wx := by
  subst hz hz'
  have he : (Try.prog).elem 23 = 5 := by kernel_rfl
  rw [run_slice_lh wx 23 A n c (by kernel_rfl) .i64 .i64 (lo : Int) (hi : Int) (by omega) (by omega) (by omega), he, Try.sizeOf5]
  rfl
theorem run_bcut_l (A : Option Addr) (n c i : Nat) (z : Int) (wx : World) (hz : z = (i : Int)) (h : i ≤ n) : (Instr.slice 23 (.slice A n c) (some (.int .i64 z)) none none).run Try.prog wx = .ok (sliced A i n c 1) wx := by
  subst hz
  have he : (Try.prog).elem 23 = 5 := by kernel_rfl
  rw [run_slice_l wx 23 A n c (by kernel_rfl) .i64 (i : Int) (by omega) (by omega), he, Try.sizeOf5]
  rfl
theorem valB_one (l : List UInt8) (k : Nat) (h : k < l.length) : valB ((l.drop k).take 1) = octN l k := by
  rw [List.drop_eq_getElem_cons h, List.take_succ_cons, List.take_zero]
  unfold octN valB
  rw [List.getD_eq_getElem?_getD, List.getElem?_eq_getElem h]
  simp
theorem nums_three {l : List UInt8} (h : 3 ≤ l.length) : nums l [1, 1, 1] = [octN l 0, octN l 1, octN l 2] := by
  have h0 := valB_one l 0 (by omega)
  have h1 := valB_one l 1 (by omega)
  have h2 := valB_one l 2 (by omega)
  rw [List.drop_zero] at h0
  show [valB (l.take 1), valB ((l.drop 1).take 1), valB (((l.drop 1).drop 1).take 1)] = _
  rw [List.drop_drop, h0, h1, h2]
theorem unp_three (m : Nat) : unpCode [1, 1, 1] m = if m < 3 then 2 else 0 := rfl
theorem splitE_ne {q : List UInt8} {R : List Et} (hq : q ≠ []) (h : splitE q = some R) : R ≠ [] := by
  rintro rfl
  by_cases h3 : 3 ≤ q.length
  · rw [splitE_three h3] at h
    split at h
    · cases hs : splitE (q.drop (3 + octN q 2)) with
      | none => rw [hs] at h; cases h
      | some R => rw [hs] at h; simp at h
    · cases h
  · have : 0 < q.length := List.length_pos_iff.2 hq
    rw [splitE_few this (by omega)] at h
    cases h

def slotDK (i : Nat) : Nat := 31 + i
def waitDK : Nat → List Nat
  | 3 => [1, 2]
  | 4 => [3]
  | 6 => [5]
  | 7 => [6]
  | 8 => [7]
  | 10 => [9]
  | 11 => [10]
  | 12 => [11]
  | 13 => [4, 8, 12]
  | 14 => [13]
  | 15 => [0, 14]
  | _ => []
def leaveDK (Ar A A1 : Option Addr) (k cr m c z ub uo uc n1 c1 I Y : Nat) (T : ByteArray) : Nat → Value → World → Prop
  | 0, v, _ => v = .slice Ar k cr
  | 1, v, _ => v = .slice A m c
  | 2, v, _ => v = .int .i64 (3 + (z : Int))
  | 3, v, _ => v = .slice A1 n1 c1
  | 4, v, _ => v = .string T
  | 5, v, _ => v = .slice (some ⟨ub, uo, none⟩) 3 uc
  | 6, v, _ => v = .pointer (some ⟨ub, uo, none⟩)
  | 7, v, _ => v = .int .u64 (I : Int)
  | 8, v, _ => v = .int .i64 (I : Int)
  | 9, v, _ => v = .slice (some ⟨ub, uo, none⟩) 3 uc
  | 10, v, _ => v = .pointer (some ⟨ub, uo + 1, none⟩)
  | 11, v, _ => v = .int .u64 (Y : Int)
  | 12, v, _ => v = .int .i64 (Y : Int)
  | 13, v, _ => v = .agg #[.string T, .int .i64 (I : Int), .int .i64 (Y : Int)]
  | 14, v, w => ∃ g, v = .slice (some ⟨g, 0, none⟩) 1 1 ∧ Bk w g 38 #[.string T, .int .i64 (I : Int), .int .i64 (Y : Int)]
  | _, _, _ => True

set_option maxHeartbeats 8000000 in
theorem eDecode_any (b : List UInt8) (A : Option Addr) (n c : Nat) (w : World) (h : BytW w b (.slice A n c)) (hn : n ≤ 1000) :
    Calls Try.prog 8 #[.slice A n c] w fun e w' => ∃ v, e = .returned (.tuple #[v, .int .i64 (if (decE b).isSome then 0 else 3)]) ∧ EtsW w' ((decE b).getD []) v ∧ Below w.heap.size w w' := by
  obtain ⟨i0, hi, hz0, hz1, hz2⟩ := info_parts info_entry
  have hi := Lib.hid hi
  have hz0 := Lib.hid hz0
  have hz1 := Lib.hid hz1
  have hz2 := Lib.hid hz2
  obtain ⟨hl, hnc, hcm, hr⟩ := h.parts
  have HL := Lib.hid hl
  have HR0 := Lib.hid hr
  obtain ⟨D, hD⟩ : ∃ D, decE b = D := ⟨_, rfl⟩
  have HDD := Lib.hid hD
  rw [hD]
  clear hl hr hD h
  go_enter Try.func8, Try.ntmps8
  go_wp2
  go_loopw [0, 4] (fun s r wr => ∃ (A : Option Addr) (m c k : Nat) (q : List UInt8) (L : List Et), s = .slice A m c ∧ q.length = m ∧ m ≤ c ∧ c ≤ maxLen ∧ m ≤ n ∧ L.length = k ∧ k ≤ 30 ∧ Hid (Rd w w.heap.size A (q.map bv)) ∧ Hid (∀ x ∈ L, x.name.length ≤ 255) ∧ Hid (splitE b = (splitE q).map (L ++ ·)) ∧ Hid (wr.ownsRow w.heap.size 38 3 r k (etsV L)) ∧ Hid (Below w.heap.size w wr)) (fun s _ _ => lenV s)
  case atStart => exact ⟨A, n, c, 0, b, [], rfl, HL.out, hnc, hcm, Nat.le_refl _, rfl, Nat.zero_le _, HR0.out, fun x hx => by (cases hx), by show _ = _; simp, ⟨rfl, .inl ⟨rfl, rfl⟩⟩, Below.refl _ _⟩
  case round =>
    clear hnc hcm HR0 HL
    obtain ⟨A, m, c, k, q, L, rfl, hq, hmc, hcm, hmn, hLk, hk30, HRD, HNM, HSP, HOWN, HB⟩ := hrel
    obtain ⟨Ar, cr, hre, hcr, hcrm⟩ := own_len HOWN.out
    subst hre
    have HQ := Lib.hid hq
    have HLK := Lib.hid hLk
    clear hq hLk
    by_cases hm0 : 0 < m
    · have hm0' : (0 : Int) < (m : Int) := by omega
      by_cases hk : k = 30
      · obtain rfl : D = none := by
          rw [← HDD.out]
          unfold decE
          rw [HSP.out]
          cases hs : splitE q with
          | none => rfl
          | some R =>
            have hR := splitE_ne (by intro e; have := HQ.out; rw [e] at this; simp at this; omega) hs
            have : 0 < R.length := List.length_pos_iff.2 hR
            show (if mayE (L ++ R) = true then some (L ++ R) else none) = none
            rw [mayE_long (by rw [List.length_append, HLK.out]; omega)]; rfl
        subst hk
        go_wp2
        go_ret2
        exact ⟨_, rfl, EtsW.nil_ _, HB.out⟩
      · have hk' : ((k : Int) == 30) = false := beq_false_of_ne (by omega)
        have HRD1 := Lib.hid (HRD.out.below HB.out)
        have HBA := Lib.hid (HB.out.alloc HB.out.size (.cells #[.int .i64 1, .int .i64 1, .int .i64 1] 3))
        have HRA : Hid (Rd (wr.alloc (.cells #[.int .i64 1, .int .i64 1, .int .i64 1] 3)) (wr.heap.size + 1) A (q.map bv)) := (HRD.out.below HBA.out).mono (by have := HB.out.size; omega)
        have HRI : Hid (Rd (wr.alloc (.cells #[.int .i64 1, .int .i64 1, .int .i64 1] 3)) (wr.heap.size + 1) (some ⟨wr.heap.size, 0, none⟩) (([1, 1, 1] : List Int).map iv)) := Rd.new wr 3 #[.int .i64 1, .int .i64 1, .int .i64 1] (0, 0)
        by_cases hm3 : m < 3
        · obtain rfl : D = none := by
            rw [← HDD.out]
            unfold decE
            rw [HSP.out, splitE_few (by rw [HQ.out]; exact hm0) (by rw [HQ.out]; exact hm3)]; rfl
          have HU := Lib.hid (Unpack_bad (wr.heap.size + 1) A (some ⟨wr.heap.size, 0, none⟩) m c 3 3 q [1, 1, 1] 2 (wr.alloc (.cells #[.int .i64 1, .int .i64 1, .int .i64 1] 3)) HQ.out rfl (by rw [unp_three, if_pos hm3]) (by decide) HRA.out HRI.out (by rw [World.alloc_size']; exact Nat.le_refl _) hmc hcm (by decide))
          clear hm3
          go_wp2_with fail
          refine HU.out.mono ?_
          rintro e w2 ⟨rfl, hb⟩
          have HB2 := Lib.hid (HBA.out.trans (hb.mono HBA.out.size))
          clear hb
          go_wp2
          go_ret2
          exact ⟨_, rfl, EtsW.nil_ _, HB2.out⟩
        · have hs3 := splitE_three (m := q) (by rw [HQ.out]; omega)
          rw [HQ.out] at hs3
          have k256 := octL q 2
          have y256 := octL q 1
          have i256 := octL q 0
          have hnums := nums_three (l := q) (by rw [HQ.out]; omega)
          have HF0 : Hid (octN q 2 = octN q 2) := rfl
          obtain ⟨I, hI⟩ : ∃ I, octN q 0 = I := ⟨_, rfl⟩
          obtain ⟨Y, hY⟩ : ∃ Y, octN q 1 = Y := ⟨_, rfl⟩
          obtain ⟨z, hz⟩ : ∃ z, octN q 2 = z := ⟨_, rfl⟩
          rw [hI, hY, hz] at hnums
          rw [hI, hY, hz] at hs3
          rw [hI] at i256
          rw [hY] at y256
          rw [hz] at k256
          have HU := Lib.hid (Unpack_ok (wr.heap.size + 1) A (some ⟨wr.heap.size, 0, none⟩) m c 3 3 q [1, 1, 1] [I, Y, z] (wr.alloc (.cells #[.int .i64 1, .int .i64 1, .int .i64 1] 3)) HQ.out rfl (by rw [unp_three, if_neg hm3]) hnums HRA.out HRI.out (by rw [World.alloc_size']; exact Nat.le_refl _) hmc hcm (by decide))
          have HS3 := Lib.hid hs3
          clear hs3 hnums hI hY hz HF0
          go_wp2_with fail
          refine HU.out.mono ?_
          rintro e w2 ⟨uA, uc, rfl, hu1, hu2, hur, hb⟩
          have HB2 := Lib.hid (HBA.out.trans (hb.mono HBA.out.size))
          have HOWN2 := Lib.hid (own_upE (HOWN.out.alloc (.cells #[.int .i64 1, .int .i64 1, .int .i64 1] 3)) hb)
          obtain ⟨ub, uo, rfl, hubl, hucell⟩ := hur.plain (by simp)
          have HU2 : Hid (∀ w', Below w2.heap.size w2 w' → w'.cell? ⟨ub, uo, none⟩ = some (.int .u64 (I : Int)) ∧ w'.cell? ⟨ub, uo + 1, none⟩ = some (.int .u64 (Y : Int))) := fun w' hb' => ⟨(hb'.cell hubl).trans (hucell 0 _ rfl), (hb'.cell hubl).trans (hucell 1 _ rfl)⟩
          have u2 : w2.cell? ⟨ub, uo + 2, none⟩ = some (.int .u64 (z : Int)) := hucell 2 _ rfl
          clear hb hur hubl hucell HU HRA HRI HBA HOWN
          have HU := HU2
          by_cases h4 : 3 + z ≤ m
          · have hs3 := HS3.out
            rw [if_pos (by omega)] at hs3
            have q4 : ¬ ((m : Int) < 3 + (z : Int)) := by omega
            have HS' : Hid (splitE b = (splitE (q.drop (3 + z))).map ((L ++ [⟨(q.drop 3).take z, (I : Int), (Y : Int)⟩]) ++ ·)) := by
              show _ = _
              rw [HSP.out, hs3]
              cases splitE (q.drop (3 + z)) <;> simp
            obtain ⟨A1, n1, c1, e1, e2, e3, e4, e5, e6⟩ := byt_cut' HQ.out hmc hcm HRD.out 3 (3 + z) (by omega) (by omega)
            obtain ⟨A2, n2, c2, g1, g2, g3, g4, g5, g6⟩ := byt_cut' HQ.out hmc hcm HRD.out (3 + z) m (by omega) (by omega)
            rw [List.take_of_length_le (by rw [HQ.out]; exact Nat.le_refl _)] at g2 g6
            have htl : (q.take (3 + z)).drop 3 = (q.drop 3).take z := by rw [List.drop_take]; congr 1; omega
            rw [htl] at e2 e6
            have HSL : Hid (∀ wx : World, (Instr.slice 23 (.slice A m c) (some (.int .i64 3)) (some (.int .i64 (3 + (z : Int)))) none).run Try.prog wx = .ok (.slice A1 n1 c1) wx) := fun wx => by
              rw [run_bcut_lh A m c 3 (3 + z) 3 (3 + (z : Int)) wx rfl (by omega) (by omega) (by omega), e1]
            have HS2 : Hid (∀ wx : World, (Instr.slice 23 (.slice A m c) (some (.int .i64 (3 + (z : Int)))) none none).run Try.prog wx = .ok (.slice A2 n2 c2) wx) := fun wx => by
              rw [run_bcut_l A m c (3 + z) (3 + (z : Int)) wx (by omega) (by omega), g1]
            obtain ⟨tl, htl⟩ : ∃ tl, (q.drop 3).take z = tl := ⟨_, rfl⟩
            rw [htl] at e2 e6 HS'
            have htl255 : tl.length ≤ 255 := by rw [← htl, List.length_take]; omega
            have HCV : Hid (∀ w', Below w2.heap.size w2 w' → (convert 23 9 (.slice A1 n1 c1)).run Try.prog w' = .ok (.string (str tl)) w') := fun w' hb' =>
              run_conv 23 5 9 Try.underlying23 Try.underlying5 Try.underlying9 n1 c1 e2 ((e6.below HB2.out).below (hb'.mono HB2.out.size))
            have HV : Hid (etsV (L ++ [⟨tl, (I : Int), (Y : Int)⟩]) = etsV L ++ [.string (str tl), .int .i64 (I : Int), .int .i64 (Y : Int)]) := etsV_append L _
            have HNM' : Hid (∀ x ∈ L ++ [(⟨tl, (I : Int), (Y : Int)⟩ : Et)], x.name.length ≤ 255) := fun x hx => by
              rcases List.mem_append.1 hx with hx | hx
              · exact HNM.out x hx
              · rw [List.mem_singleton.1 hx]; exact htl255
            obtain ⟨q2, hq2⟩ : ∃ q2, q.drop (3 + z) = q2 := ⟨_, rfl⟩
            rw [hq2] at g2 g6 HS'
            have G2 := Lib.hid g2
            have G3 := Lib.hid g3
            have G45 : Hid (n2 ≤ c2 ∧ c2 ≤ maxLen) := ⟨g4, g5⟩
            have G6 := Lib.hid g6
            have HLK' : Hid ((L ++ [(⟨tl, (I : Int), (Y : Int)⟩ : Et)]).length = k + 1) := by show _ = _; rw [List.length_append, HLK.out]; rfl
            obtain ⟨T, hTT⟩ : ∃ T, str tl = T := ⟨_, rfl⟩
            rw [hTT] at HCV HV
            have HWI : Hid (IntKind.i64.wrap (I : Int) = (I : Int)) := wrap_i64 (by omega)
            have HWY : Hid (IntKind.i64.wrap (Y : Int) = (Y : Int)) := wrap_i64 (by omega)
            clear hs3 e1 e2 e3 e4 e5 e6 g1 g2 g3 g4 g5 g6 htl hq2 hTT htl255
            go_wp2_with fail
            refine wp_region_tail (by kernel_rfl) 15 54 slotDK waitDK (leaveDK Ar A A1 k cr m c z ub uo uc n1 c1 I Y T) rfl
              (by kernel_rfl) (fun i v w w' _ hb h => by unfold leaveDK at *; split at h <;> first | exact h | (obtain ⟨g, h1, h2⟩ := h; exact ⟨g, h1, h2.below hb h2.lt⟩)) ?_ ?_
            · intro i hi
              match i, hi with
              | 0, _ =>
                intro o ho a wc hk hb hd K hK
                cases ho
                have e0 := hk.rest 4 (.slice Ar k cr) (by omega) (by kernel_rfl) rfl
                rw [Array.getD_eq_getD_getElem?] at e0
                go_simp
                exact hK _ _ (Below.refl _ _) rfl
              | 1, _ =>
                intro o ho a wc hk hb hd K hK
                cases ho
                have e0 := hk.rest 0 (.slice A m c) (by omega) (by kernel_rfl) rfl
                rw [Array.getD_eq_getD_getElem?] at e0
                go_simp
                exact hK _ _ (Below.refl _ _) rfl
              | 2, _ =>
                intro o ho a wc hk hb hd K hK
                cases ho
                have e0 := hk.rest 7 (.int .i64 (3 + (z : Int))) (by omega) (by kernel_rfl) rfl
                rw [Array.getD_eq_getD_getElem?] at e0
                go_simp
                exact hK _ _ (Below.refl _ _) rfl
              | 3, _ =>
                intro o ho a wc hk hb hd K hK
                cases ho
                have e0 := hd 1 (by simp [waitDK])
                have e1 := hd 2 (by simp [waitDK])
                simp only [leaveDK, slotDK, Nat.reduceAdd, Array.getD_eq_getD_getElem?] at e0 e1
                have q0 := HSL.out wc
                go_simp
                exact hK _ _ (Below.refl _ _) rfl
              | 4, _ =>
                intro o ho a wc hk hb hd K hK
                cases ho
                have e0 := hd 3 (by simp [waitDK])
                simp only [leaveDK, slotDK, Nat.reduceAdd, Array.getD_eq_getD_getElem?] at e0
                have q0 := HCV.out _ hb
                go_simp
                exact hK _ _ (Below.refl _ _) rfl
              | 5, _ =>
                intro o ho a wc hk hb hd K hK
                cases ho
                have e0 := hk.rest 5 (.slice (some ⟨ub, uo, none⟩) 3 uc) (by omega) (by kernel_rfl) rfl
                rw [Array.getD_eq_getD_getElem?] at e0
                go_simp
                exact hK _ _ (Below.refl _ _) rfl
              | 6, _ =>
                intro o ho a wc hk hb hd K hK
                cases ho
                have e0 := hd 5 (by simp [waitDK])
                simp only [leaveDK, slotDK, Nat.reduceAdd, Array.getD_eq_getD_getElem?] at e0
                go_simp
                exact hK _ _ (Below.refl _ _) rfl
              | 7, _ =>
                intro o ho a wc hk hb hd K hK
                cases ho
                have e0 := hd 6 (by simp [waitDK])
                simp only [leaveDK, slotDK, Nat.reduceAdd, Array.getD_eq_getD_getElem?] at e0
                obtain ⟨d0, d1⟩ := HU.out _ hb
                go_simp
                exact hK _ _ (Below.refl _ _) rfl
              | 8, _ =>
                intro o ho a wc hk hb hd K hK
                cases ho
                have e0 := hd 7 (by simp [waitDK])
                simp only [leaveDK, slotDK, Nat.reduceAdd, Array.getD_eq_getD_getElem?] at e0
                have q0 := HWI.out
                go_simp
                exact hK _ _ (Below.refl _ _) rfl
              | 9, _ =>
                intro o ho a wc hk hb hd K hK
                cases ho
                have e0 := hk.rest 5 (.slice (some ⟨ub, uo, none⟩) 3 uc) (by omega) (by kernel_rfl) rfl
                rw [Array.getD_eq_getD_getElem?] at e0
                go_simp
                exact hK _ _ (Below.refl _ _) rfl
              | 10, _ =>
                intro o ho a wc hk hb hd K hK
                cases ho
                have e0 := hd 9 (by simp [waitDK])
                simp only [leaveDK, slotDK, Nat.reduceAdd, Array.getD_eq_getD_getElem?] at e0
                go_simp
                exact hK _ _ (Below.refl _ _) rfl
              | 11, _ =>
                intro o ho a wc hk hb hd K hK
                cases ho
                have e0 := hd 10 (by simp [waitDK])
                simp only [leaveDK, slotDK, Nat.reduceAdd, Array.getD_eq_getD_getElem?] at e0
                obtain ⟨d0, d1⟩ := HU.out _ hb
                go_simp
                exact hK _ _ (Below.refl _ _) rfl
              | 12, _ =>
                intro o ho a wc hk hb hd K hK
                cases ho
                have e0 := hd 11 (by simp [waitDK])
                simp only [leaveDK, slotDK, Nat.reduceAdd, Array.getD_eq_getD_getElem?] at e0
                have q0 := HWY.out
                go_simp
                exact hK _ _ (Below.refl _ _) rfl
              | 13, _ =>
                intro o ho a wc hk hb hd K hK
                cases ho
                have e0 := hd 4 (by simp [waitDK])
                have e1 := hd 8 (by simp [waitDK])
                have e2 := hd 12 (by simp [waitDK])
                simp only [leaveDK, slotDK, Nat.reduceAdd, Array.getD_eq_getD_getElem?] at e0 e1 e2
                go_simp
                exact hK _ _ (Below.refl _ _) rfl
              | 14, _ =>
                intro o ho a wc hk hb hd K hK
                cases ho
                have e0 := hd 13 (by simp [waitDK])
                simp only [leaveDK, slotDK, Nat.reduceAdd, Array.getD_eq_getD_getElem?] at e0
                go_simp
                exact hK _ _ ((Below.refl _ _).alloc (Nat.le_refl _) _) ⟨_, rfl, Bk.new _ _ _⟩
              | _ + 15, h => exact absurd h (by omega)
            · intro vals w5 hb hR
              have v0 := hR 0 (by omega)
              have v1 := hR 1 (by omega)
              have v2 := hR 2 (by omega)
              have v3 := hR 3 (by omega)
              have v4 := hR 4 (by omega)
              have v5 := hR 5 (by omega)
              have v6 := hR 6 (by omega)
              have v7 := hR 7 (by omega)
              have v8 := hR 8 (by omega)
              have v9 := hR 9 (by omega)
              have v10 := hR 10 (by omega)
              have v11 := hR 11 (by omega)
              have v12 := hR 12 (by omega)
              have v13 := hR 13 (by omega)
              have v14 := hR 14 (by omega)
              simp only [leaveDK] at v0 v1 v2 v3 v4 v5 v6 v7 v8 v9 v10 v11 v12 v13 v14
              clear hR
              simp only [putAll, slotDK, Nat.reduceAdd, List.setIfInBounds_toArray, List.set_cons_zero, List.set_cons_succ, List.drop_succ_cons, List.drop_zero, v0, v1, v2, v3, v4, v5, v6, v7, v8, v9, v10, v11, v12, v13]
              clear v0 v1 v2 v3 v4 v5 v6 v7 v8 v9 v10 v11 v12 v13
              obtain ⟨g, hv14, hbk⟩ := v14
              rw [hv14]
              have HB5 := Lib.hid (HB2.out.trans (hb.mono HB2.out.size))
              have HOWN5 := Lib.hid (own_upE HOWN2.out hb)
              have HNW := Lib.hid (Rd.bk hbk)
              clear hb hbk hv14 u2
              go_wp2_with (at_builtin; refine wpList_append_rd _ rfl _ _ 22 rfl w.heap.size 38 i0 (.agg #[.string ByteArray.empty, .int .i64 0, .int .i64 0]) 3 32 Try.underlying22 hi.out hz0.out hz1.out hz2.out rfl (by decide) _ _ _ rfl HOWN5.out w5.heap.size (some ⟨g, 0, none⟩) 1 1 [.string T, .int .i64 (I : Int), .int .i64 (Y : Int)] rfl rfl HNW.out ?c2 ?c3 ?c4 ?c5 ?_)
              case c2 => first | exact ⟨rfl, rfl, rfl⟩ | (intro u hu; simp only [List.mem_cons, List.not_mem_nil, or_false] at hu; rcases hu with rfl | rfl | rfl <;> rfl)
              case c3 => unfold maxLen; omega
              case c4 => omega
              case c5 => exact HB5.out.size
              intro r' w6 hown6 hgrow
              have HB7 := Lib.hid (HB5.out.grown hgrow HB5.out.size (fun g hg => (HOWN5.out.lt g hg).1))
              have HOWN6 : Hid (w6.ownsRow w.heap.size 38 3 r' (k + 1) (etsV (L ++ [⟨tl, (I : Int), (Y : Int)⟩]))) := by
                show World.ownsRow _ _ _ _ _ _ _
                rw [HV.out]; exact hown6
              clear hown6 hgrow HOWN5 HNW HB5
              have hs2 := HS2.out w6
              go_wp2
              go_roundw
              case rel => exact ⟨A2, n2, c2, k + 1, q2, L ++ [(⟨tl, (I : Int), (Y : Int)⟩ : Et)], rfl, G2.out, G45.out.1, G45.out.2, by have := G3.out; omega, HLK'.out, by omega, G6.out, HNM'.out, HS'.out, HOWN6.out, HB7.out⟩
              case measure => have := G3.out; simp only [lenV]; omega
          · obtain rfl : D = none := by
              have hs3 := HS3.out
              rw [if_neg (by omega)] at hs3
              rw [← HDD.out]
              unfold decE
              rw [HSP.out, hs3]; rfl
            have q4 : ((m : Int) < 3 + (z : Int)) := by omega
            go_wp2
            go_ret2
            exact ⟨_, rfl, EtsW.nil_ _, HB2.out⟩
    · obtain rfl : m = 0 := by omega
      have hq0 : q = [] := List.length_eq_zero_iff.1 HQ.out
      have hall : splitE b = some L := by rw [HSP.out, hq0, splitE]; simp
      have hdec : D = if mayE L then some L else none := by rw [← HDD.out]; unfold decE; rw [hall]; rfl
      obtain ⟨t, ht⟩ : ∃ t, mayE L = t := ⟨_, rfl⟩
      rw [ht] at hdec
      have HMY := Lib.hid (may_any wr.heap.size Ar k cr L wr HLK.out (by omega) (Rd.own HOWN.out) (Nat.le_refl _) fun x hx => Nat.le_trans (HNM.out x hx) (by omega))
      rw [ht] at HMY
      have HD := Lib.hid hdec
      clear hdec hall hq0 ht
      go_wp2_with fail
      refine HMY.out.mono ?_
      rintro e w2 ⟨rfl, hb⟩
      have HE := Lib.hid ((EtsW.own HOWN.out).up hb)
      have HB2 := Lib.hid (HB.out.trans (hb.mono HB.out.size))
      clear hb
      cases t with
      | true =>
        obtain rfl : D = some L := HD.out
        go_wp2
        go_ret2
        exact ⟨_, rfl, HE.out, HB2.out⟩
      | false =>
        obtain rfl : D = none := HD.out
        go_wp2
        go_ret2
        exact ⟨_, rfl, EtsW.nil_ _, HB2.out⟩
end Go.Proofs.Ytgboccepgbeihaa
