/-
  What the document's answers of layer 10 are: the entries of octets. (Printed by wip/tools/ref10e.py.)
-/
import Derived.Test.YtgboccepgbeihaaRef10c
namespace Go.Proofs.Ytgboccepgbeihaa
open Go.RowKit
set_option maxRecDepth 100000
set_option linter.unusedVariables false

def slotDD (i : Nat) : Nat := 34 + i
def waitDD : Nat → List Nat
  | 3 => [2]
  | 5 => [4]
  | 7 => [5, 6]
  | 8 => [1, 3, 7]
  | 11 => [9, 10]
  | 12 => [11]
  | 15 => [14]
  | 16 => [13, 15]
  | 17 => [16]
  | 18 => [8, 12, 17]
  | 19 => [18]
  | 20 => [0, 19]
  | _ => []
def leaveDD (Ar : Option Addr) (k cr p sz I Y : Nat) (S T : ByteArray) : Nat → Value → World → Prop
  | 0, v, _ => v = .slice Ar k cr
  | 1, v, _ => v = .string S
  | 2, v, _ => v = .int .i64 (p : Int)
  | 3, v, _ => v = .int .i64 ((p : Int) + 3)
  | 4, v, _ => v = .int .i64 (p : Int)
  | 5, v, _ => v = .int .i64 ((p : Int) + 3)
  | 6, v, _ => v = .int .i64 (sz : Int)
  | 7, v, _ => v = .int .i64 ((p : Int) + 3 + (sz : Int))
  | 8, v, _ => v = .string T
  | 9, v, _ => v = .string S
  | 10, v, _ => v = .int .i64 (p : Int)
  | 11, v, _ => v = .int .u8 (I : Int)
  | 12, v, _ => v = .int .i64 (I : Int)
  | 13, v, _ => v = .string S
  | 14, v, _ => v = .int .i64 (p : Int)
  | 15, v, _ => v = .int .i64 ((p : Int) + 1)
  | 16, v, _ => v = .int .u8 (Y : Int)
  | 17, v, _ => v = .int .i64 (Y : Int)
  | 18, v, _ => v = .agg #[.string T, .int .i64 (I : Int), .int .i64 (Y : Int)]
  | 19, v, w => ∃ g, v = .slice (some ⟨g, 0, none⟩) 1 1 ∧ Bk w g 38 #[.string T, .int .i64 (I : Int), .int .i64 (Y : Int)]
  | _, _, _ => True
theorem splitE_few {m : List UInt8} (h : 0 < m.length) (h3 : m.length < 3) : splitE m = none := by
  match m, h, h3 with
  | [a], _, _ => simp [splitE]
  | [a, b], _, _ => simp [splitE]
theorem splitE_three {m : List UInt8} (h : 3 ≤ m.length) : splitE m = if octN m 2 ≤ m.length - 3 then (splitE (m.drop (3 + octN m 2))).map (⟨(m.drop 3).take (octN m 2), (octN m 0 : Nat), (octN m 1 : Nat)⟩ :: ·) else none := by
  match m, h with
  | i :: t :: k :: r, _ =>
    have e0 : octN (i :: t :: k :: r) 0 = i.toNat := rfl
    have e1 : octN (i :: t :: k :: r) 1 = t.toNat := rfl
    have e2 : octN (i :: t :: k :: r) 2 = k.toNat := rfl
    rw [splitE, e0, e1, e2]
    simp only [List.length_cons]
    by_cases h : k.toNat ≤ r.length
    · rw [if_pos h, if_pos (by omega)]
      rw [show (i :: t :: k :: r).drop 3 = r from rfl, show (i :: t :: k :: r).drop (3 + k.toNat) = r.drop k.toNat from by rw [← List.drop_drop]; rfl]
    · rw [if_neg h, if_neg (by omega)]
theorem info_entry : (Try.prog.info? 38).map (fun i => (i.zero, i.size, i.bytes)) = some (some (.agg #[.string ByteArray.empty, .int .i64 0, .int .i64 0]), 3, 32) := by kernel_rfl
theorem octD (l : List UInt8) (i k : Nat) : octN (l.drop i) k = octN l (i + k) := by
  unfold octN; rw [List.getD_eq_getElem?_getD, List.getD_eq_getElem?_getD, List.getElem?_drop]
theorem octL (l : List UInt8) (k : Nat) : octN l k < 256 := UInt8.toNat_lt _

set_option maxHeartbeats 8000000 in
theorem refDecode10_any (b : List UInt8) (w : World) (hl : b.length ≤ 1000000) :
    Calls Try.prog 9 #[.string (str b)] w fun e w' => ∃ v, e = .returned (.tuple #[v, .bool (decE b).isSome]) ∧ EtsW w' ((decE b).getD []) v ∧ Below w.heap.size w w' := by
  obtain ⟨i0, hi, hz0, hz1, hz2⟩ := info_parts info_entry
  have hi := Lib.hid hi
  have hz0 := Lib.hid hz0
  have hz1 := Lib.hid hz1
  have hz2 := Lib.hid hz2
  have hsz := str_size b
  have HIX := Lib.hid (index_str b)
  have HEX := Lib.hid fun i j => str_ext b i j
  obtain ⟨S, hS⟩ : ∃ S, str b = S := ⟨_, rfl⟩
  obtain ⟨N, hN⟩ : ∃ N, b.length = N := ⟨_, rfl⟩
  rw [hS] at hsz HIX HEX ⊢
  rw [hN] at hsz hl HIX
  have HN := Lib.hid hN
  obtain ⟨D, hD⟩ : ∃ D, decE b = D := ⟨_, rfl⟩
  have HDD := Lib.hid hD
  rw [hD]
  clear hS hN hD
  go_enter Try.func9, Try.ntmps9
  go_wp2
  go_loopw [4, 5] (fun r a wr => ∃ (p : Nat) (L : List Et) (k : Nat), p ≤ N ∧ a = .int .i64 (p : Int) ∧ L.length = k ∧ k ≤ p ∧ Hid (∀ x ∈ L, x.name.length ≤ 255) ∧ Hid (splitE b = (splitE (b.drop p)).map (L ++ ·)) ∧ Hid (wr.ownsRow w.heap.size 38 3 r k (etsV L)) ∧ Hid (Below w.heap.size w wr)) (fun _ a _ => N - (intOf a).toNat)
  case atStart => exact ⟨0, [], 0, Nat.zero_le _, rfl, rfl, Nat.le_refl _, fun x hx => by (cases hx), by show _ = _; simp, ⟨rfl, .inl ⟨rfl, rfl⟩⟩, Below.refl _ _⟩
  case round =>
    obtain ⟨p, L, k, hp, rfl, hLk, hkp, HNM, HSP, HOWN, HB⟩ := hrel
    obtain ⟨Ar, cr, hre, hcr, hcm⟩ := own_len HOWN.out
    subst hre
    by_cases hlt : p < N
    · have hdl : (b.drop p).length = N - p := by rw [List.length_drop, HN.out]
      by_cases h3 : p + 3 ≤ N
      · have HI0 : Hid (∀ wx : World, (Instr.index 9 (.string S) (.int .i64 (p : Int))).run Try.prog wx = .ok (.int .u8 (octN b p : Int)) wx) := fun wx => HIX.out p (by omega) wx
        have HI1 : Hid (∀ wx : World, (Instr.index 9 (.string S) (.int .i64 ((p : Int) + 1))).run Try.prog wx = .ok (.int .u8 (octN b (p + 1) : Int)) wx) := fun wx => HIX.out (p + 1) (by omega) wx
        have HI2 : Hid (∀ wx : World, (Instr.index 9 (.string S) (.int .i64 ((p : Int) + 2))).run Try.prog wx = .ok (.int .u8 (octN b (p + 2) : Int)) wx) := fun wx => HIX.out (p + 2) (by omega) wx
        have hs3 := splitE_three (m := b.drop p) (by omega)
        rw [hdl, octD, octD, octD, show p + 0 = p from rfl] at hs3
        have k256 := octL b (p + 2)
        have y256 := octL b (p + 1)
        have i256 := octL b p
        obtain ⟨I, hI⟩ : ∃ I, octN b p = I := ⟨_, rfl⟩
        obtain ⟨Y, hY⟩ : ∃ Y, octN b (p + 1) = Y := ⟨_, rfl⟩
        obtain ⟨sz, hsz2⟩ : ∃ sz, octN b (p + 2) = sz := ⟨_, rfl⟩
        rw [hI] at HI0 hs3 i256
        rw [hY] at HI1 hs3 y256
        rw [hsz2] at HI2 hs3 k256
        clear hI hY hsz2
        have hi2 := HI2.out wr
        by_cases h4 : p + 3 + sz ≤ N
        · rw [if_pos (by omega), List.drop_drop, List.drop_drop] at hs3
          have HS' : Hid (splitE b = (splitE (b.drop (p + 3 + sz))).map ((L ++ [⟨(b.drop (p + 3)).take sz, (I : Int), (Y : Int)⟩]) ++ ·)) := by
            show _ = _
            rw [HSP.out, hs3, show p + (3 + sz) = p + 3 + sz by omega]
            cases splitE (b.drop (p + 3 + sz)) <;> simp
          have hT : str ((b.drop (p + 3)).take sz) = S.extract (p + 3) (p + 3 + sz) := by rw [HEX.out, List.drop_take]; congr 2; omega
          have HSL : Hid (∀ wx : World, (Instr.slice 9 (.string S) (some (.int .i64 ((p : Int) + 3))) (some (.int .i64 ((p : Int) + 3 + (sz : Int)))) none).run Try.prog wx = .ok (.string (str ((b.drop (p + 3)).take sz))) wx) := fun wx => by
            have h := run_slice_string (P := Try.prog) wx 9 S .i64 .i64 ((p : Int) + 3) ((p : Int) + 3 + (sz : Int)) Try.underlying9 (by omega) (by omega) (by omega)
            rw [h, show ((p : Int) + 3).toNat = p + 3 by omega, show ((p : Int) + 3 + (sz : Int)).toNat = p + 3 + sz by omega, hT]
          have HV : Hid (etsV (L ++ [⟨(b.drop (p + 3)).take sz, (I : Int), (Y : Int)⟩]) = etsV L ++ [.string (str ((b.drop (p + 3)).take sz)), .int .i64 (I : Int), .int .i64 (Y : Int)]) := etsV_append L _
          obtain ⟨tl, htl⟩ : ∃ tl, (b.drop (p + 3)).take sz = tl := ⟨_, rfl⟩
          rw [htl] at HS' HSL HV
          have HNM' : Hid (∀ x ∈ L ++ [(⟨tl, (I : Int), (Y : Int)⟩ : Et)], x.name.length ≤ 255) := fun x hx => by
            rcases List.mem_append.1 hx with hx | hx
            · exact HNM.out x hx
            · rw [List.mem_singleton.1 hx]
              show tl.length ≤ 255
              rw [← htl, List.length_take]; omega
          obtain ⟨T, hTT⟩ : ∃ T, str tl = T := ⟨_, rfl⟩
          rw [hTT] at HSL HV
          have HW1 : Hid (IntKind.i64.wrap ((p : Int) + 1) = (p : Int) + 1) := wrap_i64 (a := p + 1) (by omega)
          have HW3 : Hid (IntKind.i64.wrap ((p : Int) + 3) = (p : Int) + 3) := wrap_i64 (a := p + 3) (by omega)
          have HW4 : Hid (IntKind.i64.wrap ((p : Int) + 3 + (sz : Int)) = (p : Int) + 3 + (sz : Int)) := wrap_i64 (a := p + 3 + sz) (by omega)
          have HWI : Hid (IntKind.i64.wrap (I : Int) = (I : Int)) := wrap_i64 (by omega)
          have HWY : Hid (IntKind.i64.wrap (Y : Int) = (Y : Int)) := wrap_i64 (by omega)
          have q4 : ¬ ((N : Int) < (p : Int) + 3 + (sz : Int)) := by omega
          clear hs3 hT htl hTT hdl
          go_wp2_with fail
          refine wp_region_tail (by kernel_rfl) 20 63 slotDD waitDD (leaveDD Ar k cr p sz I Y S T) rfl
            (by kernel_rfl) (fun i v w w' _ hb h => by unfold leaveDD at *; split at h <;> first | exact h | (obtain ⟨g, h1, h2⟩ := h; exact ⟨g, h1, h2.below hb h2.lt⟩)) ?_ ?_
          · intro i hi
            match i, hi with
            | 0, _ =>
              intro o ho a wc hk hb hd K hK
              cases ho
              have e0 := hk.rest 4 (.slice Ar k cr) (by omega) (by kernel_rfl) rfl
              rw [Array.getD_eq_getD_getElem?] at e0
              go_simp
              exact hK _ _ (Below.refl _ _) rfl
            | 1, _ =>
              intro o ho a wc hk hb hd K hK
              cases ho
              have e0 := hk.rest 0 (.string S) (by omega) (by kernel_rfl) rfl
              rw [Array.getD_eq_getD_getElem?] at e0
              go_simp
              exact hK _ _ (Below.refl _ _) rfl
            | 2, _ =>
              intro o ho a wc hk hb hd K hK
              cases ho
              have e0 := hk.rest 5 (.int .i64 (p : Int)) (by omega) (by kernel_rfl) rfl
              rw [Array.getD_eq_getD_getElem?] at e0
              go_simp
              exact hK _ _ (Below.refl _ _) rfl
            | 3, _ =>
              intro o ho a wc hk hb hd K hK
              cases ho
              have e0 := hd 2 (by simp [waitDD])
              simp only [leaveDD, slotDD, Nat.reduceAdd, Array.getD_eq_getD_getElem?] at e0
              have q0 := HW3.out
              go_simp
              exact hK _ _ (Below.refl _ _) rfl
            | 4, _ =>
              intro o ho a wc hk hb hd K hK
              cases ho
              have e0 := hk.rest 5 (.int .i64 (p : Int)) (by omega) (by kernel_rfl) rfl
              rw [Array.getD_eq_getD_getElem?] at e0
              go_simp
              exact hK _ _ (Below.refl _ _) rfl
            | 5, _ =>
              intro o ho a wc hk hb hd K hK
              cases ho
              have e0 := hd 4 (by simp [waitDD])
              simp only [leaveDD, slotDD, Nat.reduceAdd, Array.getD_eq_getD_getElem?] at e0
              have q0 := HW3.out
              go_simp
              exact hK _ _ (Below.refl _ _) rfl
            | 6, _ =>
              intro o ho a wc hk hb hd K hK
              cases ho
              have e0 := hk.rest 6 (.int .i64 (sz : Int)) (by omega) (by kernel_rfl) rfl
              rw [Array.getD_eq_getD_getElem?] at e0
              go_simp
              exact hK _ _ (Below.refl _ _) rfl
            | 7, _ =>
              intro o ho a wc hk hb hd K hK
              cases ho
              have e0 := hd 5 (by simp [waitDD])
              have e1 := hd 6 (by simp [waitDD])
              simp only [leaveDD, slotDD, Nat.reduceAdd, Array.getD_eq_getD_getElem?] at e0 e1
              have q0 := HW4.out
              go_simp
              exact hK _ _ (Below.refl _ _) rfl
            | 8, _ =>
              intro o ho a wc hk hb hd K hK
              cases ho
              have e0 := hd 1 (by simp [waitDD])
              have e1 := hd 3 (by simp [waitDD])
              have e2 := hd 7 (by simp [waitDD])
              simp only [leaveDD, slotDD, Nat.reduceAdd, Array.getD_eq_getD_getElem?] at e0 e1 e2
              have q := HSL.out wc
              go_simp
              exact hK _ _ (Below.refl _ _) rfl
            | 9, _ =>
              intro o ho a wc hk hb hd K hK
              cases ho
              have e0 := hk.rest 0 (.string S) (by omega) (by kernel_rfl) rfl
              rw [Array.getD_eq_getD_getElem?] at e0
              go_simp
              exact hK _ _ (Below.refl _ _) rfl
            | 10, _ =>
              intro o ho a wc hk hb hd K hK
              cases ho
              have e0 := hk.rest 5 (.int .i64 (p : Int)) (by omega) (by kernel_rfl) rfl
              rw [Array.getD_eq_getD_getElem?] at e0
              go_simp
              exact hK _ _ (Below.refl _ _) rfl
            | 11, _ =>
              intro o ho a wc hk hb hd K hK
              cases ho
              have e0 := hd 9 (by simp [waitDD])
              have e1 := hd 10 (by simp [waitDD])
              simp only [leaveDD, slotDD, Nat.reduceAdd, Array.getD_eq_getD_getElem?] at e0 e1
              have q := HI0.out wc
              go_simp
              exact hK _ _ (Below.refl _ _) rfl
            | 12, _ =>
              intro o ho a wc hk hb hd K hK
              cases ho
              have e0 := hd 11 (by simp [waitDD])
              simp only [leaveDD, slotDD, Nat.reduceAdd, Array.getD_eq_getD_getElem?] at e0
              have q0 := HWI.out
              go_simp
              exact hK _ _ (Below.refl _ _) rfl
            | 13, _ =>
              intro o ho a wc hk hb hd K hK
              cases ho
              have e0 := hk.rest 0 (.string S) (by omega) (by kernel_rfl) rfl
              rw [Array.getD_eq_getD_getElem?] at e0
              go_simp
              exact hK _ _ (Below.refl _ _) rfl
            | 14, _ =>
              intro o ho a wc hk hb hd K hK
              cases ho
              have e0 := hk.rest 5 (.int .i64 (p : Int)) (by omega) (by kernel_rfl) rfl
              rw [Array.getD_eq_getD_getElem?] at e0
              go_simp
              exact hK _ _ (Below.refl _ _) rfl
            | 15, _ =>
              intro o ho a wc hk hb hd K hK
              cases ho
              have e0 := hd 14 (by simp [waitDD])
              simp only [leaveDD, slotDD, Nat.reduceAdd, Array.getD_eq_getD_getElem?] at e0
              have q0 := HW1.out
              go_simp
              exact hK _ _ (Below.refl _ _) rfl
            | 16, _ =>
              intro o ho a wc hk hb hd K hK
              cases ho
              have e0 := hd 13 (by simp [waitDD])
              have e1 := hd 15 (by simp [waitDD])
              simp only [leaveDD, slotDD, Nat.reduceAdd, Array.getD_eq_getD_getElem?] at e0 e1
              have q := HI1.out wc
              go_simp
              exact hK _ _ (Below.refl _ _) rfl
            | 17, _ =>
              intro o ho a wc hk hb hd K hK
              cases ho
              have e0 := hd 16 (by simp [waitDD])
              simp only [leaveDD, slotDD, Nat.reduceAdd, Array.getD_eq_getD_getElem?] at e0
              have q0 := HWY.out
              go_simp
              exact hK _ _ (Below.refl _ _) rfl
            | 18, _ =>
              intro o ho a wc hk hb hd K hK
              cases ho
              have e0 := hd 8 (by simp [waitDD])
              have e1 := hd 12 (by simp [waitDD])
              have e2 := hd 17 (by simp [waitDD])
              simp only [leaveDD, slotDD, Nat.reduceAdd, Array.getD_eq_getD_getElem?] at e0 e1 e2
              go_simp
              exact hK _ _ (Below.refl _ _) rfl
            | 19, _ =>
              intro o ho a wc hk hb hd K hK
              cases ho
              have e0 := hd 18 (by simp [waitDD])
              simp only [leaveDD, slotDD, Nat.reduceAdd, Array.getD_eq_getD_getElem?] at e0
              go_simp
              exact hK _ _ ((Below.refl _ _).alloc (Nat.le_refl _) _) ⟨_, rfl, Bk.new _ _ _⟩
            | _ + 20, h => exact absurd h (by omega)
          · intro vals w5 hb hR
            have v0 := hR 0 (by omega)
            have v1 := hR 1 (by omega)
            have v2 := hR 2 (by omega)
            have v3 := hR 3 (by omega)
            have v4 := hR 4 (by omega)
            have v5 := hR 5 (by omega)
            have v6 := hR 6 (by omega)
            have v7 := hR 7 (by omega)
            have v8 := hR 8 (by omega)
            have v9 := hR 9 (by omega)
            have v10 := hR 10 (by omega)
            have v11 := hR 11 (by omega)
            have v12 := hR 12 (by omega)
            have v13 := hR 13 (by omega)
            have v14 := hR 14 (by omega)
            have v15 := hR 15 (by omega)
            have v16 := hR 16 (by omega)
            have v17 := hR 17 (by omega)
            have v18 := hR 18 (by omega)
            have v19 := hR 19 (by omega)
            simp only [leaveDD] at v0 v1 v2 v3 v4 v5 v6 v7 v8 v9 v10 v11 v12 v13 v14 v15 v16 v17 v18 v19
            clear hR
            simp only [putAll, slotDD, Nat.reduceAdd, List.setIfInBounds_toArray, List.set_cons_zero, List.set_cons_succ, List.drop_succ_cons, List.drop_zero, v0, v1, v2, v3, v4, v5, v6, v7, v8, v9, v10, v11, v12, v13, v14, v15, v16, v17, v18]
            clear v0 v1 v2 v3 v4 v5 v6 v7 v8 v9 v10 v11 v12 v13 v14 v15 v16 v17 v18
            obtain ⟨g, hv19, hbk⟩ := v19
            rw [hv19]
            have HB5 := Lib.hid (HB.out.trans (hb.mono HB.out.size))
            have HOWN5 := Lib.hid (own_upE HOWN.out hb)
            have HNW := Lib.hid (Rd.bk hbk)
            clear hb hbk hv19
            go_wp2_with (at_builtin; refine wpList_append_rd _ rfl _ _ 22 rfl w.heap.size 38 i0 (.agg #[.string ByteArray.empty, .int .i64 0, .int .i64 0]) 3 32 Try.underlying22 hi.out hz0.out hz1.out hz2.out rfl (by decide) _ _ _ rfl HOWN5.out w5.heap.size (some ⟨g, 0, none⟩) 1 1 [.string T, .int .i64 (I : Int), .int .i64 (Y : Int)] rfl rfl HNW.out ?c2 ?c3 ?c4 ?c5 ?_)
            case c2 => first | exact ⟨rfl, rfl, rfl⟩ | (intro u hu; simp only [List.mem_cons, List.not_mem_nil, or_false] at hu; rcases hu with rfl | rfl | rfl <;> rfl)
            case c3 => unfold maxLen; omega
            case c4 => omega
            case c5 => exact HB5.out.size
            intro r' w6 hown6 hgrow
            have HB7 := Lib.hid (HB5.out.grown hgrow HB5.out.size (fun g hg => (HOWN5.out.lt g hg).1))
            have HOWN6 : Hid (w6.ownsRow w.heap.size 38 3 r' (k + 1) (etsV (L ++ [⟨tl, (I : Int), (Y : Int)⟩]))) := by
              rw [HV.out]; exact hown6
            clear hown6 hgrow HOWN5 HNW HB5
            go_wp2
            go_roundw
            case rel => exact ⟨p + 3 + sz, L ++ [(⟨tl, (I : Int), (Y : Int)⟩ : Et)], k + 1, by omega, by go_num, by rw [List.length_append, hLk]; rfl, by omega, HNM', HS', HOWN6, HB7⟩
            case measure => simp [intOf]; omega
        · rw [if_neg (by omega)] at hs3
          obtain rfl : D = none := by rw [← HDD.out]; unfold decE; rw [HSP.out, hs3]; rfl
          have q4 : ((N : Int) < (p : Int) + 3 + (sz : Int)) := by omega
          clear hs3 hdl
          go_wp2
          go_ret2
          exact ⟨_, rfl, EtsW.nil_ _, HB.out⟩
      · obtain rfl : D = none := by rw [← HDD.out]; unfold decE; rw [HSP.out, splitE_few (by omega) (by omega)]; rfl
        have q3 : ((N : Int) < (p : Int) + 3) := by omega
        clear hdl
        go_wp2
        go_ret2
        exact ⟨_, rfl, EtsW.nil_ _, HB.out⟩
    · obtain rfl : p = N := by omega
      have hall : splitE b = some L := by rw [HSP.out, List.drop_of_length_le (by rw [HN.out]; exact Nat.le_refl _), splitE]; simp
      have hdec : D = if mayE L then some L else none := by rw [← HDD.out]; unfold decE; rw [hall]; rfl
      obtain ⟨m, hm⟩ : ∃ m, mayE L = m := ⟨_, rfl⟩
      rw [hm] at hdec
      have hnames : ∀ x ∈ L, x.name.length ≤ 4398046511104 := fun x hx => Nat.le_trans (HNM.out x hx) (by omega)
      have HMY := Lib.hid (refMay10_any wr.heap.size Ar k cr L wr hLk (by omega) (Rd.own HOWN.out) (Nat.le_refl _) hnames)
      rw [hm] at HMY
      have HD := Lib.hid hdec
      clear hdec hall hnames
      go_wp2_with fail
      refine HMY.out.mono ?_
      rintro e w2 ⟨rfl, hb⟩
      have HE := Lib.hid ((EtsW.own HOWN.out).up hb)
      have HB2 := Lib.hid (HB.out.trans (hb.mono HB.out.size))
      clear hb
      cases m with
      | true =>
        obtain rfl : D = some L := HD.out
        go_wp2
        go_ret2
        exact ⟨_, rfl, HE.out, HB2.out⟩
      | false =>
        obtain rfl : D = none := HD.out
        go_wp2
        go_ret2
        exact ⟨_, rfl, EtsW.nil_ _, HB2.out⟩
end Go.Proofs.Ytgboccepgbeihaa
