/-
  What the document's answers of layer 11 are: a text cut at its 47s. (Printed by wip/tools/ref11.py.)
-/
import Derived.Test.YtlenfocdhchphaaPathMem
import Derived.Test.YtlenfocdhchphaaRegTail
import Derived.Test.YtlenfocdhchphaaRef09
import Derived.LoopTactic
namespace Go.Proofs.Ytlenfocdhchphaa
open Go.RowKit
set_option maxRecDepth 100000
set_option linter.unusedVariables false

def slotPC (i : Nat) : Nat := 19 + i
def waitPC : Nat → List Nat
  | 2 => [1]
  | 3 => [2]
  | 4 => [0, 3]
  | 5 => [4]
  | 9 => [8]
  | 10 => [6, 7, 9]
  | 11 => [5, 10]
  | 12 => [0, 3]
  | 13 => [11, 12]
  | _ => []
def leavePC (g k c j p : Nat) (X S C : ByteArray) : Nat → Value → World → Prop
  | 0, v, _ => v = .slice (some ⟨g, 0, none⟩) k c
  | 1, v, _ => v = .slice (some ⟨g, 0, none⟩) k c
  | 2, v, _ => v = .int .i64 (k : Int)
  | 3, v, _ => v = .int .i64 (j : Int)
  | 4, v, _ => v = .pointer (some ⟨g, j, none⟩)
  | 5, v, _ => v = .string X
  | 6, v, _ => v = .string S
  | 7, v, _ => v = .int .i64 (p : Int)
  | 8, v, _ => v = .int .i64 (p : Int)
  | 9, v, _ => v = .int .i64 ((p : Int) + 1)
  | 10, v, _ => v = .string C
  | 11, v, _ => v = .string (X ++ C)
  | 12, v, _ => v = .pointer (some ⟨g, j, none⟩)
  | _, _, _ => True
theorem wrapP_i64 {a : Nat} (h : a < 9223372036854775808) : IntKind.i64.wrap (a : Int) = (a : Int) := by
  simp [IntKind.wrap, IntKind.bits, IntKind.signed]
  omega
theorem info_strP : (Try.prog.info? 9).map (fun i => (i.zero, i.size, i.bytes)) = some (some (.string ByteArray.empty), 1, 16) := by kernel_rfl
theorem octP_some {l : List UInt8} {k : Nat} {c : UInt8} (h : l[k]? = some c) : octN l k = c.toNat := by
  unfold octN; rw [List.getD, h]; rfl

set_option maxHeartbeats 8000000 in
theorem refCut11_any (s : List UInt8) (w : World) (hl : s.length ≤ 1000000) :
    Calls Try.prog 24 #[.string (str s)] w fun e w' => ∃ v, e = .returned v ∧ StrW w' (cutS s) v ∧ Below w.heap.size w w' := by
  obtain ⟨i0, hi, hz0, hz1, hz2⟩ := info_parts info_strP
  have hi := Lib.hid hi
  have hz0 := Lib.hid hz0
  have hz1 := Lib.hid hz1
  have hz2 := Lib.hid hz2
  have hsz := str_size s
  have HIX := Lib.hid (index_str s)
  have HEX := Lib.hid fun i j => str_ext s i j
  obtain ⟨S, hS⟩ : ∃ S, str s = S := ⟨_, rfl⟩
  obtain ⟨n, hn⟩ : ∃ n, s.length = n := ⟨_, rfl⟩
  rw [hS] at hsz HIX HEX ⊢
  rw [hn] at hsz hl HIX
  have HN := Lib.hid hn
  have H0 : Hid ((w.alloc (.cells #[.string (str [])] 9)).ownsRow w.heap.size 9 1 (.slice (some ⟨w.heap.size, 0, none⟩) 1 1) 1 (strsV [[]])) := own_of_bk (Bk.new w _ _) (Nat.le_refl _) rfl (by unfold maxLen; omega)
  have HB0 := Lib.hid ((Below.refl w.heap.size w).alloc (Nat.le_refl _) (.cells #[.string (str [])] 9))
  clear hS hn
  go_enter Try.func24, Try.ntmps24
  go_wp2
  go_loopw [3, 4] (fun r a wr => ∃ (p : Nat) (M : List (List UInt8)) (x : List UInt8) (g k c : Nat), p ≤ n ∧ a = .int .i64 (p : Int) ∧ r = .slice (some ⟨g, 0, none⟩) k c ∧ Hid (M.length + 1 = k) ∧ k ≤ p + 1 ∧ Hid (x.length ≤ p) ∧ Hid (cutS (s.take p) = M ++ [x]) ∧ Hid (wr.ownsRow w.heap.size 9 1 (.slice (some ⟨g, 0, none⟩) k c) k (strsV (M ++ [x]))) ∧ Hid (Below w.heap.size w wr)) (fun _ a _ => n - (intOf a).toNat)
  case atStart => exact ⟨0, [], [], w.heap.size, 1, 1, Nat.zero_le _, rfl, rfl, rfl, Nat.le_refl _, Nat.le_refl _, rfl, H0, HB0⟩
  case round =>
    clear H0 HB0
    obtain ⟨p, M, x, g, k, c, hin, rfl, rfl, HMK, hki, HXL, HC, HOWN, HB⟩ := hrel
    by_cases hlt : p < n
    · obtain ⟨ch, hch⟩ : ∃ ch, s[p]? = some ch := ⟨_, List.getElem?_eq_getElem (by rw [HN.out]; exact hlt)⟩
      have hix := HIX.out p hlt wr
      rw [octP_some hch] at hix
      have hT : s.take (p + 1) = s.take p ++ [ch] := by rw [List.take_add_one, hch]; rfl
      have hstep : cutS (s.take (p + 1)) = M ++ cutStep [x] ch := by rw [hT, cutS_snoc, HC.out, cutStep_pre]
      by_cases h47 : ch = 47
      · have HC' : Hid (cutS (s.take (p + 1)) = (M ++ [x]) ++ [[]]) := by
          show _ = _
          rw [hstep, cutStep, if_pos h47, List.append_assoc]
        have hch47 : (ch.toNat : Int) = 47 := by rw [h47]; rfl
        rw [hch47] at hix
        have HOWN5 := Lib.hid (HOWN.out.alloc (.cells #[.string (str [])] 9))
        have HB6 := Lib.hid (HB.out.alloc HB.out.size (.cells #[.string (str [])] 9))
        have HNW := Lib.hid (Rd.new wr 9 #[.string (str [])] (0, 0))
        clear hch hT hstep hch47 h47
        go_wp2_with (at_builtin; refine wpList_append_rd _ rfl _ _ 23 rfl w.heap.size 9 i0 (.string ByteArray.empty) 1 16 Try.underlying23 hi.out hz0.out hz1.out hz2.out rfl (by decide) _ _ _ rfl HOWN5.out (wr.heap.size + 1) (some ⟨wr.heap.size, 0, none⟩) 1 1 [.string (str [])] rfl rfl HNW.out ?c2 ?c3 ?c4 ?c5 ?_)
        case c2 => first | exact rfl | (intro u hu; simp only [List.mem_cons, List.not_mem_nil, or_false] at hu; subst hu; rfl)
        case c3 => unfold maxLen; omega
        case c4 => omega
        case c5 => have := HB.out.size; simp; omega
        intro r' w7 hown7 hgrow
        have HB7 := Lib.hid (HB6.out.grown hgrow HB6.out.size (fun g hg => (HOWN5.out.lt g hg).1))
        have hown8 : w7.ownsRow w.heap.size 9 1 r' (k + 1) (strsV ((M ++ [x]) ++ [[]])) := by rw [strsV_append]; exact hown7
        obtain ⟨g', c', rfl, -, -, -, -, -⟩ := own_some hown8 (by omega)
        have HOWN8 := Lib.hid hown8
        clear hown7 hown8 hgrow HOWN5 HB6 HNW
        go_wp2
        go_roundw
        case rel => exact ⟨p + 1, M ++ [x], [], g', k + 1, c', by omega, by go_num, rfl, by show _ = _; rw [List.length_append, ← HMK.out]; rfl, by omega, Nat.zero_le _, HC', HOWN8, HB7⟩
        case measure => simp [intOf]; omega
      · have HC' : Hid (cutS (s.take (p + 1)) = M ++ [x ++ [ch]]) := by
          show _ = _
          rw [hstep, cutStep, if_neg h47]; rfl
        have hne : ((ch.toNat : Int) == 47) = false := beq_false_of_ne fun e => h47 (UInt8.toNat_inj.1 (show ch.toNat = 47 by omega))
        obtain ⟨j, hj⟩ : ∃ j, M.length = j := ⟨_, rfl⟩
        obtain rfl : k = j + 1 := by have := HMK.out; omega
        obtain ⟨g2, c2, hg2, hgb, -, -, hcell, hfro⟩ := own_some HOWN.out (by omega)
        injection hg2 with hg2 _ hc2
        injection hg2 with hg2
        injection hg2 with hg2 _ _
        subst hg2 hc2
        have hc0 : wr.cell? ⟨g, j, none⟩ = some (.string (str x)) := hcell j _ (by rw [strsV_append, List.getElem?_append_right (by rw [strsV_len]; omega), strsV_len, hj, Nat.sub_self]; rfl)
        have hf0 := hfro j
        have HKX : Hid (∀ w', Below wr.heap.size wr w' → w'.cell? ⟨g, j, none⟩ = some (.string (str x))) := fun w' hb => (hb.cell (World.block_lt_of_cell? _ _ hc0)).trans hc0
        have HKF : Hid (∀ w', Below wr.heap.size wr w' → w'.frozen? ⟨g, j, none⟩ = false) := fun w' hb => by
          obtain ⟨g3, c3, hg3, -, -, -, -, hf3⟩ := own_some (own_upP HOWN.out hb) (by omega)
          injection hg3 with hg3 _ _
          injection hg3 with hg3
          injection hg3 with hg3 _ _
          subst hg3
          exact hf3 j
        have hcut : S.extract p (p + 1) = str [ch] := by rw [HEX.out, hT, List.drop_append, List.drop_of_length_le (by rw [List.length_take]; omega), List.length_take, HN.out, Nat.min_eq_left hin, Nat.sub_self]; rfl
        have HSL : Hid (∀ wx : World, (Instr.slice 9 (.string S) (some (.int .i64 (p : Int))) (some (.int .i64 ((p : Int) + 1))) none).run Try.prog wx = .ok (.string (str [ch])) wx) := fun wx => by
          have h := run_slice_string (P := Try.prog) wx 9 S .i64 .i64 (p : Int) ((p : Int) + 1) Try.underlying9 (by omega) (by omega) (by omega)
          rw [h, show ((p : Int) + 1).toNat = p + 1 by omega, Int.toNat_natCast, hcut]
        have HSET : Hid (∀ w', Below wr.heap.size wr w' → (w'.setCell ⟨g, j, none⟩ (.string (str x ++ str [ch]))).ownsRow w.heap.size 9 1 (.slice (some ⟨g, 0, none⟩) (j + 1) c) (j + 1) (strsV (M ++ [x ++ [ch]]))) := fun w' hb => by
          have h := own_set (own_upP HOWN.out hb) (show j < j + 1 by omega) (.string (str x ++ str [ch]))
          have e : (strsV (M ++ [x])).set j (.string (str x ++ str [ch])) = strsV (M ++ [x ++ [ch]]) := by
            rw [strsV_append, strsV_append, List.set_append_right _ _ (by rw [strsV_len]; omega), strsV_len, hj, Nat.sub_self, str_append]; rfl
          rwa [e] at h
        have HSX : Hid ((str x).size ≤ 1000000 ∧ (str [ch]).size = 1) := ⟨by have h := HXL.out; rw [str_size]; omega, by rw [str_size]; rfl⟩
        have HXL' : Hid ((x ++ [ch]).length ≤ p + 1) := by show _ ≤ _; rw [List.length_append, List.length_singleton]; have := HXL.out; omega
        have HKJ : Hid (((j + 1 : Nat) : Int) - 1 = (j : Int)) := by show _ = _; omega
        have HWJ : Hid (IntKind.i64.wrap (j : Int) = (j : Int)) := wrapP_i64 (by omega)
        have HWI : Hid (IntKind.i64.wrap ((p : Int) + 1) = (p : Int) + 1) := wrapP_i64 (a := p + 1) (by omega)
        have HJK : Hid (j < j + 1) := show j < j + 1 by omega
        have HGB : Hid (w.heap.size ≤ g) := hgb
        have HMJ : Hid (M.length + 1 = j + 1) := by show _ = _; rw [hj]
        obtain ⟨k, hk⟩ : ∃ k, j + 1 = k := ⟨_, rfl⟩
        rw [hk] at HOWN hki HSET HMJ HJK HKJ ⊢
        obtain ⟨X, hX⟩ : ∃ X, str x = X := ⟨_, rfl⟩
        obtain ⟨C, hCC⟩ : ∃ C, str [ch] = C := ⟨_, rfl⟩
        rw [hX] at HKX HSX HSET
        rw [hCC] at HSX HSET HSL
        have HXL2 := Lib.hid HC'
        clear hch hT hstep h47 hcell hfro hc0 hf0 hcut hX hCC HC hj hgb hk HMK
        go_wp2_with fail
        refine wp_region_tail (by kernel_rfl) 13 33 slotPC waitPC (leavePC g k c j p X S C) rfl
          (by kernel_rfl) (fun i v w w' _ _ h => by unfold leavePC at *; split at h <;> exact h) ?_ ?_
        · intro i hi
          match i, hi with
          | 0, _ =>
            intro o ho a wc hk hb hd K hK
            cases ho
            have e0 := hk.rest 3 (.slice (some ⟨g, 0, none⟩) k c) (by omega) (by kernel_rfl) rfl
            rw [Array.getD_eq_getD_getElem?] at e0
            go_simp
            exact hK _ _ (Below.refl _ _) rfl
          | 1, _ =>
            intro o ho a wc hk hb hd K hK
            cases ho
            have e0 := hk.rest 3 (.slice (some ⟨g, 0, none⟩) k c) (by omega) (by kernel_rfl) rfl
            rw [Array.getD_eq_getD_getElem?] at e0
            go_simp
            exact hK _ _ (Below.refl _ _) rfl
          | 2, _ =>
            intro o ho a wc hk hb hd K hK
            cases ho
            have e0 := hd 1 (by simp [waitPC])
            simp only [leavePC, slotPC, Nat.reduceAdd, Array.getD_eq_getD_getElem?] at e0
            go_simp
            exact hK _ _ (Below.refl _ _) rfl
          | 3, _ =>
            intro o ho a wc hk hb hd K hK
            cases ho
            have e0 := hd 2 (by simp [waitPC])
            simp only [leavePC, slotPC, Nat.reduceAdd, Array.getD_eq_getD_getElem?] at e0
            have q0 := HKJ.out
            have q1 := HWJ.out
            go_simp
            exact hK _ _ (Below.refl _ _) rfl
          | 4, _ =>
            intro o ho a wc hk hb hd K hK
            cases ho
            have e0 := hd 0 (by simp [waitPC])
            have e1 := hd 3 (by simp [waitPC])
            simp only [leavePC, slotPC, Nat.reduceAdd, Array.getD_eq_getD_getElem?] at e0 e1
            have q0 := HJK.out
            go_simp
            exact hK _ _ (Below.refl _ _) rfl
          | 5, _ =>
            intro o ho a wc hk hb hd K hK
            cases ho
            have e0 := hd 4 (by simp [waitPC])
            simp only [leavePC, slotPC, Nat.reduceAdd, Array.getD_eq_getD_getElem?] at e0
            have c0 := HKX.out _ hb
            go_simp
            exact hK _ _ (Below.refl _ _) rfl
          | 6, _ =>
            intro o ho a wc hk hb hd K hK
            cases ho
            have e0 := hk.rest 0 (.string S) (by omega) (by kernel_rfl) rfl
            rw [Array.getD_eq_getD_getElem?] at e0
            go_simp
            exact hK _ _ (Below.refl _ _) rfl
          | 7, _ =>
            intro o ho a wc hk hb hd K hK
            cases ho
            have e0 := hk.rest 4 (.int .i64 (p : Int)) (by omega) (by kernel_rfl) rfl
            rw [Array.getD_eq_getD_getElem?] at e0
            go_simp
            exact hK _ _ (Below.refl _ _) rfl
          | 8, _ =>
            intro o ho a wc hk hb hd K hK
            cases ho
            have e0 := hk.rest 4 (.int .i64 (p : Int)) (by omega) (by kernel_rfl) rfl
            rw [Array.getD_eq_getD_getElem?] at e0
            go_simp
            exact hK _ _ (Below.refl _ _) rfl
          | 9, _ =>
            intro o ho a wc hk hb hd K hK
            cases ho
            have e0 := hd 8 (by simp [waitPC])
            simp only [leavePC, slotPC, Nat.reduceAdd, Array.getD_eq_getD_getElem?] at e0
            have q0 := HWI.out
            go_simp
            exact hK _ _ (Below.refl _ _) rfl
          | 10, _ =>
            intro o ho a wc hk hb hd K hK
            cases ho
            have e0 := hd 6 (by simp [waitPC])
            have e1 := hd 7 (by simp [waitPC])
            have e2 := hd 9 (by simp [waitPC])
            simp only [leavePC, slotPC, Nat.reduceAdd, Array.getD_eq_getD_getElem?] at e0 e1 e2
            have q := HSL.out wc
            go_simp
            exact hK _ _ (Below.refl _ _) rfl
          | 11, _ =>
            intro o ho a wc hk hb hd K hK
            cases ho
            have e0 := hd 5 (by simp [waitPC])
            have e1 := hd 10 (by simp [waitPC])
            simp only [leavePC, slotPC, Nat.reduceAdd, Array.getD_eq_getD_getElem?] at e0 e1
            have q := HSX.out
            go_simp
            rw [if_neg (by omega)]
            go_simp
            exact hK _ _ (Below.refl _ _) rfl
          | 12, _ =>
            intro o ho a wc hk hb hd K hK
            cases ho
            have e0 := hd 0 (by simp [waitPC])
            have e1 := hd 3 (by simp [waitPC])
            simp only [leavePC, slotPC, Nat.reduceAdd, Array.getD_eq_getD_getElem?] at e0 e1
            have q0 := HJK.out
            go_simp
            exact hK _ _ (Below.refl _ _) rfl
          | _ + 13, h => exact absurd h (by omega)
        · intro vals w5 hb hR
          have v0 := hR 0 (by omega)
          have v1 := hR 1 (by omega)
          have v2 := hR 2 (by omega)
          have v3 := hR 3 (by omega)
          have v4 := hR 4 (by omega)
          have v5 := hR 5 (by omega)
          have v6 := hR 6 (by omega)
          have v7 := hR 7 (by omega)
          have v8 := hR 8 (by omega)
          have v9 := hR 9 (by omega)
          have v10 := hR 10 (by omega)
          have v11 := hR 11 (by omega)
          have v12 := hR 12 (by omega)
          simp only [leavePC] at v0 v1 v2 v3 v4 v5 v6 v7 v8 v9 v10 v11 v12
          clear hR
          simp only [putAll, slotPC, Nat.reduceAdd, List.setIfInBounds_toArray, List.set_cons_zero, List.set_cons_succ, List.drop_succ_cons, List.drop_zero, v0, v1, v2, v3, v4, v5, v6, v7, v8, v9, v10, v11, v12]
          clear v0 v1 v2 v3 v4 v5 v6 v7 v8 v9 v10 v11 v12
          have c0 := HKX.out _ hb
          have f0 := HKF.out _ hb
          have HOWN8 := Lib.hid (HSET.out _ hb)
          have HB8 := Lib.hid ((HB.out.trans (hb.mono HB.out.size)).setCell (p := ⟨g, j, none⟩) HGB.out (.string (X ++ C)))
          clear hb
          go_wp2
          go_roundw
          case rel => exact ⟨p + 1, M, x ++ [ch], g, k, c, by omega, by go_num, rfl, HMJ, by omega, HXL', HXL2.out, HOWN8, HB8⟩
          case measure => simp [intOf]; omega
    · obtain rfl : p = n := by omega
      have HE : Hid (StrW wr (cutS s) (.slice (some ⟨g, 0, none⟩) k c)) := by
        have h := StrW.own HOWN.out
        rw [← HC.out, List.take_of_length_le (by rw [HN.out]; exact Nat.le_refl _)] at h
        exact h
      go_wp2
      go_ret
      exact ⟨_, rfl, HE.out, HB.out⟩
end Go.Proofs.Ytlenfocdhchphaa
