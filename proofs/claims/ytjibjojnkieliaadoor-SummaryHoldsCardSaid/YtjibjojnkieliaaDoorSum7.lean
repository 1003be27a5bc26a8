/-
  What the iterator of summary.entries does: entry by entry, as far as there are octets. (Printed by wip/tools/sum7.py.)
-/
import Derived.Test.YtjibjojnkieliaaDoorSum6
import Derived.Test.YtjibjojnkieliaaDoorUnpack
namespace Go.Proofs.YtjibjojnkieliaaDoor
open Go.RowKit Go.Shelf
set_option linter.unusedVariables false
attribute [local go_sem] Oper.semAt_some

theorem entries_any (A : Option Addr) (n c : Nat) (m : Int) (w : World) :
    Calls Tryd.prog 29 #[.slice A n c, .int .i64 m] w fun e w' => e = .returned (.func (.func 45) #[] #[.pointer (some ⟨w.heap.size, 0, none⟩), .pointer (some ⟨w.heap.size + 1, 0, none⟩)]) ∧ w' = (w.alloc (.cells #[.slice A n c] 26)).alloc (.cells #[.int .i64 m] 3) := by
  go_enter Tryd.func29, Tryd.ntmps29
  go_wp2
  go_ret
  exact ⟨rfl, rfl⟩
/-- an entry, as the iterator hands it on -/
def enF (L : List En) (x : Fin L.length) : Array Value := #[enG (L[x.1]'x.2)]
/-- the entries that stand in octets, eight by eight -/
def EntsIn (rs : List UInt8) (L : List En) : Prop := ∀ (k : Nat) (y : En), L[k]? = some y → ∃ v0 v1 v2 : Nat, nums (rs.drop (8 * k)) entW = [v0, v1, v2, y.sum] ∧ y.kind = v0 ∧ y.ino = v1 ∧ y.index = v2 ∧ v0 < 256 ∧ v1 < 256 ∧ v2 < 65536 ∧ y.sum < 4294967296

def slotE4 (i : Nat) : Nat := 17 + i
def waitE4 : Nat → List Nat
  | 1 => [0]
  | 2 => [1]
  | 3 => [2]
  | 4 => [2]
  | 5 => [2, 4]
  | 6 => [2, 5]
  | 7 => [2, 6]
  | 8 => [2]
  | 9 => [2, 8]
  | 10 => [2, 9]
  | 11 => [2, 10]
  | 12 => [2]
  | 13 => [2, 12]
  | 14 => [2, 13]
  | 15 => [2, 14]
  | 16 => [2]
  | 17 => [2, 16]
  | 18 => [2, 17]
  | 19 => [2, 18]
  | 20 => [2, 7, 11, 15, 19]
  | 21 => [2, 3, 20]
  | _ => []
def leaveE4 (l0 gv ov cv v0 v1 v2 v3 : Nat) : Nat → Value → World → Prop
  | 0, v, _ => v = .int .i64 0
  | 1, v, _ => v = .bool false
  | 2, v, _ => v = .bool false
  | 3, v, _ => v = .func (.yield l0) #[] #[]
  | 4, v, _ => v = .slice (some ⟨gv, ov, none⟩) 4 cv
  | 5, v, _ => v = .pointer (some ⟨gv, ov, none⟩)
  | 6, v, _ => v = .int .u64 (v0 : Int)
  | 7, v, _ => v = .int .i64 (v0 : Int)
  | 8, v, _ => v = .slice (some ⟨gv, ov, none⟩) 4 cv
  | 9, v, _ => v = .pointer (some ⟨gv, ov + 1, none⟩)
  | 10, v, _ => v = .int .u64 (v1 : Int)
  | 11, v, _ => v = .int .i64 (v1 : Int)
  | 12, v, _ => v = .slice (some ⟨gv, ov, none⟩) 4 cv
  | 13, v, _ => v = .pointer (some ⟨gv, ov + 2, none⟩)
  | 14, v, _ => v = .int .u64 (v2 : Int)
  | 15, v, _ => v = .int .i64 (v2 : Int)
  | 16, v, _ => v = .slice (some ⟨gv, ov, none⟩) 4 cv
  | 17, v, _ => v = .pointer (some ⟨gv, ov + 3, none⟩)
  | 18, v, _ => v = .int .u64 (v3 : Int)
  | 19, v, _ => v = .int .u32 (v3 : Int)
  | 20, v, _ => v = .agg #[.int .i64 (v0 : Int), .int .i64 (v1 : Int), .int .i64 (v2 : Int), .int .u32 (v3 : Int)]
  | _, _, _ => True
def slotE5 (i : Nat) : Nat := 17 + i
def waitE5 : Nat → List Nat
  | 1 => [0]
  | 2 => [1]
  | 3 => [2]
  | 4 => [2]
  | 5 => [2, 4]
  | 6 => [2, 5]
  | 7 => [2, 6]
  | 8 => [2]
  | 9 => [2, 8]
  | 10 => [2, 9]
  | 11 => [2, 10]
  | 12 => [2]
  | 13 => [2, 12]
  | 14 => [2, 13]
  | 15 => [2, 14]
  | 16 => [2]
  | 17 => [2, 16]
  | 18 => [2, 17]
  | 19 => [2, 18]
  | 20 => [2, 7, 11, 15, 19]
  | 21 => [2, 3, 20]
  | _ => []
def leaveE5 (q : Unit) : Nat → Value → World → Prop
  | 0, v, _ => v = .int .i64 2
  | 1, v, _ => v = .bool true
  | 2, v, _ => v = .bool true
  | 3, v, _ => v = undef
  | 4, v, _ => v = undef
  | 5, v, _ => v = undef
  | 6, v, _ => v = undef
  | 7, v, _ => v = undef
  | 8, v, _ => v = undef
  | 9, v, _ => v = undef
  | 10, v, _ => v = undef
  | 11, v, _ => v = undef
  | 12, v, _ => v = undef
  | 13, v, _ => v = undef
  | 14, v, _ => v = undef
  | 15, v, _ => v = undef
  | 16, v, _ => v = undef
  | 17, v, _ => v = undef
  | 18, v, _ => v = undef
  | 19, v, _ => v = undef
  | 20, v, _ => v = undef
  | _, _, _ => True
set_option maxRecDepth 100000 in
set_option maxHeartbeats 4000000 in
theorem entries1_in (d l0 B1 B2 n₀ b o c cnt : Nat) (rs : List UInt8) (L : List En) (J Jx : List (Fin L.length) → World → Prop) (W : World) (hd : 1 ≤ d)
    (hrs : rs.length = 112) (hc : 112 ≤ c) (hcm : c ≤ maxLen) (hcnt : cnt < 256) (hLn : L.length = min cnt 14) (hL : EntsIn rs L)
    (hJ : AbidesFrom W.heap.size J)
    (hY : ∀ pre x W1, J pre W1 → pre.length < min cnt 14 → YieldAt Fence.wide (d - 1) Tryd.prog l0 (enF L x) W1 fun e W' =>
      (e = .returned (.bool true) ∧ J (pre ++ [x]) W' ∧ Below n₀ W1 W') ∨ (e = .returned (.bool false) ∧ Jx (pre ++ [x]) W'))
    (hB1 : W.cell? ⟨B1, 0, none⟩ = some (.slice (some ⟨b, o, none⟩) 112 c)) (hB2 : W.cell? ⟨B2, 0, none⟩ = some (.int .i64 (cnt : Int)))
    (hn₀ : n₀ ≤ W.heap.size) (hr : Rd W n₀ (some ⟨b, o, none⟩) (rs.map bv)) (h0 : J [] W) :
    CallsIn Fence.wide d Tryd.prog 45 #[.func (.yield l0) #[] #[], .pointer (some ⟨B1, 0, none⟩), .pointer (some ⟨B2, 0, none⟩)] W fun e W' => (∃ v, e = .returned v) ∧
      ((∃ xs, xs = List.finRange L.length ∧ J xs W') ∨ (∃ pre, True ∧ Jx pre W')) := by
  have HRS := Lib.hid hrs
  have HLL := Lib.hid hLn
  have HL := Lib.hid hL
  have HJ := Lib.hid hJ
  have HY := Lib.hid hY
  have HR := Lib.hid hr
  have H0 := Lib.hid h0
  have HCM := Lib.hid hcm
  have HN := Lib.hid hn₀
  clear hrs hLn hL hJ hY hr h0 hcm hn₀
  refine callsIn_of_wp Tryd.func45 rfl trivial ?_ rfl
  simp only [Tryd.ntmps45, List.size_toArray, List.length_cons, List.length_nil, Nat.reduceAdd, Nat.reduceSub, Array.replicate_succ, Array.replicate_zero, List.push_toArray, List.append_toArray, List.nil_append, List.cons_append]
  gi_wp2
  gi_loopw [4, 9] (fun r i wr => ∃ k ok nk ck : Nat, k ≤ cnt ∧ k ≤ 14 ∧ i = .int .i64 k ∧ r = .slice (some ⟨b, ok, none⟩) nk ck ∧ Hid (nk = 0 ∨ ok = o + 8 * k) ∧ nk + 8 * k = 112 ∧ Hid (ck + 8 * k = c) ∧ Hid (J ((List.finRange L.length).take k) wr) ∧ Hid (Below n₀ W wr) ∧ Hid (W.heap.size ≤ wr.heap.size)) (fun _ i _ => cnt - (intOf i).toNat)
  case atStart => exact ⟨0, o, 112, c, Nat.zero_le _, by omega, rfl, rfl, .inr (by simp), rfl, by simp [Hid], H0.out, Below.refl _ _, Nat.le_refl _⟩
  case round =>
    obtain ⟨k, ok, nk, ck, hk, hk14, rfl, rfl, HOK, hnk, HCK, HJk, HB, HZ⟩ := hrel
    clear hB1 hB2 H0
    by_cases hlt : k < cnt
    · have hdrop : Hid ((rs.drop (8 * k)).length = nk) := by show _ = _; rw [List.length_drop, HRS.out]; omega
      have hrd : Hid (Rd wr n₀ (some ⟨b, ok, none⟩) ((rs.drop (8 * k)).map bv)) := by
        rcases HOK.out with h0 | h0
        · rw [List.length_eq_zero_iff.1 (hdrop.out.trans h0)]
          exact Rd.nil_
        · have := (HR.out.below HB.out).drop (8 * k)
          rw [add_plain, ← h0] at this
          rw [List.map_drop]
          exact this
      have hws := Rd.new wr 3 #[iv 1, iv 1, iv 2, iv 4] (0, 0)
      have HWS := Lib.hid hws
      clear hws
      have hck : ck ≤ maxLen := by have := HCM.out; have := HCK.out; omega
      have hnc : nk ≤ ck := by have := HCK.out; omega
      have HCKM := Lib.hid hck
      clear hck
      gi_wp2_with fail
      have HA := Lib.hid ((Below.refl wr.heap.size wr).alloc (Nat.le_refl _) (.cells #[iv 1, iv 1, iv 2, iv 4] 3))
      have hnr : n₀ ≤ wr.heap.size := by have := HN.out; have := HZ.out; omega
      by_cases h14 : k < 14
      · have hkL : k < L.length := by have := HLL.out; omega
        obtain ⟨y, hy⟩ : ∃ y, L[k]? = some y := ⟨_, List.getElem?_eq_getElem hkL⟩
        obtain ⟨v0, v1, v2, hnum, hy1, hy2, hy3, hb0, hb1, hb2, hb3⟩ := HL.out k y hy
        have hy' : L[k]'hkL = y := (List.getElem?_eq_some_iff.1 hy).2
        obtain ⟨y1, y2, y3, y4⟩ := y
        simp only at hnum hy1 hy2 hy3 hb3
        subst hy1 hy2 hy3
        have HNUM := Lib.hid hnum
        have HY' := Lib.hid hy'
        clear hnum hy hy'
        refine ⟨trivial, (callsIn_wide.2 (Unpack_ok (wr.heap.size + 1) _ (some ⟨wr.heap.size, 0, none⟩) nk ck 4 4 (rs.drop (8 * k)) entW [v0, v1, v2, y4] _ hdrop.out rfl ((unpCode_zero _ _).2 ⟨by decide, by simp [tot, entW]; omega⟩) HNUM.out ((hrd.out.alloc hnr _).mono (by omega)) HWS.out (by simp) hnc HCKM.out (by omega))).mono ?_⟩
        rintro e w5 ⟨A5, cv, rfl, hcv, hcvm, hrd5, hb5⟩
        have HB5 : Hid (Below wr.heap.size wr w5) := HA.out.trans (hb5.mono HA.out.size)
        obtain ⟨gv, ov, rfl, hgv, -⟩ := hrd5.plain (by simp)
        have HKV : Hid (∀ w', Below w5.heap.size w5 w' → w'.cell? ⟨gv, ov, none⟩ = some (.int .u64 (v0 : Int)) ∧ w'.cell? ⟨gv, ov + 1, none⟩ = some (.int .u64 (v1 : Int)) ∧ w'.cell? ⟨gv, ov + 2, none⟩ = some (.int .u64 (v2 : Int)) ∧ w'.cell? ⟨gv, ov + 3, none⟩ = some (.int .u64 (y4 : Int))) := fun w' hb => by
          have hc := hrd5.below hb
          refine ⟨?_, ?_, ?_, ?_⟩
          · obtain ⟨ad, e, _, hc⟩ := hc 0 _ rfl; cases e; rwa [add_plain] at hc
          · obtain ⟨ad, e, _, hc⟩ := hc 1 _ rfl; cases e; rwa [add_plain] at hc
          · obtain ⟨ad, e, _, hc⟩ := hc 2 _ rfl; cases e; rwa [add_plain] at hc
          · obtain ⟨ad, e, _, hc⟩ := hc 3 _ rfl; cases e; rwa [add_plain] at hc
        clear hrd5 hb5 hcv hcvm hrd HA HWS
        gi_wp2_with fail
        refine wpIn_region_tail (by kernel_rfl) 21 44 slotE4 waitE4 (leaveE4 l0 gv ov cv v0 v1 v2 y4) rfl
          (by kernel_rfl) (fun i v w w' _ _ h => by unfold leaveE4 at *; split at h <;> exact h) ?_ ?_
        · intro i hi
          match i, hi with
          | 0, _ =>
            intro o ho a wc hk hb hd K hK
            cases ho
            have e0 := hk.rest 6 (.int .i64 0) (by omega) (by kernel_rfl) rfl
            rw [Array.getD_eq_getD_getElem?] at e0
            go_simp
            exact hK _ _ (Below.refl _ _) rfl
          | 1, _ =>
            intro o ho a wc hk hb hd K hK
            cases ho
            have e0 := hd 0 (by simp [waitE4])
            simp only [leaveE4, slotE4, Nat.reduceAdd, Array.getD_eq_getD_getElem?] at e0
            go_simp
            exact hK _ _ (Below.refl _ _) rfl
          | 2, _ =>
            intro o ho a wc hk hb hd K hK
            cases ho
            have e0 := hd 1 (by simp [waitE4])
            simp only [leaveE4, slotE4, Nat.reduceAdd, Array.getD_eq_getD_getElem?] at e0
            go_simp
            exact hK _ _ (Below.refl _ _) rfl
          | 3, _ =>
            intro o ho a wc hk hb hd K hK
            cases ho
            have e0 := hk.rest 0 (.func (.yield l0) #[] #[]) (by omega) (by kernel_rfl) rfl
            rw [Array.getD_eq_getD_getElem?] at e0
            have e1 := hd 2 (by simp [waitE4])
            simp only [leaveE4, slotE4, Nat.reduceAdd, Array.getD_eq_getD_getElem?] at e1
            have gs := hk.some_ (s := 19) (by omega) e1
            go_simp
            exact hK _ _ (Below.refl _ _) rfl
          | 4, _ =>
            intro o ho a wc hk hb hd K hK
            cases ho
            have e0 := hk.rest 5 (.slice (some ⟨gv, ov, none⟩) 4 cv) (by omega) (by kernel_rfl) rfl
            rw [Array.getD_eq_getD_getElem?] at e0
            have e1 := hd 2 (by simp [waitE4])
            simp only [leaveE4, slotE4, Nat.reduceAdd, Array.getD_eq_getD_getElem?] at e1
            have gs := hk.some_ (s := 19) (by omega) e1
            go_simp
            exact hK _ _ (Below.refl _ _) rfl
          | 5, _ =>
            intro o ho a wc hk hb hd K hK
            cases ho
            have e0 := hd 2 (by simp [waitE4])
            have e1 := hd 4 (by simp [waitE4])
            simp only [leaveE4, slotE4, Nat.reduceAdd, Array.getD_eq_getD_getElem?] at e0 e1
            have gs := hk.some_ (s := 19) (by omega) e0
            go_simp
            exact hK _ _ (Below.refl _ _) rfl
          | 6, _ =>
            intro o ho a wc hk hb hd K hK
            cases ho
            have e0 := hd 2 (by simp [waitE4])
            have e1 := hd 5 (by simp [waitE4])
            simp only [leaveE4, slotE4, Nat.reduceAdd, Array.getD_eq_getD_getElem?] at e0 e1
            have gs := hk.some_ (s := 19) (by omega) e0
            obtain ⟨c0, c1, c2, c3⟩ := HKV.out _ hb
            go_simp
            exact hK _ _ (Below.refl _ _) rfl
          | 7, _ =>
            intro o ho a wc hk hb hd K hK
            cases ho
            have e0 := hd 2 (by simp [waitE4])
            have e1 := hd 6 (by simp [waitE4])
            simp only [leaveE4, slotE4, Nat.reduceAdd, Array.getD_eq_getD_getElem?] at e0 e1
            have gs := hk.some_ (s := 19) (by omega) e0
            go_simp
            go_bits
            exact hK _ _ (Below.refl _ _) rfl
          | 8, _ =>
            intro o ho a wc hk hb hd K hK
            cases ho
            have e0 := hk.rest 5 (.slice (some ⟨gv, ov, none⟩) 4 cv) (by omega) (by kernel_rfl) rfl
            rw [Array.getD_eq_getD_getElem?] at e0
            have e1 := hd 2 (by simp [waitE4])
            simp only [leaveE4, slotE4, Nat.reduceAdd, Array.getD_eq_getD_getElem?] at e1
            have gs := hk.some_ (s := 19) (by omega) e1
            go_simp
            exact hK _ _ (Below.refl _ _) rfl
          | 9, _ =>
            intro o ho a wc hk hb hd K hK
            cases ho
            have e0 := hd 2 (by simp [waitE4])
            have e1 := hd 8 (by simp [waitE4])
            simp only [leaveE4, slotE4, Nat.reduceAdd, Array.getD_eq_getD_getElem?] at e0 e1
            have gs := hk.some_ (s := 19) (by omega) e0
            go_simp
            exact hK _ _ (Below.refl _ _) rfl
          | 10, _ =>
            intro o ho a wc hk hb hd K hK
            cases ho
            have e0 := hd 2 (by simp [waitE4])
            have e1 := hd 9 (by simp [waitE4])
            simp only [leaveE4, slotE4, Nat.reduceAdd, Array.getD_eq_getD_getElem?] at e0 e1
            have gs := hk.some_ (s := 19) (by omega) e0
            obtain ⟨c0, c1, c2, c3⟩ := HKV.out _ hb
            go_simp
            exact hK _ _ (Below.refl _ _) rfl
          | 11, _ =>
            intro o ho a wc hk hb hd K hK
            cases ho
            have e0 := hd 2 (by simp [waitE4])
            have e1 := hd 10 (by simp [waitE4])
            simp only [leaveE4, slotE4, Nat.reduceAdd, Array.getD_eq_getD_getElem?] at e0 e1
            have gs := hk.some_ (s := 19) (by omega) e0
            go_simp
            go_bits
            exact hK _ _ (Below.refl _ _) rfl
          | 12, _ =>
            intro o ho a wc hk hb hd K hK
            cases ho
            have e0 := hk.rest 5 (.slice (some ⟨gv, ov, none⟩) 4 cv) (by omega) (by kernel_rfl) rfl
            rw [Array.getD_eq_getD_getElem?] at e0
            have e1 := hd 2 (by simp [waitE4])
            simp only [leaveE4, slotE4, Nat.reduceAdd, Array.getD_eq_getD_getElem?] at e1
            have gs := hk.some_ (s := 19) (by omega) e1
            go_simp
            exact hK _ _ (Below.refl _ _) rfl
          | 13, _ =>
            intro o ho a wc hk hb hd K hK
            cases ho
            have e0 := hd 2 (by simp [waitE4])
            have e1 := hd 12 (by simp [waitE4])
            simp only [leaveE4, slotE4, Nat.reduceAdd, Array.getD_eq_getD_getElem?] at e0 e1
            have gs := hk.some_ (s := 19) (by omega) e0
            go_simp
            exact hK _ _ (Below.refl _ _) rfl
          | 14, _ =>
            intro o ho a wc hk hb hd K hK
            cases ho
            have e0 := hd 2 (by simp [waitE4])
            have e1 := hd 13 (by simp [waitE4])
            simp only [leaveE4, slotE4, Nat.reduceAdd, Array.getD_eq_getD_getElem?] at e0 e1
            have gs := hk.some_ (s := 19) (by omega) e0
            obtain ⟨c0, c1, c2, c3⟩ := HKV.out _ hb
            go_simp
            exact hK _ _ (Below.refl _ _) rfl
          | 15, _ =>
            intro o ho a wc hk hb hd K hK
            cases ho
            have e0 := hd 2 (by simp [waitE4])
            have e1 := hd 14 (by simp [waitE4])
            simp only [leaveE4, slotE4, Nat.reduceAdd, Array.getD_eq_getD_getElem?] at e0 e1
            have gs := hk.some_ (s := 19) (by omega) e0
            go_simp
            go_bits
            exact hK _ _ (Below.refl _ _) rfl
          | 16, _ =>
            intro o ho a wc hk hb hd K hK
            cases ho
            have e0 := hk.rest 5 (.slice (some ⟨gv, ov, none⟩) 4 cv) (by omega) (by kernel_rfl) rfl
            rw [Array.getD_eq_getD_getElem?] at e0
            have e1 := hd 2 (by simp [waitE4])
            simp only [leaveE4, slotE4, Nat.reduceAdd, Array.getD_eq_getD_getElem?] at e1
            have gs := hk.some_ (s := 19) (by omega) e1
            go_simp
            exact hK _ _ (Below.refl _ _) rfl
          | 17, _ =>
            intro o ho a wc hk hb hd K hK
            cases ho
            have e0 := hd 2 (by simp [waitE4])
            have e1 := hd 16 (by simp [waitE4])
            simp only [leaveE4, slotE4, Nat.reduceAdd, Array.getD_eq_getD_getElem?] at e0 e1
            have gs := hk.some_ (s := 19) (by omega) e0
            go_simp
            exact hK _ _ (Below.refl _ _) rfl
          | 18, _ =>
            intro o ho a wc hk hb hd K hK
            cases ho
            have e0 := hd 2 (by simp [waitE4])
            have e1 := hd 17 (by simp [waitE4])
            simp only [leaveE4, slotE4, Nat.reduceAdd, Array.getD_eq_getD_getElem?] at e0 e1
            have gs := hk.some_ (s := 19) (by omega) e0
            obtain ⟨c0, c1, c2, c3⟩ := HKV.out _ hb
            go_simp
            exact hK _ _ (Below.refl _ _) rfl
          | 19, _ =>
            intro o ho a wc hk hb hd K hK
            cases ho
            have e0 := hd 2 (by simp [waitE4])
            have e1 := hd 18 (by simp [waitE4])
            simp only [leaveE4, slotE4, Nat.reduceAdd, Array.getD_eq_getD_getElem?] at e0 e1
            have gs := hk.some_ (s := 19) (by omega) e0
            go_simp
            go_bits
            exact hK _ _ (Below.refl _ _) rfl
          | 20, _ =>
            intro o ho a wc hk hb hd K hK
            cases ho
            have e0 := hd 2 (by simp [waitE4])
            have e1 := hd 7 (by simp [waitE4])
            have e2 := hd 11 (by simp [waitE4])
            have e3 := hd 15 (by simp [waitE4])
            have e4 := hd 19 (by simp [waitE4])
            simp only [leaveE4, slotE4, Nat.reduceAdd, Array.getD_eq_getD_getElem?] at e0 e1 e2 e3 e4
            have gs := hk.some_ (s := 19) (by omega) e0
            go_simp
            exact hK _ _ (Below.refl _ _) rfl
          | _ + 21, h => exact absurd h (by omega)
        · intro vals w2 hb hR
          have v0 := hR 0 (by omega)
          have v1 := hR 1 (by omega)
          have v2 := hR 2 (by omega)
          have v3 := hR 3 (by omega)
          have v4 := hR 4 (by omega)
          have v5 := hR 5 (by omega)
          have v6 := hR 6 (by omega)
          have v7 := hR 7 (by omega)
          have v8 := hR 8 (by omega)
          have v9 := hR 9 (by omega)
          have v10 := hR 10 (by omega)
          have v11 := hR 11 (by omega)
          have v12 := hR 12 (by omega)
          have v13 := hR 13 (by omega)
          have v14 := hR 14 (by omega)
          have v15 := hR 15 (by omega)
          have v16 := hR 16 (by omega)
          have v17 := hR 17 (by omega)
          have v18 := hR 18 (by omega)
          have v19 := hR 19 (by omega)
          have v20 := hR 20 (by omega)
          simp only [leaveE4] at v0 v1 v2 v3 v4 v5 v6 v7 v8 v9 v10 v11 v12 v13 v14 v15 v16 v17 v18 v19 v20
          clear hR
          simp only [putAll, slotE4, Nat.reduceAdd, List.setIfInBounds_toArray, List.set_cons_zero, List.set_cons_succ, List.drop_succ_cons, List.drop_zero, v0, v1, v2, v3, v4, v5, v6, v7, v8, v9, v10, v11, v12, v13, v14, v15, v16, v17, v18, v19, v20]
          clear v0 v1 v2 v3 v4 v5 v6 v7 v8 v9 v10 v11 v12 v13 v14 v15 v16 v17 v18 v19 v20
          have HB6 : Hid (Below wr.heap.size wr w2) := HB5.out.trans (hb.mono HB5.out.size)
          obtain ⟨fn, tmps, assign, body, hyl, hR⟩ := HY.out _ ⟨k, hkL⟩ w2 (AbidesFrom.up (B := W.heap.size) HJ.out HJk.out HB6.out) (by rw [List.length_take]; omega)
          simp only [enF, enG, HY'.out] at hyl
          clear hb HKV
          gi_wp2_with fail
          refine hR.mono ?_
          rintro e W3 (⟨rfl, hJ3, hk3⟩ | ⟨rfl, hJx3⟩)
          · have HR3 : Hid (J ((List.finRange L.length).take (k + 1)) W3 ∧ Below n₀ W W3 ∧ W.heap.size ≤ W3.heap.size) :=
              ⟨by rw [finTake_succ _ _ hkL]; exact hJ3, (HB.out.trans (HB6.out.mono hnr)).trans hk3, by have h1 := HZ.out; have h2 := HB6.out.size; have h3 := hk3.size; omega⟩
            clear hJ3 hk3 hyl hR
            gi_wp2
            go_roundw
            case rel =>
              by_cases h8 : ck = 8
              · exact ⟨k + 1, ok, nk - 8, ck - 8, by omega, by omega, by go_num, by rw [if_pos h8], .inl (by omega), by omega, by have := HCK.out; show _ = _; omega, HR3.out.1, HR3.out.2.1, HR3.out.2.2⟩
              · exact ⟨k + 1, ok + 8, nk - 8, ck - 8, by omega, by omega, by go_num, by rw [if_neg h8], HOK.out.imp (fun h => by omega) (fun h => by omega), by omega, by have := HCK.out; show _ = _; omega, HR3.out.1, HR3.out.2.1, HR3.out.2.2⟩
            case measure => simp [intOf]; omega
          · gi_wp2
            refine bodyPost_ret (results_none rfl _ _ _) rfl ?_
            exact ⟨⟨_, rfl⟩, .inr ⟨_, trivial, hJx3⟩⟩
      · obtain rfl : k = 14 := by omega
        obtain rfl : nk = 0 := by omega
        refine ⟨trivial, (callsIn_wide.2 (Unpack_bad (wr.heap.size + 1) _ (some ⟨wr.heap.size, 0, none⟩) 0 ck 4 4 [] entW 2 _ rfl rfl (by decide) (by decide) Rd.nil_ HWS.out (by simp) hnc HCKM.out (by omega))).mono ?_⟩
        rintro e w5 ⟨rfl, hb5⟩
        have HB5 : Hid (Below wr.heap.size wr w5) := HA.out.trans (hb5.mono HA.out.size)
        clear hb5 HWS HA hrd hdrop
        gi_wp2_with fail
        refine wpIn_region_tail (by kernel_rfl) 21 44 slotE5 waitE5 (leaveE5 ()) rfl
          (by kernel_rfl) (fun i v w w' _ _ h => by unfold leaveE5 at *; split at h <;> exact h) ?_ ?_
        · intro i hi
          match i, hi with
          | 0, _ =>
            intro o ho a wc hk hb hd K hK
            cases ho
            have e0 := hk.rest 6 (.int .i64 2) (by omega) (by kernel_rfl) rfl
            rw [Array.getD_eq_getD_getElem?] at e0
            go_simp
            exact hK _ _ (Below.refl _ _) rfl
          | 1, _ =>
            intro o ho a wc hk hb hd K hK
            cases ho
            have e0 := hd 0 (by simp [waitE5])
            simp only [leaveE5, slotE5, Nat.reduceAdd, Array.getD_eq_getD_getElem?] at e0
            go_simp
            exact hK _ _ (Below.refl _ _) rfl
          | 2, _ =>
            intro o ho a wc hk hb hd K hK
            cases ho
            have e0 := hd 1 (by simp [waitE5])
            simp only [leaveE5, slotE5, Nat.reduceAdd, Array.getD_eq_getD_getElem?] at e0
            go_simp
            exact hK _ _ (Below.refl _ _) rfl
          | 3, _ =>
            intro o ho a wc hk hb hd K hK
            cases ho
            have e0 := hk.rest 0 (.func (.yield l0) #[] #[]) (by omega) (by kernel_rfl) rfl
            rw [Array.getD_eq_getD_getElem?] at e0
            have e1 := hd 2 (by simp [waitE5])
            simp only [leaveE5, slotE5, Nat.reduceAdd, Array.getD_eq_getD_getElem?] at e1
            have gs := hk.some_ (s := 19) (by omega) e1
            go_simp
            exact hK _ _ (Below.refl _ _) rfl
          | 4, _ =>
            intro o ho a wc hk hb hd K hK
            cases ho
            have e0 := hk.rest 5 (.slice none 0 0) (by omega) (by kernel_rfl) rfl
            rw [Array.getD_eq_getD_getElem?] at e0
            have e1 := hd 2 (by simp [waitE5])
            simp only [leaveE5, slotE5, Nat.reduceAdd, Array.getD_eq_getD_getElem?] at e1
            have gs := hk.some_ (s := 19) (by omega) e1
            go_simp
            exact hK _ _ (Below.refl _ _) rfl
          | 5, _ =>
            intro o ho a wc hk hb hd K hK
            cases ho
            have e0 := hd 2 (by simp [waitE5])
            have e1 := hd 4 (by simp [waitE5])
            simp only [leaveE5, slotE5, Nat.reduceAdd, Array.getD_eq_getD_getElem?] at e0 e1
            have gs := hk.some_ (s := 19) (by omega) e0
            go_simp
            exact hK _ _ (Below.refl _ _) rfl
          | 6, _ =>
            intro o ho a wc hk hb hd K hK
            cases ho
            have e0 := hd 2 (by simp [waitE5])
            have e1 := hd 5 (by simp [waitE5])
            simp only [leaveE5, slotE5, Nat.reduceAdd, Array.getD_eq_getD_getElem?] at e0 e1
            have gs := hk.some_ (s := 19) (by omega) e0
            go_simp
            exact hK _ _ (Below.refl _ _) rfl
          | 7, _ =>
            intro o ho a wc hk hb hd K hK
            cases ho
            have e0 := hd 2 (by simp [waitE5])
            have e1 := hd 6 (by simp [waitE5])
            simp only [leaveE5, slotE5, Nat.reduceAdd, Array.getD_eq_getD_getElem?] at e0 e1
            have gs := hk.some_ (s := 19) (by omega) e0
            go_simp
            exact hK _ _ (Below.refl _ _) rfl
          | 8, _ =>
            intro o ho a wc hk hb hd K hK
            cases ho
            have e0 := hk.rest 5 (.slice none 0 0) (by omega) (by kernel_rfl) rfl
            rw [Array.getD_eq_getD_getElem?] at e0
            have e1 := hd 2 (by simp [waitE5])
            simp only [leaveE5, slotE5, Nat.reduceAdd, Array.getD_eq_getD_getElem?] at e1
            have gs := hk.some_ (s := 19) (by omega) e1
            go_simp
            exact hK _ _ (Below.refl _ _) rfl
          | 9, _ =>
            intro o ho a wc hk hb hd K hK
            cases ho
            have e0 := hd 2 (by simp [waitE5])
            have e1 := hd 8 (by simp [waitE5])
            simp only [leaveE5, slotE5, Nat.reduceAdd, Array.getD_eq_getD_getElem?] at e0 e1
            have gs := hk.some_ (s := 19) (by omega) e0
            go_simp
            exact hK _ _ (Below.refl _ _) rfl
          | 10, _ =>
            intro o ho a wc hk hb hd K hK
            cases ho
            have e0 := hd 2 (by simp [waitE5])
            have e1 := hd 9 (by simp [waitE5])
            simp only [leaveE5, slotE5, Nat.reduceAdd, Array.getD_eq_getD_getElem?] at e0 e1
            have gs := hk.some_ (s := 19) (by omega) e0
            go_simp
            exact hK _ _ (Below.refl _ _) rfl
          | 11, _ =>
            intro o ho a wc hk hb hd K hK
            cases ho
            have e0 := hd 2 (by simp [waitE5])
            have e1 := hd 10 (by simp [waitE5])
            simp only [leaveE5, slotE5, Nat.reduceAdd, Array.getD_eq_getD_getElem?] at e0 e1
            have gs := hk.some_ (s := 19) (by omega) e0
            go_simp
            exact hK _ _ (Below.refl _ _) rfl
          | 12, _ =>
            intro o ho a wc hk hb hd K hK
            cases ho
            have e0 := hk.rest 5 (.slice none 0 0) (by omega) (by kernel_rfl) rfl
            rw [Array.getD_eq_getD_getElem?] at e0
            have e1 := hd 2 (by simp [waitE5])
            simp only [leaveE5, slotE5, Nat.reduceAdd, Array.getD_eq_getD_getElem?] at e1
            have gs := hk.some_ (s := 19) (by omega) e1
            go_simp
            exact hK _ _ (Below.refl _ _) rfl
          | 13, _ =>
            intro o ho a wc hk hb hd K hK
            cases ho
            have e0 := hd 2 (by simp [waitE5])
            have e1 := hd 12 (by simp [waitE5])
            simp only [leaveE5, slotE5, Nat.reduceAdd, Array.getD_eq_getD_getElem?] at e0 e1
            have gs := hk.some_ (s := 19) (by omega) e0
            go_simp
            exact hK _ _ (Below.refl _ _) rfl
          | 14, _ =>
            intro o ho a wc hk hb hd K hK
            cases ho
            have e0 := hd 2 (by simp [waitE5])
            have e1 := hd 13 (by simp [waitE5])
            simp only [leaveE5, slotE5, Nat.reduceAdd, Array.getD_eq_getD_getElem?] at e0 e1
            have gs := hk.some_ (s := 19) (by omega) e0
            go_simp
            exact hK _ _ (Below.refl _ _) rfl
          | 15, _ =>
            intro o ho a wc hk hb hd K hK
            cases ho
            have e0 := hd 2 (by simp [waitE5])
            have e1 := hd 14 (by simp [waitE5])
            simp only [leaveE5, slotE5, Nat.reduceAdd, Array.getD_eq_getD_getElem?] at e0 e1
            have gs := hk.some_ (s := 19) (by omega) e0
            go_simp
            exact hK _ _ (Below.refl _ _) rfl
          | 16, _ =>
            intro o ho a wc hk hb hd K hK
            cases ho
            have e0 := hk.rest 5 (.slice none 0 0) (by omega) (by kernel_rfl) rfl
            rw [Array.getD_eq_getD_getElem?] at e0
            have e1 := hd 2 (by simp [waitE5])
            simp only [leaveE5, slotE5, Nat.reduceAdd, Array.getD_eq_getD_getElem?] at e1
            have gs := hk.some_ (s := 19) (by omega) e1
            go_simp
            exact hK _ _ (Below.refl _ _) rfl
          | 17, _ =>
            intro o ho a wc hk hb hd K hK
            cases ho
            have e0 := hd 2 (by simp [waitE5])
            have e1 := hd 16 (by simp [waitE5])
            simp only [leaveE5, slotE5, Nat.reduceAdd, Array.getD_eq_getD_getElem?] at e0 e1
            have gs := hk.some_ (s := 19) (by omega) e0
            go_simp
            exact hK _ _ (Below.refl _ _) rfl
          | 18, _ =>
            intro o ho a wc hk hb hd K hK
            cases ho
            have e0 := hd 2 (by simp [waitE5])
            have e1 := hd 17 (by simp [waitE5])
            simp only [leaveE5, slotE5, Nat.reduceAdd, Array.getD_eq_getD_getElem?] at e0 e1
            have gs := hk.some_ (s := 19) (by omega) e0
            go_simp
            exact hK _ _ (Below.refl _ _) rfl
          | 19, _ =>
            intro o ho a wc hk hb hd K hK
            cases ho
            have e0 := hd 2 (by simp [waitE5])
            have e1 := hd 18 (by simp [waitE5])
            simp only [leaveE5, slotE5, Nat.reduceAdd, Array.getD_eq_getD_getElem?] at e0 e1
            have gs := hk.some_ (s := 19) (by omega) e0
            go_simp
            exact hK _ _ (Below.refl _ _) rfl
          | 20, _ =>
            intro o ho a wc hk hb hd K hK
            cases ho
            have e0 := hd 2 (by simp [waitE5])
            have e1 := hd 7 (by simp [waitE5])
            have e2 := hd 11 (by simp [waitE5])
            have e3 := hd 15 (by simp [waitE5])
            have e4 := hd 19 (by simp [waitE5])
            simp only [leaveE5, slotE5, Nat.reduceAdd, Array.getD_eq_getD_getElem?] at e0 e1 e2 e3 e4
            have gs := hk.some_ (s := 19) (by omega) e0
            go_simp
            exact hK _ _ (Below.refl _ _) rfl
          | _ + 21, h => exact absurd h (by omega)
        · intro vals w2 hb hR
          have v0 := hR 0 (by omega)
          have v1 := hR 1 (by omega)
          have v2 := hR 2 (by omega)
          have v3 := hR 3 (by omega)
          have v4 := hR 4 (by omega)
          have v5 := hR 5 (by omega)
          have v6 := hR 6 (by omega)
          have v7 := hR 7 (by omega)
          have v8 := hR 8 (by omega)
          have v9 := hR 9 (by omega)
          have v10 := hR 10 (by omega)
          have v11 := hR 11 (by omega)
          have v12 := hR 12 (by omega)
          have v13 := hR 13 (by omega)
          have v14 := hR 14 (by omega)
          have v15 := hR 15 (by omega)
          have v16 := hR 16 (by omega)
          have v17 := hR 17 (by omega)
          have v18 := hR 18 (by omega)
          have v19 := hR 19 (by omega)
          have v20 := hR 20 (by omega)
          simp only [leaveE5] at v0 v1 v2 v3 v4 v5 v6 v7 v8 v9 v10 v11 v12 v13 v14 v15 v16 v17 v18 v19 v20
          clear hR
          simp only [putAll, slotE5, Nat.reduceAdd, List.setIfInBounds_toArray, List.set_cons_zero, List.set_cons_succ, List.drop_succ_cons, List.drop_zero, v0, v1, v2, v3, v4, v5, v6, v7, v8, v9, v10, v11, v12, v13, v14, v15, v16, v17, v18, v19, v20]
          clear v0 v1 v2 v3 v4 v5 v6 v7 v8 v9 v10 v11 v12 v13 v14 v15 v16 v17 v18 v19 v20
          have HJ6 : Hid (J (List.finRange L.length) w2) := by
            have h := AbidesFrom.up (B := W.heap.size) HJ.out HJk.out (HB5.out.trans (hb.mono HB5.out.size))
            rwa [List.take_of_length_le (by simp; have := HLL.out; omega)] at h
          clear hb
          gi_wp2
          refine ⟨fun _ h => (by cases h), ?_⟩
          gi_wp2
          refine bodyPost_ret (results_none rfl _ _ _) rfl ?_
          exact ⟨⟨_, rfl⟩, .inl ⟨_, rfl, HJ6.out⟩⟩
    · obtain rfl : k = cnt := by omega
      gi_wp2
      go_end0
      exact ⟨⟨_, rfl⟩, .inl ⟨_, rfl, by have h := HJk.out; rwa [List.take_of_length_le (by simp; have := HLL.out; omega)] at h⟩⟩

theorem entries_stops (d B1 B2 n₀ b o c cnt : Nat) (rs : List UInt8) (L : List En) (w : World) (hd : 1 ≤ d)
    (hrs : rs.length = 112) (hc : 112 ≤ c) (hcm : c ≤ maxLen) (hcnt : cnt < 256) (hLn : L.length = min cnt 14) (hL : EntsIn rs L)
    (hB1 : Bk w B1 26 #[.slice (some ⟨b, o, none⟩) 112 c]) (hB2 : Bk w B2 3 #[.int .i64 (cnt : Int)]) (hn₀ : n₀ ≤ w.heap.size) (hr : Rd w n₀ (some ⟨b, o, none⟩) (rs.map bv)) :
    SeqStopsK Fence.wide d Tryd.prog 45 #[.pointer (some ⟨B1, 0, none⟩), .pointer (some ⟨B2, 0, none⟩)] (enF L) (Below n₀) (fun xs => xs = List.finRange L.length) (fun _ => True) (min cnt 14) w := fun l0 J Jx W hW hJ hJx hY h0 =>
  entries1_in d l0 B1 B2 n₀ b o c cnt rs L J Jx W hd hrs hc hcm hcnt hLn hL hJ hY ((hB1.below hW hB1.lt).cell 0) ((hB2.below hW hB2.lt).cell 0) (Nat.le_trans hn₀ hW.size) (hr.below (hW.mono hn₀)) h0
end Go.Proofs.YtjibjojnkieliaaDoor
