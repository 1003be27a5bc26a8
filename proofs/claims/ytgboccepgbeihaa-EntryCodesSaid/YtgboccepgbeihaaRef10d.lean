/-
  What the document's answers of layer 10 are: the octets of entries. (Printed by wip/tools/ref10d.py.)
-/
import Derived.Test.YtgboccepgbeihaaRef10
import Derived.Test.YtgboccepgbeihaaRegTail
namespace Go.Proofs.Ytgboccepgbeihaa
open Go.RowKit
set_option maxRecDepth 100000
set_option linter.unusedVariables false

def slotED (i : Nat) : Nat := 11 + i
def waitED : Nat → List Nat
  | 3 => [1, 2]
  | 4 => [3]
  | 5 => [4]
  | 6 => [5]
  | 9 => [7, 8]
  | 10 => [9]
  | 11 => [10]
  | 12 => [11]
  | 15 => [13, 14]
  | 16 => [15]
  | 17 => [16]
  | 18 => [17]
  | 19 => [18]
  | 20 => [6, 12, 19]
  | 21 => [20]
  | 24 => [22, 23]
  | 25 => [24]
  | 26 => [25]
  | 27 => [21, 26]
  | 28 => [0, 27]
  | _ => []
def leaveED (b o n c k p q m : Nat) (O X P : ByteArray) : Nat → Value → World → Prop
  | 0, v, _ => v = .string O
  | 1, v, _ => v = .slice (some ⟨b, o, none⟩) n c
  | 2, v, _ => v = .int .i64 (k : Int)
  | 3, v, _ => v = .pointer (some ⟨b, o + k * 3, none⟩)
  | 4, v, _ => v = .pointer (some ⟨b, o + k * 3 + 1, none⟩)
  | 5, v, _ => v = .int .i64 (p : Int)
  | 6, v, _ => v = .int .u8 (p : Int)
  | 7, v, _ => v = .slice (some ⟨b, o, none⟩) n c
  | 8, v, _ => v = .int .i64 (k : Int)
  | 9, v, _ => v = .pointer (some ⟨b, o + k * 3, none⟩)
  | 10, v, _ => v = .pointer (some ⟨b, o + k * 3 + 2, none⟩)
  | 11, v, _ => v = .int .i64 (q : Int)
  | 12, v, _ => v = .int .u8 (q : Int)
  | 13, v, _ => v = .slice (some ⟨b, o, none⟩) n c
  | 14, v, _ => v = .int .i64 (k : Int)
  | 15, v, _ => v = .pointer (some ⟨b, o + k * 3, none⟩)
  | 16, v, _ => v = .pointer (some ⟨b, o + k * 3, none⟩)
  | 17, v, _ => v = .string X
  | 18, v, _ => v = .int .i64 (m : Int)
  | 19, v, _ => v = .int .u8 (m : Int)
  | 20, v, w => ∃ g, v = .slice (some ⟨g, 0, none⟩) 3 3 ∧ Bk w g 5 #[.int .u8 (p : Int), .int .u8 (q : Int), .int .u8 (m : Int)]
  | 21, v, _ => v = .string P
  | 22, v, _ => v = .slice (some ⟨b, o, none⟩) n c
  | 23, v, _ => v = .int .i64 (k : Int)
  | 24, v, _ => v = .pointer (some ⟨b, o + k * 3, none⟩)
  | 25, v, _ => v = .pointer (some ⟨b, o + k * 3, none⟩)
  | 26, v, _ => v = .string X
  | 27, v, _ => v = .string (P ++ X)
  | _, _, _ => True
theorem wrap_small {a : Nat} (h : a < 256) : IntKind.u8.wrap (a : Int) = (a : Int) := by
  simp [IntKind.wrap, IntKind.bits, IntKind.signed]
  omega
theorem encE_succ {l : List Et} {k : Nat} {x : Et} (h : l[k]? = some x) : encE (l.take (k + 1)) = encE (l.take k) ++ ent1 x := by
  rw [List.take_add_one, h]; simp [encE]
theorem ent1_len {x : Et} (h : okE x = true) : (ent1 x).length ≤ 27 := by
  have := isT_len (ok_name h).1
  simp [ent1]; omega
theorem encE_len {l : List Et} (h : ∀ x ∈ l, okE x = true) : (encE l).length ≤ 27 * l.length := by
  induction l with
  | nil => exact Nat.le_refl _
  | cons x l ih =>
    have h1 := ent1_len (h x (by simp))
    have h2 := ih fun y hy => h y (by simp [hy])
    rw [show encE (x :: l) = ent1 x ++ encE l from rfl, List.length_append, List.length_cons]
    omega

set_option maxHeartbeats 8000000 in
theorem refEncode10_any (B : Nat) (A : Option Addr) (n c : Nat) (l : List Et) (w : World) (hl : l.length = n) (hn : n ≤ 1000000) (hr : Rd w B A (etsV l)) (hB : B ≤ w.heap.size) (hok : ∀ x ∈ l, okE x = true) :
    Calls Try.prog 15 #[.slice A n c] w fun e w' => e = .returned (.string (str (encE l))) ∧ Below w.heap.size w w' := by
  have HL := Lib.hid hl
  have HR0 := Lib.hid hr
  have HOK := Lib.hid hok
  clear hl hr hok
  go_enter Try.func15, Try.ntmps15
  go_wp2
  go_loopw [3, 4] (fun u i wr => ∃ (k : Nat) (O : ByteArray), k ≤ n ∧ i = .int .i64 k ∧ u = .string O ∧ O.size ≤ 27 * k ∧ Hid (str (encE (l.take k)) = O) ∧ Hid (Below w.heap.size w wr)) (fun _ i _ => n - (intOf i).toNat)
  case atStart => exact ⟨0, ⟨#[]⟩, Nat.zero_le _, rfl, rfl, Nat.le_refl _, rfl, Below.refl _ _⟩
  case round =>
    obtain ⟨k, O, hk, rfl, rfl, hO, HO, HB⟩ := hrel
    by_cases hlt : k < n
    · obtain ⟨x, hx⟩ : ∃ x, l[k]? = some x := ⟨_, List.getElem?_eq_getElem (by rw [HL.out]; exact hlt)⟩
      obtain ⟨b, o, rfl, -, -⟩ := HR0.out.plain (by rw [etsV_length, HL.out]; omega)
      have hxo := HOK.out _ (List.mem_of_getElem? hx)
      obtain ⟨r1, r2, r3⟩ := (right_iff x).1 (ok_name hxo).2
      have r4 := isT_len (ok_name hxo).1
      have HE := encE_succ hx
      have hlen := encE_len (l := l.take (k + 1)) fun y hy => HOK.out y (List.mem_of_mem_take hy)
      have hcells := fun w' (hb : Below wr.heap.size wr w') => ets_at (HR0.out.below ((HB.out.trans (hb.mono HB.out.size)).mono hB)) hx
      obtain ⟨nm, i, t⟩ := x
      simp only at r1 r2 r3 r4 hcells
      obtain ⟨p, rfl⟩ : ∃ p : Nat, (p : Int) = i := ⟨i.toNat, by omega⟩
      obtain ⟨q, rfl⟩ : ∃ q : Nat, (q : Int) = t := ⟨t.toNat, by omega⟩
      obtain ⟨m, hm⟩ : ∃ m, nm.length = m := ⟨_, rfl⟩
      rw [hm] at r4
      have hp : (UInt8.ofNat p).toNat = p := by rw [UInt8.toNat_ofNat']; omega
      have hq : (UInt8.ofNat q).toNat = q := by rw [UInt8.toNat_ofNat']; omega
      have hmm : (UInt8.ofNat m).toNat = m := by rw [UInt8.toNat_ofNat']; omega
      obtain ⟨P, hP⟩ : ∃ P, str [UInt8.ofNat p, UInt8.ofNat q, UInt8.ofNat m] = P := ⟨_, rfl⟩
      have HCV : Hid (∀ w' g, Bk w' g 5 #[.int .u8 (p : Int), .int .u8 (q : Int), .int .u8 (m : Int)] → (convert 23 9 (.slice (some ⟨g, 0, none⟩) 3 3)).run Try.prog w' = .ok (.string P) w') := fun w' g hbk => by
        rw [← hP]
        refine run_conv 23 5 9 Try.underlying23 Try.underlying5 Try.underlying9 3 3 rfl (B := w'.heap.size) ?_
        have h := Rd.bk hbk
        have e : ([UInt8.ofNat p, UInt8.ofNat q, UInt8.ofNat m] : List UInt8).map bv = [.int .u8 (p : Int), .int .u8 (q : Int), .int .u8 (m : Int)] := by simp [bv, hp, hq, hmm]
        rw [e]
        exact h
      have hxs : (str nm).size = m := by rw [str_size]; exact hm
      have hps : P.size = 3 := by rw [← hP, str_size]; rfl
      have HEE : Hid (str (encE (l.take (k + 1))) = O ++ (P ++ str nm)) := by
        show _ = _
        rw [HE, ← HO.out, ← hP, str_append, str_append]
        have e1 : ((p : Nat) : Int).toNat = p := Int.toNat_natCast p
        have e2 : ((q : Nat) : Int).toNat = q := Int.toNat_natCast q
        simp only [ent1, e1, e2, hm]
      obtain ⟨X, hX⟩ : ∃ X, str nm = X := ⟨_, rfl⟩
      rw [hX] at HEE hxs hcells
      have HKX := Lib.hid hcells
      have HZS := Lib.hid hxs
      have HZP := Lib.hid hps
      have HWP : Hid (IntKind.u8.wrap (p : Int) = (p : Int)) := wrap_small (by omega)
      have HWQ : Hid (IntKind.u8.wrap (q : Int) = (q : Int)) := wrap_small (by omega)
      have HWM : Hid (IntKind.u8.wrap (m : Int) = (m : Int)) := wrap_small (by omega)
      have HZB : Hid (m ≤ 24) := r4.2
      have hfs : P.size + X.size ≤ 1000 := by omega
      have hos : O.size + (P.size + X.size) ≤ 4398046511104 := by omega
      have hfin : (O ++ (P ++ X)).size ≤ 27 * (k + 1) := by rw [ByteArray.size_append, ByteArray.size_append]; omega
      have hpx : (P ++ X).size = P.size + X.size := ByteArray.size_append
      clear hx hP hX HE hlen hcells hxo r3 hp hq hmm hm
      go_wp2_with fail
      refine wp_region_tail (by kernel_rfl) 28 41 slotED waitED (leaveED b o n c k p q m O X P) rfl
        (by kernel_rfl) (fun i v w w' _ hb h => by unfold leaveED at *; split at h <;> first | exact h | (obtain ⟨g, h1, h2⟩ := h; exact ⟨g, h1, h2.below hb h2.lt⟩)) ?_ ?_
      · intro i hi
        match i, hi with
        | 0, _ =>
          intro o ho a wc hk hb hd K hK
          cases ho
          have e0 := hk.rest 3 (.string O) (by omega) (by kernel_rfl) rfl
          rw [Array.getD_eq_getD_getElem?] at e0
          go_simp
          exact hK _ _ (Below.refl _ _) rfl
        | 1, _ =>
          intro o ho a wc hk hb hd K hK
          cases ho
          have e0 := hk.rest 0 (.slice (some ⟨b, o, none⟩) n c) (by omega) (by kernel_rfl) rfl
          rw [Array.getD_eq_getD_getElem?] at e0
          go_simp
          exact hK _ _ (Below.refl _ _) rfl
        | 2, _ =>
          intro o ho a wc hk hb hd K hK
          cases ho
          have e0 := hk.rest 4 (.int .i64 (k : Int)) (by omega) (by kernel_rfl) rfl
          rw [Array.getD_eq_getD_getElem?] at e0
          go_simp
          exact hK _ _ (Below.refl _ _) rfl
        | 3, _ =>
          intro o ho a wc hk hb hd K hK
          cases ho
          have e0 := hd 1 (by simp [waitED])
          have e1 := hd 2 (by simp [waitED])
          simp only [leaveED, slotED, Nat.reduceAdd, Array.getD_eq_getD_getElem?] at e0 e1
          go_simp
          exact hK _ _ (Below.refl _ _) rfl
        | 4, _ =>
          intro o ho a wc hk hb hd K hK
          cases ho
          have e0 := hd 3 (by simp [waitED])
          simp only [leaveED, slotED, Nat.reduceAdd, Array.getD_eq_getD_getElem?] at e0
          go_simp
          exact hK _ _ (Below.refl _ _) rfl
        | 5, _ =>
          intro o ho a wc hk hb hd K hK
          cases ho
          have e0 := hd 4 (by simp [waitED])
          simp only [leaveED, slotED, Nat.reduceAdd, Array.getD_eq_getD_getElem?] at e0
          obtain ⟨c0, c1, c2⟩ := HKX.out _ hb
          go_simp
          exact hK _ _ (Below.refl _ _) rfl
        | 6, _ =>
          intro o ho a wc hk hb hd K hK
          cases ho
          have e0 := hd 5 (by simp [waitED])
          simp only [leaveED, slotED, Nat.reduceAdd, Array.getD_eq_getD_getElem?] at e0
          have hw := HWP.out
          go_simp
          exact hK _ _ (Below.refl _ _) rfl
        | 7, _ =>
          intro o ho a wc hk hb hd K hK
          cases ho
          have e0 := hk.rest 0 (.slice (some ⟨b, o, none⟩) n c) (by omega) (by kernel_rfl) rfl
          rw [Array.getD_eq_getD_getElem?] at e0
          go_simp
          exact hK _ _ (Below.refl _ _) rfl
        | 8, _ =>
          intro o ho a wc hk hb hd K hK
          cases ho
          have e0 := hk.rest 4 (.int .i64 (k : Int)) (by omega) (by kernel_rfl) rfl
          rw [Array.getD_eq_getD_getElem?] at e0
          go_simp
          exact hK _ _ (Below.refl _ _) rfl
        | 9, _ =>
          intro o ho a wc hk hb hd K hK
          cases ho
          have e0 := hd 7 (by simp [waitED])
          have e1 := hd 8 (by simp [waitED])
          simp only [leaveED, slotED, Nat.reduceAdd, Array.getD_eq_getD_getElem?] at e0 e1
          go_simp
          exact hK _ _ (Below.refl _ _) rfl
        | 10, _ =>
          intro o ho a wc hk hb hd K hK
          cases ho
          have e0 := hd 9 (by simp [waitED])
          simp only [leaveED, slotED, Nat.reduceAdd, Array.getD_eq_getD_getElem?] at e0
          go_simp
          exact hK _ _ (Below.refl _ _) rfl
        | 11, _ =>
          intro o ho a wc hk hb hd K hK
          cases ho
          have e0 := hd 10 (by simp [waitED])
          simp only [leaveED, slotED, Nat.reduceAdd, Array.getD_eq_getD_getElem?] at e0
          obtain ⟨c0, c1, c2⟩ := HKX.out _ hb
          go_simp
          exact hK _ _ (Below.refl _ _) rfl
        | 12, _ =>
          intro o ho a wc hk hb hd K hK
          cases ho
          have e0 := hd 11 (by simp [waitED])
          simp only [leaveED, slotED, Nat.reduceAdd, Array.getD_eq_getD_getElem?] at e0
          have hw := HWQ.out
          go_simp
          exact hK _ _ (Below.refl _ _) rfl
        | 13, _ =>
          intro o ho a wc hk hb hd K hK
          cases ho
          have e0 := hk.rest 0 (.slice (some ⟨b, o, none⟩) n c) (by omega) (by kernel_rfl) rfl
          rw [Array.getD_eq_getD_getElem?] at e0
          go_simp
          exact hK _ _ (Below.refl _ _) rfl
        | 14, _ =>
          intro o ho a wc hk hb hd K hK
          cases ho
          have e0 := hk.rest 4 (.int .i64 (k : Int)) (by omega) (by kernel_rfl) rfl
          rw [Array.getD_eq_getD_getElem?] at e0
          go_simp
          exact hK _ _ (Below.refl _ _) rfl
        | 15, _ =>
          intro o ho a wc hk hb hd K hK
          cases ho
          have e0 := hd 13 (by simp [waitED])
          have e1 := hd 14 (by simp [waitED])
          simp only [leaveED, slotED, Nat.reduceAdd, Array.getD_eq_getD_getElem?] at e0 e1
          go_simp
          exact hK _ _ (Below.refl _ _) rfl
        | 16, _ =>
          intro o ho a wc hk hb hd K hK
          cases ho
          have e0 := hd 15 (by simp [waitED])
          simp only [leaveED, slotED, Nat.reduceAdd, Array.getD_eq_getD_getElem?] at e0
          go_simp
          exact hK _ _ (Below.refl _ _) rfl
        | 17, _ =>
          intro o ho a wc hk hb hd K hK
          cases ho
          have e0 := hd 16 (by simp [waitED])
          simp only [leaveED, slotED, Nat.reduceAdd, Array.getD_eq_getD_getElem?] at e0
          obtain ⟨c0, c1, c2⟩ := HKX.out _ hb
          go_simp
          exact hK _ _ (Below.refl _ _) rfl
        | 18, _ =>
          intro o ho a wc hk hb hd K hK
          cases ho
          have e0 := hd 17 (by simp [waitED])
          simp only [leaveED, slotED, Nat.reduceAdd, Array.getD_eq_getD_getElem?] at e0
          have zs := HZS.out
          go_simp
          exact hK _ _ (Below.refl _ _) rfl
        | 19, _ =>
          intro o ho a wc hk hb hd K hK
          cases ho
          have e0 := hd 18 (by simp [waitED])
          simp only [leaveED, slotED, Nat.reduceAdd, Array.getD_eq_getD_getElem?] at e0
          have hw := HWM.out
          go_simp
          exact hK _ _ (Below.refl _ _) rfl
        | 20, _ =>
          intro o ho a wc hk hb hd K hK
          cases ho
          have e0 := hd 6 (by simp [waitED])
          have e1 := hd 12 (by simp [waitED])
          have e2 := hd 19 (by simp [waitED])
          simp only [leaveED, slotED, Nat.reduceAdd, Array.getD_eq_getD_getElem?] at e0 e1 e2
          go_simp
          exact hK _ _ ((Below.refl _ _).alloc (Nat.le_refl _) _) ⟨_, rfl, Bk.new _ _ _⟩
        | 21, _ =>
          intro o ho a wc hk hb hd K hK
          cases ho
          have e0 := hd 20 (by simp [waitED])
          simp only [leaveED, slotED, Nat.reduceAdd, Array.getD_eq_getD_getElem?] at e0
          obtain ⟨g, e0, hbk⟩ := e0
          have hcv := HCV.out _ _ hbk
          go_simp
          exact hK _ _ (Below.refl _ _) rfl
        | 22, _ =>
          intro o ho a wc hk hb hd K hK
          cases ho
          have e0 := hk.rest 0 (.slice (some ⟨b, o, none⟩) n c) (by omega) (by kernel_rfl) rfl
          rw [Array.getD_eq_getD_getElem?] at e0
          go_simp
          exact hK _ _ (Below.refl _ _) rfl
        | 23, _ =>
          intro o ho a wc hk hb hd K hK
          cases ho
          have e0 := hk.rest 4 (.int .i64 (k : Int)) (by omega) (by kernel_rfl) rfl
          rw [Array.getD_eq_getD_getElem?] at e0
          go_simp
          exact hK _ _ (Below.refl _ _) rfl
        | 24, _ =>
          intro o ho a wc hk hb hd K hK
          cases ho
          have e0 := hd 22 (by simp [waitED])
          have e1 := hd 23 (by simp [waitED])
          simp only [leaveED, slotED, Nat.reduceAdd, Array.getD_eq_getD_getElem?] at e0 e1
          go_simp
          exact hK _ _ (Below.refl _ _) rfl
        | 25, _ =>
          intro o ho a wc hk hb hd K hK
          cases ho
          have e0 := hd 24 (by simp [waitED])
          simp only [leaveED, slotED, Nat.reduceAdd, Array.getD_eq_getD_getElem?] at e0
          go_simp
          exact hK _ _ (Below.refl _ _) rfl
        | 26, _ =>
          intro o ho a wc hk hb hd K hK
          cases ho
          have e0 := hd 25 (by simp [waitED])
          simp only [leaveED, slotED, Nat.reduceAdd, Array.getD_eq_getD_getElem?] at e0
          obtain ⟨c0, c1, c2⟩ := HKX.out _ hb
          go_simp
          exact hK _ _ (Below.refl _ _) rfl
        | 27, _ =>
          intro o ho a wc hk hb hd K hK
          cases ho
          have e0 := hd 21 (by simp [waitED])
          have e1 := hd 26 (by simp [waitED])
          simp only [leaveED, slotED, Nat.reduceAdd, Array.getD_eq_getD_getElem?] at e0 e1
          have zs := HZS.out
          have zp := HZP.out
          have zb := HZB.out
          go_simp
          rw [if_neg (by omega)]
          go_simp
          exact hK _ _ (Below.refl _ _) rfl
        | _ + 28, h => exact absurd h (by omega)
      · intro vals w5 hb hR
        have v0 := hR 0 (by omega)
        have v1 := hR 1 (by omega)
        have v2 := hR 2 (by omega)
        have v3 := hR 3 (by omega)
        have v4 := hR 4 (by omega)
        have v5 := hR 5 (by omega)
        have v6 := hR 6 (by omega)
        have v7 := hR 7 (by omega)
        have v8 := hR 8 (by omega)
        have v9 := hR 9 (by omega)
        have v10 := hR 10 (by omega)
        have v11 := hR 11 (by omega)
        have v12 := hR 12 (by omega)
        have v13 := hR 13 (by omega)
        have v14 := hR 14 (by omega)
        have v15 := hR 15 (by omega)
        have v16 := hR 16 (by omega)
        have v17 := hR 17 (by omega)
        have v18 := hR 18 (by omega)
        have v19 := hR 19 (by omega)
        have v20 := hR 20 (by omega)
        have v21 := hR 21 (by omega)
        have v22 := hR 22 (by omega)
        have v23 := hR 23 (by omega)
        have v24 := hR 24 (by omega)
        have v25 := hR 25 (by omega)
        have v26 := hR 26 (by omega)
        have v27 := hR 27 (by omega)
        simp only [leaveED] at v0 v1 v2 v3 v4 v5 v6 v7 v8 v9 v10 v11 v12 v13 v14 v15 v16 v17 v18 v19 v20 v21 v22 v23 v24 v25 v26 v27
        clear hR
        simp only [putAll, slotED, Nat.reduceAdd, List.setIfInBounds_toArray, List.set_cons_zero, List.set_cons_succ, List.drop_succ_cons, List.drop_zero, v0, v1, v2, v3, v4, v5, v6, v7, v8, v9, v10, v11, v12, v13, v14, v15, v16, v17, v18, v19, v21, v22, v23, v24, v25, v26, v27]
        clear v0 v1 v2 v3 v4 v5 v6 v7 v8 v9 v10 v11 v12 v13 v14 v15 v16 v17 v18 v19 v21 v22 v23 v24 v25 v26 v27
        have HB5 := Lib.hid (HB.out.trans (hb.mono HB.out.size))
        clear hb v20
        go_wp2
        all_goals first | (exfalso; omega; done) | skip
        go_roundw
        case rel => exact ⟨k + 1, O ++ (P ++ X), by omega, by go_num, rfl, hfin, HEE.out, HB5.out⟩
        case measure => simp [intOf]; omega
    · obtain rfl : k = n := by omega
      have HE : Hid (O = str (encE l)) := by
        show _ = _
        rw [← HO.out, List.take_of_length_le (by rw [HL.out]; exact Nat.le_refl _)]
      go_wp2
      go_ret
      exact ⟨by rw [HE.out]; rfl, HB.out⟩
end Go.Proofs.Ytgboccepgbeihaa
