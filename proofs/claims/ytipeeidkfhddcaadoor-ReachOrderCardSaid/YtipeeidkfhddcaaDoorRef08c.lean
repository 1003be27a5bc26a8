/-
  What the document's answers Numbers, On, Count of layer 8 are.
-/
import Derived.Test.YtipeeidkfhddcaaDoorRef08b
import Derived.Test.YtipeeidkfhddcaaDoorReachOn
namespace Go.Proofs.YtipeeidkfhddcaaDoor
open Go.RowKit
set_option maxRecDepth 100000
set_option linter.unusedVariables false

/-- a slice of ints, of none too -/
def IntW (w : World) (l : List Int) (v : Value) : Prop := ∃ A n c, v = .slice A n c ∧ l.length = n ∧ n ≤ c ∧ c ≤ maxLen ∧ Rd w w.heap.size A (l.map iv)
theorem IntW.up {w w' : World} {l : List Int} {v : Value} (h : IntW w l v) (hb : Below w.heap.size w w') : IntW w' l v := by
  obtain ⟨A, n, c, rfl, h1, h2, h3, h4⟩ := h
  exact ⟨A, n, c, rfl, h1, h2, h3, (h4.below hb).mono hb.size⟩
theorem IntW.own {w : World} {base : Nat} {l : List Int} {v : Value} {n : Nat} (h : w.ownsRow base 3 1 v n (l.map iv)) : IntW w l v := by
  obtain ⟨A, c, rfl, h1, h2⟩ := own_len h
  have := h.1
  exact ⟨A, n, c, rfl, by simpa using this, h1, h2, Rd.own h⟩
theorem IntW.of {w : World} {l : List Int} {v : Value} (h : Ints w l v) : IntW w l v := by
  obtain ⟨A, n, c, h0, h1, h2, h3, h4, _⟩ := h
  exact ⟨A, n, c, h0, h1, h2, h3, h4⟩
/-- flags as cells -/
def flV (F : Nat → Bool) (n : Nat) : List Value := (List.range n).map fun m => .bool (F m)
theorem flV_get (F : Nat → Bool) (n k : Nat) (h : k < n) : (flV F n)[k]? = some (.bool (F k)) := by simp [flV, h]
theorem flV_length (F : Nat → Bool) (n : Nat) : (flV F n).length = n := by simp [flV]

set_option maxHeartbeats 2000000 in
theorem refNumbers8_any (B : Nat) (A : Option Addr) (n c : Nat) (F : Nat → Bool) (w : World) (hn : n ≤ 1000) (hr : Rd w B A (flV F n)) (hB : B ≤ w.heap.size) :
    Calls Tryd.prog 21 #[.slice A n c] w fun e w' => ∃ v, e = .returned v ∧ IntW w' (idxF F n) v ∧ Below w.heap.size w w' := by
  obtain ⟨i0, hi, hz0, hz1, hz2⟩ := info_parts info_int8
  have hi := Lib.hid hi
  have hz0 := Lib.hid hz0
  have hz1 := Lib.hid hz1
  have hz2 := Lib.hid hz2
  have HR := Lib.hid hr
  clear hr
  go_enter Tryd.func21, Tryd.ntmps21
  go_wp2
  go_loopw [3, 4] (fun r i wr => ∃ (k s : Nat), k ≤ n ∧ i = .int .i64 k ∧ s ≤ k ∧ Hid (wr.ownsRow w.heap.size 3 1 r s ((idxF F k).map iv)) ∧ Hid (Below w.heap.size w wr)) (fun _ i _ => n - (intOf i).toNat)
  case atStart => exact ⟨0, 0, Nat.zero_le _, rfl, Nat.le_refl _, ⟨rfl, .inl ⟨rfl, rfl⟩⟩, Below.refl _ _⟩
  case round =>
    obtain ⟨k, s, hk, rfl, hs, HOWN, HB⟩ := hrel
    obtain ⟨Ar, cr, hre, hcr, hcm⟩ := own_len HOWN.out
    subst hre
    by_cases hlt : k < n
    · obtain ⟨b, o, rfl, -, hc⟩ := (HR.out.below (HB.out.mono hB)).plain (by rw [flV_length]; omega)
      have c0 := hc k _ (flV_get F n k hlt)
      clear hc
      have HS := Lib.hid (idxF_succ F k)
      cases hf : F k with
      | false =>
        rw [hf] at c0
        have HE : Hid (idxF F (k + 1) = idxF F k) := by show _ = _; rw [HS.out, hf]; rfl
        clear hf
        go_wp2
        go_roundw
        case rel => exact ⟨k + 1, s, by omega, by go_num, by omega, by rw [HE.out]; exact HOWN.out, HB.out⟩
        case measure => simp [intOf]; omega
      | true =>
        rw [hf] at c0
        have HE : Hid (idxF F (k + 1) = idxF F k ++ [(k : Int)]) := by show _ = _; rw [HS.out, hf]; rfl
        have HOWN2 := Lib.hid (HOWN.out.alloc (.cells #[.int .i64 (k : Int)] 3))
        have HB2 := Lib.hid (HB.out.alloc HB.out.size (.cells #[.int .i64 (k : Int)] 3))
        have HN := Lib.hid (Rd.new wr 3 #[.int .i64 (k : Int)] (0, 0))
        clear hf
        go_wp2_with (at_builtin; refine wpList_append_rd _ rfl _ _ 22 rfl w.heap.size 3 i0 (.int .i64 0) 1 8 Tryd.underlying22 hi.out hz0.out hz1.out hz2.out rfl (by decide) _ _ _ rfl HOWN2.out (wr.heap.size + 1) (some ⟨wr.heap.size, 0, none⟩) 1 1 ([(k : Int)].map iv) rfl rfl HN.out ?c2 ?c3 ?c4 ?c5 ?_)
        case c2 => first | exact ints_one _ | rfl
        case c3 => unfold maxLen; omega
        case c4 => omega
        case c5 => have := HB.out.size; omega
        intro r' w6 hown6 hgrow
        have HB6 := Lib.hid (HB2.out.grown hgrow HB2.out.size (fun g hg => (HOWN2.out.lt g hg).1))
        have HOWN6 : Hid (w6.ownsRow w.heap.size 3 1 r' (s + 1) ((idxF F (k + 1)).map iv)) := by
          rw [HE.out, List.map_append]
          exact hown6
        clear hown6 hgrow HOWN2 HB2 HN HOWN HB c0
        go_wp2
        go_roundw
        case rel => exact ⟨k + 1, s + 1, by omega, by go_num, by omega, HOWN6.out, HB6.out⟩
        case measure => simp [intOf]; omega
    · obtain rfl : k = n := by omega
      go_wp2
      go_ret
      exact ⟨_, rfl, IntW.own HOWN.out, HB.out⟩

def flC (F : Nat → Bool) : Array Value := (flV F 258).toArray
def fl0 : Array Value := (List.replicate 258 (.bool false)).toArray
theorem fl0_eq : fl0 = flC fun _ => false := by
  simp only [fl0, flC, flV]
  congr 1
theorem make258 (w : World) : (Instr.makeSlice 37 (.int .i64 258) (.int .i64 258)).run Tryd.prog w = .ok (.slice (some ⟨w.heap.size, 0, none⟩) 258 258) (w.alloc (.cells fl0 4)) := by kernel_rfl
theorem flC_set (F : Nat → Bool) (x : Nat) (h : x < 258) : (flC F).setIfInBounds x (.bool true) = flC (fun m => F m || decide (x = m)) := by
  apply Array.ext_getElem?
  intro j
  simp only [flC, List.setIfInBounds_toArray, List.getElem?_toArray]
  by_cases hj : j < 258
  · rw [flV_get _ _ _ hj]
    by_cases e : x = j
    · subst e
      rw [List.getElem?_set_self (by rw [flV_length]; exact hj)]
      simp
    · rw [List.getElem?_set_ne e, flV_get _ _ _ hj]
      simp [e]
  · rw [List.getElem?_eq_none (by rw [List.length_set, flV_length]; omega), List.getElem?_eq_none (by rw [flV_length]; omega)]
theorem fl_bk {w : World} {g : Nat} {F : Nat → Bool} (h : Bk w g 4 (flC F)) (x : Nat) (hx : x < 258) : w.cell? ⟨g, x, none⟩ = some (.bool (F x)) ∧ w.frozen? ⟨g, x, none⟩ = false :=
  ⟨(h.cell x).trans (by simp [flC, flV_get F 258 x hx]), h.free x⟩
theorem fl_noint {w : World} {g : Nat} {F : Nat → Bool} (h : Bk w g 4 (flC F)) (x : Nat) {k : IntKind} {v : Int} : w.cell? ⟨g, x, none⟩ ≠ some (.int k v) := by
  rw [h.cell]
  by_cases hx : x < 258
  · simp [flC, flV_get F 258 x hx]
  · simp [flC, List.getElem?_eq_none (show (flV F 258).length ≤ x by rw [flV_length]; omega)]
theorem rd_far {w : World} {B b o g x : Nat} {vs : List Value} (h : Rd w B (some ⟨b, o, none⟩) vs) (hne : b ≠ g) (u : Value) : Rd (w.setCell ⟨g, x, none⟩ u) B (some ⟨b, o, none⟩) vs := fun j v hv => by
  obtain ⟨ad, e, hb, hc⟩ := h j v hv
  cases e
  refine ⟨_, rfl, hb, (World.cell?_setCell_other _ _ _ _ (fun e => ?_)).trans hc⟩
  rw [add_plain] at e
  injection e with e1
  exact hne e1.symm
theorem fl_rd {w : World} {g : Nat} {F : Nat → Bool} (h : Bk w g 4 (flC F)) : Rd w w.heap.size (some ⟨g, 0, none⟩) (flV F 258) := by simpa [flC] using Rd.bk h
/-- blocks as ints -/
def intL (l : List Nat) : List Int := l.map fun (m : Nat) => (m : Int)
theorem intL_get {l : List Nat} {k b : Nat} (h : l[k]? = some b) : (intL l)[k]? = some (b : Int) := by rw [intL, List.getElem?_map, h]; rfl
theorem intL_length (l : List Nat) : (intL l).length = l.length := by simp [intL]

set_option maxHeartbeats 4000000 in
theorem refOn8_any (B : Nat) (A : Option Addr) (n c : Nat) (l : List Nat) (w : World) (hl : l.length = n) (hn : n ≤ 1000) (hr : Rd w B A ((intL l).map iv)) (hB : B ≤ w.heap.size) (hok : ∀ b ∈ l, b < 3621) :
    Calls Tryd.prog 22 #[.slice A n c] w fun e w' => ∃ g, e = .returned (.slice (some ⟨g, 0, none⟩) 258 258) ∧ Bk w' g 4 (flC (onL l)) ∧ Below w.heap.size w w' := by
  have HL := Lib.hid hl
  have HR := Lib.hid hr
  have HOK := Lib.hid hok
  have hmk := make258 w
  have K0 := Bk.new w 4 fl0
  have HB0 := Lib.hid ((Below.refl w.heap.size w).alloc (Nat.le_refl _) (.cells fl0 4))
  obtain ⟨w0, hw0⟩ : ∃ w0, w.alloc (.cells fl0 4) = w0 := ⟨_, rfl⟩
  rw [hw0] at hmk K0 HB0
  rw [fl0_eq] at K0
  have K0 := Lib.hid K0
  obtain ⟨g, hg⟩ : ∃ g, w.heap.size = g := ⟨_, rfl⟩
  have HG := Lib.hid hg
  have K0 : Hid (Bk w0 g 4 (flC (onL []))) := by rw [← hg]; exact K0.out
  rw [hg] at hmk
  clear hl hr hok hw0 hg
  go_enter Tryd.func22, Tryd.ntmps22
  go_wp2
  go_loopw [4] (fun i wr => ∃ k : Nat, k ≤ n ∧ i = .int .i64 k ∧ Hid (Bk wr g 4 (flC (onL (l.take k)))) ∧ Hid (Below w.heap.size w wr)) (fun i _ => n - (intOf i).toNat)
  case atStart => exact ⟨0, Nat.zero_le _, rfl, K0.out, HB0.out⟩
  case round =>
    obtain ⟨k, hk, rfl, HK, HB⟩ := hrel
    clear K0 HB0 hmk
    by_cases hlt : k < n
    · obtain ⟨b, hb⟩ : ∃ b, l[k]? = some b := ⟨_, List.getElem?_eq_getElem (by have := HL.out; omega)⟩
      have hbl := HOK.out b (List.mem_of_getElem? hb)
      obtain ⟨bA, oA, rfl, -, hc⟩ := (HR.out.below (HB.out.mono hB)).plain (by rw [List.length_map, intL_length]; have := HL.out; omega)
      have c0 := hc k (.int .i64 (b : Int)) (by rw [List.getElem?_map, intL_get hb]; rfl)
      have HTS : Hid (l.take (k + 1) = l.take k ++ [b]) := by show _ = _; rw [List.take_add_one, hb]; rfl
      clear hc hb
      go_wp2_with fail
      refine (refPath8_any (b : Int) wr).mono ?_
      rintro e w1 ⟨v, rfl, hv, hb1⟩
      rw [show refP (b : Int) = pathI b by rw [refP, if_pos (by omega)]; rfl] at hv
      obtain ⟨Ap, np, cp, rfl, hlp, hcp, hcmp, hrp, -⟩ := hv
      have HK1 := Lib.hid (HK.out.below hb1 HK.out.lt)
      have HB1 := Lib.hid (HB.out.trans (hb1.mono HB.out.size))
      have HLP := Lib.hid hlp
      have HRP := Lib.hid hrp
      have HPL := Lib.hid (path_length b)
      obtain ⟨ap, op, hap, -, hcc⟩ := hrp.plain (by rw [List.length_map]; have := HPL.out.1; omega)
      subst hap
      have HNG : Hid (ap ≠ (⟨g, 0, none⟩ : Addr).block) := by
        intro e
        obtain ⟨a0, ha0⟩ : ∃ a0, (pathI b)[0]? = some a0 := ⟨_, List.getElem?_eq_getElem (by have := HPL.out.1; omega)⟩
        have h0 := hcc 0 (.int .i64 a0) (by rw [List.getElem?_map, ha0]; rfl)
        subst e
        exact fl_noint HK1.out _ h0
      clear hcc
      have hcp2 : cp ≤ 9223372036854775807 := by unfold maxLen at hcmp; omega
      clear hlp hrp hb1 HK HB c0
      have hnp : np ≤ 4 := by have := HLP.out; have := HPL.out.2; omega
      go_wp2
      go_loopw [6] (fun s wx => ∃ j : Nat, 1 ≤ j ∧ (j ≤ np ∨ j = 1) ∧ s = .int .i64 j ∧ Hid (Bk wx g 4 (flC (onP (onL (l.take k)) b j))) ∧ Hid (Below w1.heap.size w1 wx ∨ True) ∧ Hid (Below w.heap.size w wx) ∧ Hid (Rd wx wx.heap.size (some ⟨ap, op, none⟩) ((pathI b).map iv))) (fun s _ => np - (intOf s).toNat)
      case atStart => exact ⟨1, Nat.le_refl _, .inr rfl, rfl, by rw [onP_one]; exact HK1.out, .inr trivial, HB1.out, HRP.out⟩
      case round =>
        obtain ⟨j, hj1, hj, rfl, HKJ, -, HBJ, HRJ⟩ := hrel
        clear HK1 HB1 HRP
        by_cases hlj : j < np
        · obtain ⟨hx, hxe⟩ := preN_nod b j hbl hj1 (by rw [HLP.out]; exact hlj)
          obtain ⟨x, hxn⟩ : ∃ x, preN b j = x := ⟨_, rfl⟩
          rw [hxn] at hx hxe
          have hlen : ((pathI b).take j).length = j := by rw [List.length_take, HLP.out]; omega
          have HNU := Lib.hid (refNumber8_any (some ⟨ap, op, none⟩) j cp ((pathI b).take j) x wr hlen (by omega) (by rw [List.map_take]; exact HRJ.out.take j) (.inl ⟨x, hx, hxe, rfl⟩))
          have HXN := Lib.hid hxn
          have hjc : j ≤ cp := by omega
          clear hxe hlen hxn
          go_wp2_with fail
          refine HNU.out.mono ?_
          rintro e w2 ⟨rfl, hb2⟩
          have K2 := HKJ.out.below hb2 HKJ.out.lt
          obtain ⟨k0, f0⟩ := fl_bk K2 x hx
          have HK2 := Lib.hid (K2.set_ x (.bool true))
          rw [flC_set _ _ hx] at HK2
          have HB2 := Lib.hid ((HBJ.out.trans (hb2.mono HBJ.out.size)).setCell (p := ⟨g, x, none⟩) (by show w.heap.size ≤ g; rw [HG.out]; exact Nat.le_refl _) (.bool true))
          have HR2 : Hid (Rd (w2.setCell ⟨g, x, none⟩ (.bool true)) (w2.setCell ⟨g, x, none⟩ (.bool true)).heap.size (some ⟨ap, op, none⟩) ((pathI b).map iv)) := by
            show Rd _ _ _ _
            rw [World.setCell_size']
            exact rd_far ((HRJ.out.below hb2).mono hb2.size) HNG.out _
          clear hb2 K2
          go_wp2
          go_roundw
          case rel => exact ⟨j + 1, by omega, .inl (by omega), by go_num, by rw [onP_succ _ _ _ hj1, HXN.out]; exact HK2.out, .inr trivial, HB2.out, HR2.out⟩
          case measure => simp [intOf]; omega
        · have HE : Hid (onL (l.take (k + 1)) = onP (onL (l.take k)) b j) := by
            show _ = _
            have h1 := HPL.out.1
            have h2 := HLP.out
            rw [HTS.out, onL_snoc, show j = (pathI b).length from by omega]
          go_wp2
          go_roundw
          case rel => exact ⟨k + 1, by omega, by go_num, by rw [HE.out]; exact HKJ.out, HBJ.out⟩
          case measure => simp [intOf]; omega
    · obtain rfl : k = n := by omega
      have HTK : Hid (l.take k = l) := List.take_of_length_le (by have := HL.out; omega)
      go_wp2
      go_ret
      exact ⟨g, rfl, by have := HK.out; rwa [HTK.out] at this, HB.out⟩
end Go.Proofs.YtipeeidkfhddcaaDoor
