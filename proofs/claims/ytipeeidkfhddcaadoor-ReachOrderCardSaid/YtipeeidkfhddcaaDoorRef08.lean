/-
  What the document's answers Same and Next of layer 8 are.
-/
import Derived.Test.YtipeeidkfhddcaaDoorMem2
import Derived.Test.YtipeeidkfhddcaaDoorReachMath
import Derived.BigQuiet
import Derived.BigRegion
namespace Go.Proofs.YtipeeidkfhddcaaDoor
open Go.RowKit
set_option maxRecDepth 100000
set_option linter.unusedVariables false

theorem ints_one (l : List Int) : ∀ u ∈ l.map iv, u.oneCell' = true := by
  intro u hu
  obtain ⟨x, _, rfl⟩ := List.mem_map.1 hu
  rfl
theorem info_int8 : (Tryd.prog.info? 3).map (fun i => (i.zero, i.size, i.bytes)) = some (some (.int .i64 0), 1, 8) := by kernel_rfl

set_option maxHeartbeats 2000000 in
theorem refSame8_any (B B' : Nat) (A A' : Option Addr) (n c n' c' : Nat) (l m : List Int) (t : Bool) (w : World) (hl : l.length = n) (hm : m.length = n') (hn : n ≤ 9223372036854775807) (hn' : n' ≤ 9223372036854775807) (hr : Rd w B A (l.map iv)) (hr' : Rd w B' A' (m.map iv)) (hB : B ≤ w.heap.size) (hB' : B' ≤ w.heap.size) (ht : t = true ↔ l = m) :
    Calls Tryd.prog 12 #[.slice A n c, .slice A' n' c'] w fun e w' => e = .returned (.bool t) ∧ Below w.heap.size w w' := by
  by_cases hnn : n = n'
  · subst hnn
    have HL := Lib.hid hl
    have HM := Lib.hid hm
    have HR := Lib.hid hr
    have HR' := Lib.hid hr'
    have HT := Lib.hid ht
    clear hl hm hr hr' ht
    go_enter Tryd.func12, Tryd.ntmps12
    go_wp2
    go_loopw [5] (fun i wr => ∃ k : Nat, k ≤ n ∧ i = .int .i64 k ∧ Hid (∀ j, j < k → l[j]? = m[j]?) ∧ Hid (Below w.heap.size w wr)) (fun i _ => n - (intOf i).toNat)
    case atStart => exact ⟨0, Nat.zero_le _, rfl, fun j h => absurd h (by omega), Below.refl _ _⟩
    case round =>
      obtain ⟨k, hk, rfl, HALL, HB⟩ := hrel
      by_cases hlt : k < n
      · obtain ⟨y, hy⟩ : ∃ y, l[k]? = some y := ⟨_, List.getElem?_eq_getElem (by have := HL.out; omega)⟩
        obtain ⟨z, hz⟩ : ∃ z, m[k]? = some z := ⟨_, List.getElem?_eq_getElem (by have := HM.out; omega)⟩
        obtain ⟨b, o, rfl, hbB, hc⟩ := (HR.out.below (HB.out.mono hB)).plain (by rw [List.length_map]; have := HL.out; omega)
        obtain ⟨b', o', rfl, hbB', hc'⟩ := (HR'.out.below (HB.out.mono hB')).plain (by rw [List.length_map]; have := HM.out; omega)
        have c0 := hc k (.int .i64 y) (by rw [List.getElem?_map, hy]; rfl)
        have d0 := hc' k (.int .i64 z) (by rw [List.getElem?_map, hz]; rfl)
        have HY := Lib.hid hy
        have HZ := Lib.hid hz
        clear hc hc' hy hz
        by_cases hyz : y = z
        · subst hyz
          go_wp2_with fail
          go_quiet (fail)
          go_wp2
          go_roundw
          case rel =>
            refine ⟨k + 1, by omega, by go_num, fun j hj => ?_, by first | exact HB.out.drewN' _ | exact HB.out.drew⟩
            by_cases e : j = k
            · subst e; rw [HY.out, HZ.out]
            · exact HALL.out j (by omega)
          case measure => simp [intOf]; omega
        · have HF : Hid (t = false) := by
            show _ = _
            cases t with
            | false => rfl
            | true => have e := HT.out.1 rfl; subst e; have := HY.out.symm.trans HZ.out; cases this; exact absurd rfl hyz
          have hne : (y == z) = false := by simp [hyz]
          clear hyz
          go_wp2_with fail
          go_quiet (fail)
          go_wp2
          go_ret
          exact ⟨ret_bool HF.out.symm, by first | exact HB.out.drewN' _ | exact HB.out.drew⟩
      · have HF : Hid (t = true) := HT.out.2 (List.ext_getElem? fun j => by
          by_cases hj : j < k
          · exact HALL.out j hj
          · rw [List.getElem?_eq_none (by have := HL.out; omega), List.getElem?_eq_none (by have := HM.out; omega)])
        go_wp2
        go_ret
        exact ⟨ret_bool HF.out.symm, HB.out⟩
  · have hne : ((n : Int) == (n' : Int)) = false := by simp; omega
    have HF : Hid (t = false) := by
      show _ = _
      cases t with
      | false => rfl
      | true => have e := ht.1 rfl; subst e; exact absurd (hl.symm.trans hm) hnn
    clear hl hm hr hr' ht hnn
    go_enter Tryd.func12, Tryd.ntmps12
    go_wp2
    go_ret
    exact ⟨ret_bool HF.out.symm, Below.refl _ _⟩

/-- a slice of ints, somewhere -/
def Ints (w : World) (l : List Int) (v : Value) : Prop := ∃ A n c, v = .slice A n c ∧ l.length = n ∧ n ≤ c ∧ c ≤ maxLen ∧ Rd w w.heap.size A (l.map iv) ∧ (l = [] → v = .slice none 0 0)
theorem Ints.own {w : World} {base : Nat} {l : List Int} {v : Value} {n : Nat} (h : w.ownsRow base 3 1 v n (l.map iv)) (hl : l ≠ []) : Ints w l v := by
  obtain ⟨A, c, rfl, h1, h2⟩ := own_len h
  have := h.1
  exact ⟨A, n, c, rfl, by simpa using this, h1, h2, Rd.own h, fun e => absurd e hl⟩
theorem Ints.up {w w' : World} {l : List Int} {v : Value} (h : Ints w l v) (hb : Below w.heap.size w w') : Ints w' l v := by
  obtain ⟨A, n, c, rfl, h1, h2, h3, h4, h5⟩ := h
  exact ⟨A, n, c, rfl, h1, h2, h3, (h4.below hb).mono hb.size, h5⟩
theorem Ints.nil (w : World) : Ints w [] (.slice none 0 0) := ⟨none, 0, 0, rfl, rfl, Nat.le_refl _, by simp, Rd.nil_, fun _ => rfl⟩
theorem ret_any {a b : Value} (h : a = b) : Ending.returned a = .returned b := by rw [h]
theorem own_shape {w : World} {base e size n : Nat} {v : Value} {xs : List Value} (h : w.ownsRow base e size v n xs) (hn : 0 < n) : ∃ g cap, v = .slice (some ⟨g, 0, none⟩) n cap ∧ base ≤ g := by
  rcases h.2 with ⟨_, h0⟩ | ⟨g, cap, _, hv, hb, _⟩
  · omega
  · exact ⟨g, cap, hv, hb⟩
/-- the places behind place k are noughts -/
def zerosD (t : List Int) (k : Nat) : List Int := t.take k ++ List.replicate (t.length - k) 0
theorem zerosD_all (t : List Int) : zerosD t t.length = t := by simp [zerosD]
theorem zerosD_none (t : List Int) : zerosD t 0 = List.replicate t.length 0 := by simp [zerosD]
theorem zerosD_length (t : List Int) (k : Nat) (hk : k ≤ t.length) : (zerosD t k).length = t.length := by simp [zerosD]; omega
theorem zerosD_get (t : List Int) (k : Nat) (d : Int) (h : t[k]? = some d) : (zerosD t (k + 1))[k]? = some d := by
  have hk := (List.getElem?_eq_some_iff.1 h).1
  rw [zerosD, List.getElem?_append_left (by rw [List.length_take]; omega), List.getElem?_take_of_lt (by omega), h]
theorem zerosD_set (t : List Int) (k : Nat) (d x : Int) (h : t[k]? = some d) : (zerosD t (k + 1)).set k x = t.take k ++ x :: List.replicate (t.length - (k + 1)) 0 := by
  have hk := (List.getElem?_eq_some_iff.1 h).1
  have e : t.take (k + 1) = t.take k ++ [d] := by rw [List.take_add_one, h]; rfl
  rw [zerosD, e, List.append_assoc, List.set_append_right _ _ (by rw [List.length_take]; omega), List.length_take, show k - min k t.length = 0 from by omega]
  rfl
theorem zerosD_zero (t : List Int) (k : Nat) (d : Int) (h : t[k]? = some d) : (zerosD t (k + 1)).set k 0 = zerosD t k := by
  have hk := (List.getElem?_eq_some_iff.1 h).1
  rw [zerosD_set t k d 0 h, zerosD, show t.length - k = t.length - (k + 1) + 1 from by omega, List.replicate_succ]
theorem drop_step (t : List Int) (k : Nat) (d : Int) (h : t[k]? = some d) : t.drop k = d :: t.drop (k + 1) := by
  obtain ⟨hk, rfl⟩ := List.getElem?_eq_some_iff.1 h
  exact List.drop_eq_getElem_cons hk

set_option maxHeartbeats 4000000 in
theorem refNext_any (B : Nat) (A : Option Addr) (m c : Nat) (a : Int) (t : List Int) (w : World) (hl : t.length + 1 = m) (hr : Rd w B A ((a :: t).map iv)) (hB : B ≤ w.heap.size) (h0 : 0 ≤ a) (h8 : a ≤ 8) (ht : t.length ≤ 3) (ha : a ≤ 5 → t = []) (hd : ∀ d ∈ t, 0 ≤ d ∧ d ≤ 14) :
    Calls Tryd.prog 27 #[.slice A m c] w fun e w' => ∃ v, e = .returned v ∧ Ints w' (nextI (a :: t)) v ∧ Below w.heap.size w w' := by
  obtain ⟨i0, hi, hz0, hz1, hz2⟩ := info_parts info_int8
  have hi := Lib.hid hi
  have hz0 := Lib.hid hz0
  have hz1 := Lib.hid hz1
  have hz2 := Lib.hid hz2
  have HR := Lib.hid hr
  have HL := Lib.hid hl
  have HD := Lib.hid hd
  have HA := Lib.hid ha
  have HT3 := Lib.hid ht
  have hm4 : m ≤ 4 := by omega
  have hm1 : 1 ≤ m := by omega
  have HB0 := Lib.hid ((Below.refl w.heap.size w).alloc (Nat.le_refl _) (.cells #[] 3))
  have HOWN0 : Hid ((w.alloc (.cells #[] 3)).ownsRow w.heap.size 3 1 (.slice (some ⟨w.heap.size, 0, none⟩) 0 0) 0 []) := own_of_bk (xs := []) (Bk.new w 3 #[]) (Nat.le_refl _) rfl (Nat.zero_le _)
  clear hr hl hd ha ht
  go_enter Tryd.func27, Tryd.ntmps27
  go_wp2_with (at_builtin; refine wpList_append_rd _ rfl _ _ 22 rfl w.heap.size 3 i0 (.int .i64 0) 1 8 Tryd.underlying22 hi.out hz0.out hz1.out hz2.out rfl (by decide) _ _ _ rfl HOWN0.out B A m c ((a :: t).map iv) rfl ?c1 (HR.out.below (HB0.out.mono hB)) ?c2 ?c3 ?c4 ?c5 ?_)
  case c1 => rw [List.length_map, List.length_cons, HL.out, Nat.mul_one]
  case c2 => exact ints_one _
  case c3 => unfold maxLen; omega
  case c4 => omega
  case c5 => exact HB0.out.size
  intro r1 w1 hown1 hgrow1
  have HB1 := Lib.hid (HB0.out.grown hgrow1 HB0.out.size (fun g hg => (HOWN0.out.lt g hg).1))
  have hown1 : w1.ownsRow w.heap.size 3 1 r1 m ((a :: t).map iv) := by simpa using hown1
  obtain ⟨g, cap, rfl, hg⟩ := own_shape hown1 hm1
  have HG := Lib.hid hg
  have HOWN1 := Lib.hid hown1
  have k0 : w1.cell? ⟨g, 0, none⟩ = some (.int .i64 a) := (hown1.cellAt 0 (by omega)).trans rfl
  have f0 := hown1.frozenAt 0
  clear hgrow1 HOWN0 HB0 hown1 hg
  by_cases h5 : a < 5
  · obtain rfl : t = [] := HA.out (by omega)
    obtain rfl : m = 1 := HL.out.symm
    have HO := Lib.hid (HOWN1.out.stored 0 (.int .i64 (a + 1))).1
    have HE : Hid (nextI [a] = [a + 1]) := by show _ = _; rw [nextI, if_pos h5]
    go_wp2
    go_ret
    refine ⟨_, rfl, ?_, HB1.out.setCell (p := ⟨g, 0, none⟩) HG.out _⟩
    rw [HE.out]
    exact Ints.own (n := 1) HO.out (by simp)
  · by_cases h5' : a = 5
    · subst h5'
      obtain rfl : t = [] := HA.out (by omega)
      have HN := Lib.hid (own_of_bk (w := w1.alloc (.cells #[.int .i64 6, .int .i64 0] 3)) (base := w.heap.size) (n := 2) (xs := [6, 0].map iv) (Bk.new w1 3 #[.int .i64 6, .int .i64 0]) HB1.out.size rfl (by simp [maxLen]))
      have HB2 := Lib.hid (HB1.out.alloc HB1.out.size (.cells #[.int .i64 6, .int .i64 0] 3))
      go_wp2
      go_ret
      refine ⟨_, rfl, ?_, HB2.out⟩
      exact Ints.own (n := 2) HN.out (by decide)
    · have hn5 : (a == 5) = false := by simp [h5']
      have h6 : 6 ≤ a := by omega
      clear h5' HA
      have hsub : (m : Int) - 1 = ((m - 1 : Nat) : Int) := by omega
      go_wp2
      go_loopw [4] (fun v wr => ∃ k : Nat, k ≤ t.length ∧ v = .int .i64 k ∧ Hid (nextD (t.drop k) = none) ∧ Hid (wr.ownsRow w.heap.size 3 1 (.slice (some ⟨g, 0, none⟩) m cap) m ((a :: zerosD t k).map iv)) ∧ Hid (Below w.heap.size w wr)) (fun v _ => (intOf v).toNat)
      case atStart => exact ⟨t.length, Nat.le_refl _, by have := HL.out; go_num, by simp [nextD, Hid], by rw [zerosD_all]; exact HOWN1.out, HB1.out⟩
      case round =>
        obtain ⟨k, hk, rfl, HNX, HOWN, HB⟩ := hrel
        clear k0 f0 HOWN1 HB1 hsub
        by_cases hk0 : 0 < k
        · obtain ⟨k, rfl⟩ : ∃ j, k = j + 1 := ⟨k - 1, by omega⟩
          obtain ⟨d, hd⟩ : ∃ d, t[k]? = some d := ⟨_, List.getElem?_eq_getElem (by omega)⟩
          have hget : ((a :: zerosD t (k + 1)).map iv)[k + 1]? = some (.int .i64 d) := by rw [List.getElem?_map, List.getElem?_cons_succ, zerosD_get t k d hd]; rfl
          have kc : wr.cell? ⟨g, k + 1, none⟩ = some (.int .i64 d) := (HOWN.out.cellAt (k + 1) (by have := HL.out; omega)).trans hget
          have fc := HOWN.out.frozenAt (k + 1)
          have hdb := HD.out d (List.mem_of_getElem? hd)
          have HNS := Lib.hid (nextD_step d (t.drop (k + 1)) HNX.out)
          have HDR := Lib.hid (drop_step t k d hd)
          have HDG := Lib.hid hd
          clear hget hd
          have hkm : k + 1 < m := by have := HL.out; omega
          by_cases h14 : d < 14
          · have HO := Lib.hid (HOWN.out.stored (k + 1) (.int .i64 (d + 1))).1
            have HE : Hid (nextI (a :: t) = a :: (t.take k ++ (d + 1) :: List.replicate (t.length - (k + 1)) 0)) := by
              show _ = _
              have h := HNS.out
              rw [if_pos h14, ← HDR.out, List.length_drop] at h
              have := nextD_app (t.take k) _ _ h
              rw [List.take_append_drop] at this
              rw [nextI_big a t h6, this]
            have HV : Hid (((a :: zerosD t (k + 1)).map iv).set (k + 1) (.int .i64 (d + 1)) = (a :: (t.take k ++ (d + 1) :: List.replicate (t.length - (k + 1)) 0)).map iv) := by
              show _ = _
              rw [← zerosD_set t k d (d + 1) HDG.out, List.map_cons, List.map_cons, List.set_cons_succ, List.map_set]
              rfl
            rw [HV.out] at HO
            go_wp2
            go_ret
            refine ⟨_, rfl, ?_, HB.out.setCell (p := ⟨g, k + 1, none⟩) HG.out _⟩
            rw [HE.out]
            exact Ints.own (n := m) HO.out (by simp)
          · have HO := Lib.hid (HOWN.out.stored (k + 1) (.int .i64 0)).1
            have HV : Hid (((a :: zerosD t (k + 1)).map iv).set (k + 1) (.int .i64 0) = (a :: zerosD t k).map iv) := by
              show _ = _
              rw [← zerosD_zero t k d HDG.out, List.map_cons, List.map_cons, List.set_cons_succ, List.map_set]
              rfl
            rw [HV.out] at HO
            have HNN : Hid (nextD (t.drop k) = none) := by show _ = _; rw [HDR.out, HNS.out, if_neg h14]
            have HB2 := Lib.hid (HB.out.setCell (p := ⟨g, k + 1, none⟩) HG.out (.int .i64 0))
            go_wp2
            go_roundw
            case rel => exact ⟨k, by omega, by go_num, HNN.out, HO.out, HB2.out⟩
            case measure => simp [intOf]
        · obtain rfl : k = 0 := by omega
          have k0 : wr.cell? ⟨g, 0, none⟩ = some (.int .i64 a) := (HOWN.out.cellAt 0 (by omega)).trans rfl
          have f0 := HOWN.out.frozenAt 0
          have HND : Hid (nextD t = none) := by have h := HNX.out; rwa [List.drop_zero] at h
          by_cases h88 : a = 8
          · subst h88
            have HE : Hid (nextI (8 :: t) = []) := by show _ = _; rw [nextI_big 8 t (by omega), HND.out]; rfl
            go_wp2
            go_ret
            refine ⟨_, rfl, ?_, HB.out⟩
            rw [HE.out]
            exact Ints.nil _
          · have hn8 : (a == 8) = false := by simp [h88]
            have HE : Hid (nextI (a :: t) = (a + 1) :: List.replicate (t.length + 1) 0) := by show _ = _; rw [nextI_big a t h6, HND.out]; simp [h88]
            have HO := (HOWN.out.stored 0 (.int .i64 (a + 1))).1
            rw [zerosD_none] at HO
            have HO := Lib.hid (HO.alloc (.cells #[.int .i64 0] 3))
            have HB2 := Lib.hid ((HB.out.setCell (p := ⟨g, 0, none⟩) HG.out (.int .i64 (a + 1))).alloc (by rw [World.setCell_size']; exact HB.out.size) (.cells #[.int .i64 0] 3))
            have HN := Rd.new (wr.setCell ⟨g, 0, none⟩ (.int .i64 (a + 1))) 3 #[.int .i64 0] (0, 0)
            rw [World.setCell_size'] at HN
            have HN := Lib.hid HN
            clear h88
            go_wp2_with (at_builtin; refine wpList_append_rd _ rfl _ _ 22 rfl w.heap.size 3 i0 (.int .i64 0) 1 8 Tryd.underlying22 hi.out hz0.out hz1.out hz2.out rfl (by decide) _ _ _ rfl HO.out (wr.heap.size + 1) (some ⟨wr.heap.size, 0, none⟩) 1 1 ([0].map iv) rfl rfl HN.out ?c2 ?c3 ?c4 ?c5 ?_)
            case c2 => first | exact ints_one _ | rfl
            case c3 => unfold maxLen; omega
            case c4 => omega
            case c5 => have := HB.out.size; simp; omega
            intro r' w6 hown6 hgrow
            have HB6 := Lib.hid (HB2.out.grown hgrow HB2.out.size (fun g hg => (HO.out.lt g hg).1))
            have HOWN6 : Hid (w6.ownsRow w.heap.size 3 1 r' (m + 1) (((a + 1) :: List.replicate (t.length + 1) 0).map iv)) := by
              rw [List.map_cons, List.replicate_succ', List.map_append, List.map_replicate]
              exact hown6
            clear hown6 hgrow HO HB2 HN
            go_wp2
            go_ret
            refine ⟨_, rfl, ?_, HB6.out⟩
            rw [HE.out]
            exact Ints.own (n := m + 1) HOWN6.out (by simp)
end Go.Proofs.YtipeeidkfhddcaaDoor
