/-
  What the document's answers Same and Next of layer 8 are.
-/
import Derived.Test.YtnipfonglheofaaDoorMem2
import Derived.Test.YtnipfonglheofaaDoorReachMath
import Derived.BigQuiet
import Derived.BigRegion
namespace Go.Proofs.YtnipfonglheofaaDoor
open Go.RowKit
set_option maxRecDepth 100000
set_option linter.unusedVariables false

theorem ints_one (l : List Int) : ∀ u ∈ l.map iv, u.oneCell' = true := by
  intro u hu
  obtain ⟨x, _, rfl⟩ := List.mem_map.1 hu
  rfl
theorem info_int8 : (Tryd.prog.info? 3).map (fun i => (i.zero, i.size, i.bytes)) = some (some (.int .i64 0), 1, 8) := by kernel_rfl

set_option maxHeartbeats 2000000 in
theorem refSame8_any (B B' : Nat) (A A' : Option Addr) (n c n' c' : Nat) (l m : List Int) (t : Bool) (w : World) (hl : l.length = n) (hm : m.length = n') (hn : n ≤ 9223372036854775807) (hn' : n' ≤ 9223372036854775807) (hr : Rd w B A (l.map iv)) (hr' : Rd w B' A' (m.map iv)) (hB : B ≤ w.heap.size) (hB' : B' ≤ w.heap.size) (ht : t = true ↔ l = m) :
    Calls Tryd.prog 26 #[.slice A n c, .slice A' n' c'] w fun e w' => e = .returned (.bool t) ∧ Below w.heap.size w w' := by
  by_cases hnn : n = n'
  · subst hnn
    have HL := Lib.hid hl
    have HM := Lib.hid hm
    have HR := Lib.hid hr
    have HR' := Lib.hid hr'
    have HT := Lib.hid ht
    clear hl hm hr hr' ht
    go_enter Tryd.func26, Tryd.ntmps26
    go_wp2
    go_loopw [5] (fun i wr => ∃ k : Nat, k ≤ n ∧ i = .int .i64 k ∧ Hid (∀ j, j < k → l[j]? = m[j]?) ∧ Hid (Below w.heap.size w wr)) (fun i _ => n - (intOf i).toNat)
    case atStart => exact ⟨0, Nat.zero_le _, rfl, fun j h => absurd h (by omega), Below.refl _ _⟩
    case round =>
      obtain ⟨k, hk, rfl, HALL, HB⟩ := hrel
      by_cases hlt : k < n
      · obtain ⟨y, hy⟩ : ∃ y, l[k]? = some y := ⟨_, List.getElem?_eq_getElem (by have := HL.out; omega)⟩
        obtain ⟨z, hz⟩ : ∃ z, m[k]? = some z := ⟨_, List.getElem?_eq_getElem (by have := HM.out; omega)⟩
        obtain ⟨b, o, rfl, hbB, hc⟩ := (HR.out.below (HB.out.mono hB)).plain (by rw [List.length_map]; have := HL.out; omega)
        obtain ⟨b', o', rfl, hbB', hc'⟩ := (HR'.out.below (HB.out.mono hB')).plain (by rw [List.length_map]; have := HM.out; omega)
        have c0 := hc k (.int .i64 y) (by rw [List.getElem?_map, hy]; rfl)
        have d0 := hc' k (.int .i64 z) (by rw [List.getElem?_map, hz]; rfl)
        have HY := Lib.hid hy
        have HZ := Lib.hid hz
        clear hc hc' hy hz
        by_cases hyz : y = z
        · subst hyz
          go_wp2_with fail
          go_quiet (fail)
          go_wp2
          go_roundw
          case rel =>
            refine ⟨k + 1, by omega, by go_num, fun j hj => ?_, by first | exact HB.out.drewN' _ | exact HB.out.drew⟩
            by_cases e : j = k
            · subst e; rw [HY.out, HZ.out]
            · exact HALL.out j (by omega)
          case measure => simp [intOf]; omega
        · have HF : Hid (t = false) := by
            show _ = _
            cases t with
            | false => rfl
            | true => have e := HT.out.1 rfl; subst e; have := HY.out.symm.trans HZ.out; cases this; exact absurd rfl hyz
          have hne : (y == z) = false := by simp [hyz]
          clear hyz
          go_wp2_with fail
          go_quiet (fail)
          go_wp2
          go_ret
          exact ⟨ret_bool HF.out.symm, by first | exact HB.out.drewN' _ | exact HB.out.drew⟩
      · have HF : Hid (t = true) := HT.out.2 (List.ext_getElem? fun j => by
          by_cases hj : j < k
          · exact HALL.out j hj
          · rw [List.getElem?_eq_none (by have := HL.out; omega), List.getElem?_eq_none (by have := HM.out; omega)])
        go_wp2
        go_ret
        exact ⟨ret_bool HF.out.symm, HB.out⟩
  · have hne : ((n : Int) == (n' : Int)) = false := by simp; omega
    have HF : Hid (t = false) := by
      show _ = _
      cases t with
      | false => rfl
      | true => have e := ht.1 rfl; subst e; exact absurd (hl.symm.trans hm) hnn
    clear hl hm hr hr' ht hnn
    go_enter Tryd.func26, Tryd.ntmps26
    go_wp2
    go_ret
    exact ⟨ret_bool HF.out.symm, Below.refl _ _⟩

/-- a slice of ints, somewhere -/
def Ints (w : World) (l : List Int) (v : Value) : Prop := ∃ A n c, v = .slice A n c ∧ l.length = n ∧ n ≤ c ∧ c ≤ maxLen ∧ Rd w w.heap.size A (l.map iv) ∧ (l = [] → v = .slice none 0 0)
theorem Ints.own {w : World} {base : Nat} {l : List Int} {v : Value} {n : Nat} (h : w.ownsRow base 3 1 v n (l.map iv)) (hl : l ≠ []) : Ints w l v := by
  obtain ⟨A, c, rfl, h1, h2⟩ := own_len h
  have := h.1
  exact ⟨A, n, c, rfl, by simpa using this, h1, h2, Rd.own h, fun e => absurd e hl⟩
theorem Ints.up {w w' : World} {l : List Int} {v : Value} (h : Ints w l v) (hb : Below w.heap.size w w') : Ints w' l v := by
  obtain ⟨A, n, c, rfl, h1, h2, h3, h4, h5⟩ := h
  exact ⟨A, n, c, rfl, h1, h2, h3, (h4.below hb).mono hb.size, h5⟩
theorem Ints.nil (w : World) : Ints w [] (.slice none 0 0) := ⟨none, 0, 0, rfl, rfl, Nat.le_refl _, by simp, Rd.nil_, fun _ => rfl⟩
theorem ret_any {a b : Value} (h : a = b) : Ending.returned a = .returned b := by rw [h]
theorem own_shape {w : World} {base e size n : Nat} {v : Value} {xs : List Value} (h : w.ownsRow base e size v n xs) (hn : 0 < n) : ∃ g cap, v = .slice (some ⟨g, 0, none⟩) n cap ∧ base ≤ g := by
  rcases h.2 with ⟨_, h0⟩ | ⟨g, cap, _, hv, hb, _⟩
  · omega
  · exact ⟨g, cap, hv, hb⟩
/-- the places behind place k are noughts -/
def zerosD (t : List Int) (k : Nat) : List Int := t.take k ++ List.replicate (t.length - k) 0
theorem zerosD_all (t : List Int) : zerosD t t.length = t := by simp [zerosD]
theorem zerosD_none (t : List Int) : zerosD t 0 = List.replicate t.length 0 := by simp [zerosD]
theorem zerosD_length (t : List Int) (k : Nat) (hk : k ≤ t.length) : (zerosD t k).length = t.length := by simp [zerosD]; omega
theorem zerosD_get (t : List Int) (k : Nat) (d : Int) (h : t[k]? = some d) : (zerosD t (k + 1))[k]? = some d := by
  have hk := (List.getElem?_eq_some_iff.1 h).1
  rw [zerosD, List.getElem?_append_left (by rw [List.length_take]; omega), List.getElem?_take_of_lt (by omega), h]
theorem zerosD_set (t : List Int) (k : Nat) (d x : Int) (h : t[k]? = some d) : (zerosD t (k + 1)).set k x = t.take k ++ x :: List.replicate (t.length - (k + 1)) 0 := by
  have hk := (List.getElem?_eq_some_iff.1 h).1
  have e : t.take (k + 1) = t.take k ++ [d] := by rw [List.take_add_one, h]; rfl
  rw [zerosD, e, List.append_assoc, List.set_append_right _ _ (by rw [List.length_take]; omega), List.length_take, show k - min k t.length = 0 from by omega]
  rfl
theorem zerosD_zero (t : List Int) (k : Nat) (d : Int) (h : t[k]? = some d) : (zerosD t (k + 1)).set k 0 = zerosD t k := by
  have hk := (List.getElem?_eq_some_iff.1 h).1
  rw [zerosD_set t k d 0 h, zerosD, show t.length - k = t.length - (k + 1) + 1 from by omega, List.replicate_succ]
theorem drop_step (t : List Int) (k : Nat) (d : Int) (h : t[k]? = some d) : t.drop k = d :: t.drop (k + 1) := by
  obtain ⟨hk, rfl⟩ := List.getElem?_eq_some_iff.1 h
  exact List.drop_eq_getElem_cons hk

end Go.Proofs.YtnipfonglheofaaDoor
