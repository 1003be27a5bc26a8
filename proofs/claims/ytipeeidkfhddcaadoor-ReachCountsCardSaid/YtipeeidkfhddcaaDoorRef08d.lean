/-
  What the document's answer Count of layer 8 is.
-/
import Derived.Test.YtipeeidkfhddcaaDoorRef08b
import Derived.Test.YtipeeidkfhddcaaDoorReachOn
namespace Go.Proofs.YtipeeidkfhddcaaDoor
open Go.RowKit
set_option maxRecDepth 100000
set_option linter.unusedVariables false

theorem ndsN_le : ∀ n, ndsN n ≤ 4 * n
  | 0 => Nat.le_refl _
  | n + 1 => by
    have h1 := ndsN_le n
    have h2 := tz_le (pathI n).tail
    have h3 := (path_length n).2
    rw [ndsN]
    rw [List.length_tail] at h2
    omega
/-- the places from j on are noughts -/
def Zs (p : List Int) (j : Nat) : Prop := ∀ i d, j < i → p[i]? = some d → d = 0
theorem tz_at {p : List Int} {j : Nat} (hp : 1 ≤ p.length) (hj : j < p.length) (hz : Zs p j) (hn : 0 < j → ∃ d, p[j]? = some d ∧ d ≠ 0) : tz p.tail = p.length - 1 - j := by
  cases p with
  | nil => simp at hp
  | cons a t =>
    simp only [List.tail_cons, List.length_cons] at *
    refine tz_of t _ (by omega) (fun d hd => ?_) (fun h => ?_)
    · obtain ⟨i, hi, rfl⟩ := List.mem_iff_getElem.1 hd
      simp only [List.length_drop] at hi
      refine hz (t.length - (t.length + 1 - 1 - j) + i + 1) _ (by omega) ?_
      rw [List.getElem?_cons_succ, List.getElem_drop, List.getElem?_eq_getElem (by omega)]
    · obtain ⟨d, hd, h0⟩ := hn (by omega)
      refine ⟨d, ?_, h0⟩
      rw [show t.length - (t.length + 1 - 1 - j) - 1 = j - 1 from by omega]
      obtain ⟨i, rfl⟩ : ∃ i, j = i + 1 := ⟨j - 1, by omega⟩
      rwa [List.getElem?_cons_succ] at hd

set_option maxHeartbeats 800000 in
theorem refCount8_mid (N : Nat) (w : World) (hN : N ≤ 3621) :
    Calls Tryd.prog 24 #[.int .i64 (N : Int)] w fun e w' => e = .returned (.int .i64 (ndsN N : Int)) ∧ Below w.heap.size w w' := by
  have HI0 : Hid (Ints (w.alloc (.cells #[.int .i64 0] 3)) (pathI 0) (.slice (some ⟨w.heap.size, 0, none⟩) 1 1)) :=
    Ints.own (base := w.heap.size) (n := 1) (own_of_bk (xs := [0].map iv) (Bk.new w 3 #[.int .i64 0]) (Nat.le_refl _) rfl (by simp [maxLen])) (by decide)
  have HB0 := Lib.hid ((Below.refl w.heap.size w).alloc (Nat.le_refl _) (.cells #[.int .i64 0] 3))
  have hno : ¬ (3621 : Int) < (N : Int) := by omega
  go_enter Tryd.func24, Tryd.ntmps24
  go_wp2
  go_loopw [3, 4, 5] (fun v p i wr => ∃ k : Nat, k ≤ N ∧ i = .int .i64 k ∧ v = .int .i64 (ndsN k : Int) ∧ Hid (Ints wr (if k < 3621 then pathI k else []) p) ∧ Hid (Below w.heap.size w wr)) (fun _ _ i _ => N - (intOf i).toNat)
  case atStart => exact ⟨0, Nat.zero_le _, rfl, rfl, HI0.out, HB0.out⟩
  case round =>
    obtain ⟨k, hk, rfl, rfl, HI, HB⟩ := hrel
    clear HI0 HB0
    obtain ⟨Ar, nr, cr, hre, hlr, hcr, hcm, hrr, -⟩ := HI.out
    subst hre
    have hcl := ndsN_le k
    by_cases hlt : k < N
    · rw [if_pos (show k < 3621 by omega)] at hlr hrr HI
      have hpl := path_length k
      obtain ⟨P, hP⟩ : ∃ P, pathI k = P := ⟨_, rfl⟩
      rw [hP] at hlr hrr HI hpl
      obtain ⟨ap, op, hap, -, hcc⟩ := hrr.plain (by rw [List.length_map]; omega)
      subst hap
      have HCC := Lib.hid hcc
      have HLR := Lib.hid hlr
      have HP := Lib.hid hP
      have hn4 : nr ≤ 4 := by omega
      have hn1 : 1 ≤ nr := by omega
      have hcn : ndsN (k + 1) = ndsN k + tz P.tail := by rw [ndsN, hP]
      have HCN := Lib.hid hcn
      have hsub : (nr : Int) - 1 = ((nr - 1 : Nat) : Int) := by omega
      obtain ⟨q, hq⟩ : ∃ q, ndsN k = q := ⟨_, rfl⟩
      rw [hq] at hcl ⊢
      have HQ := Lib.hid hq
      clear hcc hlr hcr hcm hrr hP hpl hcn hq
      go_wp2
      go_loop [3, 6] (fun v s => ∃ j : Nat, j < nr ∧ s = .int .i64 j ∧ v = .int .i64 ((q + (nr - 1 - j) : Nat) : Int) ∧ Hid (Zs P j)) (fun _ s => (intOf s).toNat)
      case atStart => exact ⟨nr - 1, by omega, by go_num, by rw [show q + (nr - 1 - (nr - 1)) = q from by omega], fun i d hi hd => absurd (List.getElem?_eq_some_iff.1 hd).1 (by have := HLR.out; omega)⟩
      case round =>
        obtain ⟨j, hj, rfl, rfl, HZ⟩ := hrel
        clear hsub
        have hfin : Zs P j → (0 < j → ∃ d, P[j]? = some d ∧ d ≠ 0) → ndsN (k + 1) = q + (nr - 1 - j) := fun h1 h2 => by
          rw [HCN.out, HQ.out, tz_at (by have := HLR.out; omega) (by have := HLR.out; omega) h1 h2, HLR.out]
        have HFIN := Lib.hid hfin
        clear hfin
        by_cases hj0 : 0 < j
        · obtain ⟨d, hd⟩ : ∃ d, P[j]? = some d := ⟨_, List.getElem?_eq_getElem (by have := HLR.out; omega)⟩
          have c0 := HCC.out j (.int .i64 d) (by rw [List.getElem?_map, hd]; rfl)
          have HD := Lib.hid hd
          clear hd
          by_cases hd0 : d = 0
          · subst hd0
            have HZ1 : Hid (Zs P (j - 1)) := fun i x hi hx => by
              by_cases e : i = j
              · subst e; rw [HD.out] at hx; cases hx; rfl
              · exact HZ.out i x (by omega) hx
            obtain ⟨i, rfl⟩ : ∃ i, j = i + 1 := ⟨j - 1, by omega⟩
            go_wp2
            go_round
            case rel => exact ⟨i, by omega, by go_num, by first | (congr 1; omega) | (go_num; omega) | (simp; omega), HZ1.out⟩
            case measure => simp [intOf]
          · have hne : (d == 0) = false := by simp [hd0]
            have HE : Hid (ndsN (k + 1) = q + (nr - 1 - j)) := HFIN.out HZ.out fun _ => ⟨d, HD.out, hd0⟩
            clear hd0 HFIN
            go_wp2_with fail
            refine (next_at k _ wr (by omega) (by rw [HP.out]; exact HI.out)).mono ?_
            rintro e w2 ⟨v', rfl, hv', hb2⟩
            have HI2 := Lib.hid hv'
            have HB2 := Lib.hid (HB.out.trans (hb2.mono HB.out.size))
            clear hv' hb2 HI HB c0 HCC
            go_wp2
            go_roundw
            case rel => exact ⟨k + 1, by omega, by go_num, by rw [HE.out]; congr 1, HI2.out, HB2.out⟩
            case measure => simp [intOf]; omega
        · obtain rfl : j = 0 := by omega
          have HE : Hid (ndsN (k + 1) = q + (nr - 1 - 0)) := HFIN.out HZ.out fun h => absurd h (by omega)
          clear HFIN
          go_wp2_with fail
          refine (next_at k _ wr (by omega) (by rw [HP.out]; exact HI.out)).mono ?_
          rintro e w2 ⟨v', rfl, hv', hb2⟩
          have HI2 := Lib.hid hv'
          have HB2 := Lib.hid (HB.out.trans (hb2.mono HB.out.size))
          clear hv' hb2 HI HB HCC
          go_wp2
          go_roundw
          case rel => exact ⟨k + 1, by omega, by go_num, by rw [HE.out]; congr 1, HI2.out, HB2.out⟩
          case measure => simp [intOf]; omega
    · obtain rfl : k = N := by omega
      clear hlr hcr hcm hrr hcl
      go_wp2
      go_ret
      exact ⟨rfl, HB.out⟩

set_option maxHeartbeats 800000 in
theorem refCount8_big (n : Int) (w : World) (hn : 3621 < n) :
    Calls Tryd.prog 24 #[.int .i64 n] w fun e w' => e = .returned (.int .i64 (ndsN 3621 : Int)) ∧ Below w.heap.size w w' := by
  have HI0 : Hid (Ints (w.alloc (.cells #[.int .i64 0] 3)) (pathI 0) (.slice (some ⟨w.heap.size, 0, none⟩) 1 1)) :=
    Ints.own (base := w.heap.size) (n := 1) (own_of_bk (xs := [0].map iv) (Bk.new w 3 #[.int .i64 0]) (Nat.le_refl _) rfl (by simp [maxLen])) (by decide)
  have HB0 := Lib.hid ((Below.refl w.heap.size w).alloc (Nat.le_refl _) (.cells #[.int .i64 0] 3))
  go_enter Tryd.func24, Tryd.ntmps24
  go_wp2
  go_loopw [3, 4, 5] (fun v p i wr => ∃ k : Nat, k ≤ 3621 ∧ i = .int .i64 k ∧ v = .int .i64 (ndsN k : Int) ∧ Hid (Ints wr (if k < 3621 then pathI k else []) p) ∧ Hid (Below w.heap.size w wr)) (fun _ _ i _ => 3621 - (intOf i).toNat)
  case atStart => exact ⟨0, Nat.zero_le _, rfl, rfl, HI0.out, HB0.out⟩
  case round =>
    obtain ⟨k, hk, rfl, rfl, HI, HB⟩ := hrel
    clear HI0 HB0
    obtain ⟨Ar, nr, cr, hre, hlr, hcr, hcm, hrr, -⟩ := HI.out
    subst hre
    have hcl := ndsN_le k
    by_cases hlt : k < 3621
    · rw [if_pos (show k < 3621 by omega)] at hlr hrr HI
      have hpl := path_length k
      obtain ⟨P, hP⟩ : ∃ P, pathI k = P := ⟨_, rfl⟩
      rw [hP] at hlr hrr HI hpl
      obtain ⟨ap, op, hap, -, hcc⟩ := hrr.plain (by rw [List.length_map]; omega)
      subst hap
      have HCC := Lib.hid hcc
      have HLR := Lib.hid hlr
      have HP := Lib.hid hP
      have hn4 : nr ≤ 4 := by omega
      have hn1 : 1 ≤ nr := by omega
      have hcn : ndsN (k + 1) = ndsN k + tz P.tail := by rw [ndsN, hP]
      have HCN := Lib.hid hcn
      have hsub : (nr : Int) - 1 = ((nr - 1 : Nat) : Int) := by omega
      obtain ⟨q, hq⟩ : ∃ q, ndsN k = q := ⟨_, rfl⟩
      rw [hq] at hcl ⊢
      have HQ := Lib.hid hq
      clear hcc hlr hcr hcm hrr hP hpl hcn hq
      go_wp2
      go_loop [3, 6] (fun v s => ∃ j : Nat, j < nr ∧ s = .int .i64 j ∧ v = .int .i64 ((q + (nr - 1 - j) : Nat) : Int) ∧ Hid (Zs P j)) (fun _ s => (intOf s).toNat)
      case atStart => exact ⟨nr - 1, by omega, by go_num, by rw [show q + (nr - 1 - (nr - 1)) = q from by omega], fun i d hi hd => absurd (List.getElem?_eq_some_iff.1 hd).1 (by have := HLR.out; omega)⟩
      case round =>
        obtain ⟨j, hj, rfl, rfl, HZ⟩ := hrel
        clear hsub
        have hfin : Zs P j → (0 < j → ∃ d, P[j]? = some d ∧ d ≠ 0) → ndsN (k + 1) = q + (nr - 1 - j) := fun h1 h2 => by
          rw [HCN.out, HQ.out, tz_at (by have := HLR.out; omega) (by have := HLR.out; omega) h1 h2, HLR.out]
        have HFIN := Lib.hid hfin
        clear hfin
        by_cases hj0 : 0 < j
        · obtain ⟨d, hd⟩ : ∃ d, P[j]? = some d := ⟨_, List.getElem?_eq_getElem (by have := HLR.out; omega)⟩
          have c0 := HCC.out j (.int .i64 d) (by rw [List.getElem?_map, hd]; rfl)
          have HD := Lib.hid hd
          clear hd
          by_cases hd0 : d = 0
          · subst hd0
            have HZ1 : Hid (Zs P (j - 1)) := fun i x hi hx => by
              by_cases e : i = j
              · subst e; rw [HD.out] at hx; cases hx; rfl
              · exact HZ.out i x (by omega) hx
            obtain ⟨i, rfl⟩ : ∃ i, j = i + 1 := ⟨j - 1, by omega⟩
            go_wp2
            go_round
            case rel => exact ⟨i, by omega, by go_num, by first | (congr 1; omega) | (go_num; omega) | (simp; omega), HZ1.out⟩
            case measure => simp [intOf]
          · have hne : (d == 0) = false := by simp [hd0]
            have HE : Hid (ndsN (k + 1) = q + (nr - 1 - j)) := HFIN.out HZ.out fun _ => ⟨d, HD.out, hd0⟩
            clear hd0 HFIN
            go_wp2_with fail
            refine (next_at k _ wr (by omega) (by rw [HP.out]; exact HI.out)).mono ?_
            rintro e w2 ⟨v', rfl, hv', hb2⟩
            have HI2 := Lib.hid hv'
            have HB2 := Lib.hid (HB.out.trans (hb2.mono HB.out.size))
            clear hv' hb2 HI HB c0 HCC
            go_wp2
            go_roundw
            case rel => exact ⟨k + 1, by omega, by go_num, by rw [HE.out]; congr 1, HI2.out, HB2.out⟩
            case measure => simp [intOf]; omega
        · obtain rfl : j = 0 := by omega
          have HE : Hid (ndsN (k + 1) = q + (nr - 1 - 0)) := HFIN.out HZ.out fun h => absurd h (by omega)
          clear HFIN
          go_wp2_with fail
          refine (next_at k _ wr (by omega) (by rw [HP.out]; exact HI.out)).mono ?_
          rintro e w2 ⟨v', rfl, hv', hb2⟩
          have HI2 := Lib.hid hv'
          have HB2 := Lib.hid (HB.out.trans (hb2.mono HB.out.size))
          clear hv' hb2 HI HB HCC
          go_wp2
          go_roundw
          case rel => exact ⟨k + 1, by omega, by go_num, by rw [HE.out]; congr 1, HI2.out, HB2.out⟩
          case measure => simp [intOf]; omega
    · obtain rfl : k = 3621 := by omega
      clear hlr hcr hcm hrr hcl
      go_wp2
      go_ret
      exact ⟨rfl, HB.out⟩

theorem refCount8_low (n : Int) (w : World) (hn : n < 0) :
    Calls Tryd.prog 24 #[.int .i64 n] w fun e w' => e = .returned (.int .i64 0) ∧ Below w.heap.size w w' := by
  have HB0 := Lib.hid ((Below.refl w.heap.size w).alloc (Nat.le_refl _) (.cells #[.int .i64 0] 3))
  have hno : ¬ (3621 : Int) < n := by omega
  go_enter Tryd.func24, Tryd.ntmps24
  go_wp2
  go_loop [3, 4, 5] (fun v p i => v = .int .i64 0 ∧ i = .int .i64 0) (fun _ _ _ => 0)
  case atStart => exact ⟨rfl, rfl⟩
  case round =>
    obtain ⟨rfl, rfl⟩ := hrel
    have hn0 : ¬ (0 : Int) < n := by omega
    go_wp2
    go_ret
    exact ⟨rfl, HB0.out⟩
theorem refCount8_any (n : Int) (w : World) :
    Calls Tryd.prog 24 #[.int .i64 n] w fun e w' => e = .returned (.int .i64 (ndsI n : Int)) ∧ Below w.heap.size w w' := by
  rcases (show n < 0 ∨ (0 ≤ n ∧ n ≤ 3621) ∨ 3621 < n by omega) with h | ⟨h, h'⟩ | h
  · rw [ndsI, show min n.toNat 3621 = 0 from by omega]
    exact refCount8_low n w h
  · obtain ⟨N, rfl⟩ := Int.eq_ofNat_of_zero_le h
    rw [ndsI, show min ((N : Int)).toNat 3621 = N from by omega]
    exact refCount8_mid N w (by omega)
  · rw [ndsI, show min n.toNat 3621 = 3621 from by omega]
    exact refCount8_big n w h
end Go.Proofs.YtipeeidkfhddcaaDoor
