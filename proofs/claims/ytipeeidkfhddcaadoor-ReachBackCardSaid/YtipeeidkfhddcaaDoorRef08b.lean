/-
  What the document's answers Path, Block, Node, Number of layer 8 are.
-/
import Derived.Test.YtipeeidkfhddcaaDoorRef08
namespace Go.Proofs.YtipeeidkfhddcaaDoor
open Go.RowKit
set_option maxRecDepth 100000
set_option linter.unusedVariables false

/-- the path of a block as it is known -/
theorem path_parts (k : Nat) (h : k < 3621) : ∃ a t, pathI k = a :: t ∧ 0 ≤ a ∧ a ≤ 8 ∧ t.length ≤ 3 ∧ (a ≤ 5 → t = []) ∧ ∀ d ∈ t, 0 ≤ d ∧ d ≤ 14 := pth_path k h
theorem next_at (k : Nat) (v : Value) (w : World) (h : k < 3621) (hv : Ints w (pathI k) v) :
    Calls Tryd.prog 27 #[v] w fun e w' => ∃ v', e = .returned v' ∧ Ints w' (if k + 1 < 3621 then pathI (k + 1) else []) v' ∧ Below w.heap.size w w' := by
  obtain ⟨a, t, e, h0, h8, ht, ha, hd⟩ := path_parts k h
  have hn := nextI_path k h
  rw [e] at hv hn
  obtain ⟨A, n, c, rfl, hl, hc, hcm, hr, _⟩ := hv
  refine (refNext_any w.heap.size A n c a t w (by simpa using hl) hr (Nat.le_refl _) h0 h8 ht ha hd).mono ?_
  rintro e' w' ⟨v', rfl, hv', hb⟩
  refine ⟨v', rfl, ?_, hb⟩
  rw [hn] at hv'
  by_cases h1 : k = 3620
  · rw [if_pos h1] at hv'; rw [if_neg (by omega)]; exact hv'
  · rw [if_neg h1] at hv'; rw [if_pos (by omega)]; exact hv'
/-- the document's path -/
def refP (n : Int) : List Int := if 0 ≤ n ∧ n ≤ 3620 then pathI n.toNat else []

set_option maxHeartbeats 2000000 in
theorem refPath8_any (n : Int) (w : World) :
    Calls Tryd.prog 11 #[.int .i64 n] w fun e w' => ∃ v, e = .returned v ∧ Ints w' (refP n) v ∧ Below w.heap.size w w' := by
  by_cases hn : 0 ≤ n ∧ n ≤ 3620
  · obtain ⟨k0, rfl⟩ := Int.eq_ofNat_of_zero_le hn.1
    have hk0 : k0 ≤ 3620 := by omega
    have d1 : decide ((k0 : Int) < 0) = false := decide_eq_false (by omega)
    have d2 : decide (3620 < (k0 : Int)) = false := decide_eq_false (by omega)
    have HE : Hid (refP (k0 : Int) = pathI k0) := by show _ = _; rw [refP, if_pos hn]; rfl
    have HI0 : Hid (Ints (w.alloc (.cells #[.int .i64 0] 3)) (pathI 0) (.slice (some ⟨w.heap.size, 0, none⟩) 1 1)) :=
      Ints.own (base := w.heap.size) (n := 1) (own_of_bk (xs := [0].map iv) (Bk.new w 3 #[.int .i64 0]) (Nat.le_refl _) rfl (by simp [maxLen])) (by decide)
    have HB0 := Lib.hid ((Below.refl w.heap.size w).alloc (Nat.le_refl _) (.cells #[.int .i64 0] 3))
    clear hn
    go_enter Tryd.func11, Tryd.ntmps11
    go_wp2
    go_loopw [3, 4] (fun p i wr => ∃ k : Nat, k ≤ k0 ∧ i = .int .i64 k ∧ Hid (Ints wr (pathI k) p) ∧ Hid (Below w.heap.size w wr)) (fun _ i _ => k0 - (intOf i).toNat)
    case atStart => exact ⟨0, Nat.zero_le _, rfl, HI0.out, HB0.out⟩
    case round =>
      obtain ⟨k, hk, rfl, HI, HB⟩ := hrel
      clear HI0 HB0
      obtain ⟨Ar, nr, cr, hre, -⟩ := HI.out
      subst hre
      by_cases hlt : k < k0
      · go_wp2_with fail
        refine (next_at k _ wr (by omega) HI.out).mono ?_
        rintro e w1 ⟨v', rfl, hv', hb1⟩
        rw [if_pos (show k + 1 < 3621 by omega)] at hv'
        have HI1 := Lib.hid hv'
        have HB1 := Lib.hid (HB.out.trans (hb1.mono HB.out.size))
        clear hv' hb1 HI HB
        go_wp2
        go_roundw
        case rel => exact ⟨k + 1, by omega, by go_num, HI1.out, HB1.out⟩
        case measure => simp [intOf]; omega
      · obtain rfl : k = k0 := by omega
        go_wp2
        go_ret
        exact ⟨_, rfl, by rw [HE.out]; exact HI.out, HB.out⟩
  · have HE : Hid (refP n = []) := by show _ = _; rw [refP, if_neg hn]
    rcases (show n < 0 ∨ (0 ≤ n ∧ 3620 < n) by omega) with h1 | ⟨h1, h2⟩
    all_goals
      clear hn
      go_enter Tryd.func11, Tryd.ntmps11
      go_wp2
      go_ret
      exact ⟨_, rfl, by rw [HE.out]; exact Ints.nil _, Below.refl _ _⟩

/-- the block of a path, or none -/
def IsBlk (l : List Int) (r : Int) : Prop := (∃ k : Nat, k < 3621 ∧ pathI k = l ∧ r = k) ∨ ((∀ k : Nat, k < 3621 → pathI k ≠ l) ∧ r = -1)
theorem isBlk_path {k : Nat} {l : List Int} {r : Int} (h : IsBlk l r) (hk : k < 3621) (e : pathI k = l) : r = k := by
  rcases h with ⟨j, hj, e', rfl⟩ | ⟨h, _⟩
  · rw [path_inj hj hk (e'.trans e.symm)]
  · exact absurd e (h k hk)
theorem isBlk_none {l : List Int} {r : Int} (h : IsBlk l r) (hn : ∀ k : Nat, k < 3621 → pathI k ≠ l) : r = -1 := by
  rcases h with ⟨j, hj, e', rfl⟩ | ⟨_, h⟩
  · exact absurd e' (hn j hj)
  · exact h
set_option maxHeartbeats 2000000 in
theorem refBlock8_any (A : Option Addr) (m c : Nat) (l : List Int) (r : Int) (w : World) (hl : l.length = m) (hm : m ≤ 9223372036854775807) (hr : Rd w w.heap.size A (l.map iv)) (hres : IsBlk l r) :
    Calls Tryd.prog 14 #[.slice A m c] w fun e w' => e = .returned (.int .i64 r) ∧ Below w.heap.size w w' := by
  have HL := Lib.hid hl
  have HR := Lib.hid hr
  have HRES := Lib.hid hres
  have HI0 : Hid (Ints (w.alloc (.cells #[.int .i64 0] 3)) (pathI 0) (.slice (some ⟨w.heap.size, 0, none⟩) 1 1)) :=
    Ints.own (base := w.heap.size) (n := 1) (own_of_bk (xs := [0].map iv) (Bk.new w 3 #[.int .i64 0]) (Nat.le_refl _) rfl (by simp [maxLen])) (by decide)
  have HB0 := Lib.hid ((Below.refl w.heap.size w).alloc (Nat.le_refl _) (.cells #[.int .i64 0] 3))
  clear hl hr hres
  go_enter Tryd.func14, Tryd.ntmps14
  go_wp2
  go_loopw [3, 4] (fun p i wr => ∃ k : Nat, k ≤ 3621 ∧ i = .int .i64 k ∧ Hid (∀ j : Nat, j < k → pathI j ≠ l) ∧ Hid (Ints wr (if k < 3621 then pathI k else []) p) ∧ Hid (Below w.heap.size w wr)) (fun _ i _ => 3621 - (intOf i).toNat)
  case atStart => exact ⟨0, Nat.zero_le _, rfl, fun j h => absurd h (by omega), HI0.out, HB0.out⟩
  case round =>
    obtain ⟨k, hk, rfl, HALL, HI, HB⟩ := hrel
    clear HI0 HB0
    obtain ⟨Ar, nr, cr, hre, hlr, hcr, hcm, hrr, -⟩ := HI.out
    subst hre
    by_cases hlt : k < 3621
    · rw [if_pos hlt] at hlr hrr HI
      have h4 := (path_length k).2
      obtain ⟨t, ht⟩ : ∃ t, decide (pathI k = l) = t := ⟨_, rfl⟩
      have HS := Lib.hid (refSame8_any wr.heap.size w.heap.size Ar A nr cr m c (pathI k) l t wr hlr HL.out (by omega) (by omega) hrr (HR.out.below HB.out) (Nat.le_refl _) HB.out.size (by rw [← ht]; exact decide_eq_true_iff))
      have HTT := Lib.hid ht
      clear hlr hcr hcm hrr h4 ht
      go_wp2_with fail
      refine HS.out.mono ?_
      rintro e w1 ⟨rfl, hb1⟩
      have HI1 := Lib.hid (HI.out.up hb1)
      have HB1 := Lib.hid (HB.out.trans (hb1.mono HB.out.size))
      clear hb1 HI HB HS
      cases t
      · have hne := of_decide_eq_false HTT.out
        have HALL1 : Hid (∀ j : Nat, j < k + 1 → pathI j ≠ l) := fun j hj => by
          by_cases e : j = k
          · subst e; exact hne
          · exact HALL.out j (by omega)
        clear hne
        go_wp2_with fail
        refine (next_at k _ w1 hlt HI1.out).mono ?_
        rintro e w2 ⟨v', rfl, hv', hb2⟩
        have HI2 := Lib.hid hv'
        have HB2 := Lib.hid (HB1.out.trans (hb2.mono HB1.out.size))
        clear hv' hb2 HI1 HB1
        go_wp2
        go_roundw
        case rel => exact ⟨k + 1, by omega, by go_num, HALL1.out, HI2.out, HB2.out⟩
        case measure => simp [intOf]; omega
      · have HK : Hid (r = k) := isBlk_path HRES.out hlt (of_decide_eq_true HTT.out)
        go_wp2
        go_ret
        exact ⟨by rw [HK.out]; rfl, HB1.out⟩
    · obtain rfl : k = 3621 := by omega
      have HK : Hid (r = -1) := isBlk_none HRES.out HALL.out
      clear hlr hcr hcm hrr
      go_wp2
      go_ret
      exact ⟨by rw [HK.out]; rfl, HB.out⟩

/-- the document's node -/
def refN (n : Int) : List Int := if 0 ≤ n ∧ n < 258 then nodI n.toNat else []
theorem refN_at (k : Nat) (h : k < 258) : refN (k : Int) = nodI k := by rw [refN, if_pos (by omega)]; rfl
theorem nodI_a (j : Nat) (h : j < 3) : nodI j = [((6 + j : Nat) : Int)] := if_pos h
theorem nodI_b (j a : Nat) (hj : j < 2) (ha : a < 15) : nodI (3 + 15 * j + a) = [((7 + j : Nat) : Int), (a : Int)] := by
  rcases (show j = 0 ∨ j = 1 by omega) with rfl | rfl
  · rw [nodI, if_neg (by omega), if_pos (by omega), show 3 + 15 * 0 + a - 3 = a from by omega]; rfl
  · rw [nodI, if_neg (by omega), if_neg (by omega), if_pos (by omega), show 3 + 15 * 1 + a - 18 = a from by omega]; rfl
theorem nodI_c (a b : Nat) (ha : a < 15) (hb : b < 15) : nodI (33 + 15 * a + b) = [8, (a : Int), (b : Int)] := by
  rw [nodI, if_neg (by omega), if_neg (by omega), if_neg (by omega), show (33 + 15 * a + b - 33) / 15 = a from by omega, show (33 + 15 * a + b - 33) % 15 = b from by omega]
theorem Ints.new {w : World} {l : List Int} {n : Nat} (cs : Array Value) (hc : cs = (l.map iv).toArray) (hl : l.length = n) (h0 : l ≠ []) (hm : n ≤ 100) : Ints (w.alloc (.cells cs 3)) l (.slice (some ⟨w.heap.size, 0, none⟩) n n) := by
  subst hc
  exact Ints.own (base := w.heap.size) (n := n) (own_of_bk (Bk.new w 3 _) (Nat.le_refl _) (by simpa using hl) (by unfold maxLen; omega)) h0

set_option maxHeartbeats 4000000 in
theorem refNode8_any (n : Int) (w : World) :
    Calls Tryd.prog 19 #[.int .i64 n] w fun e w' => ∃ v, e = .returned v ∧ Ints w' (refN n) v ∧ Below w.heap.size w w' := by
  have HNEW := Lib.hid (fun o => (Below.refl w.heap.size w).alloc (Nat.le_refl _) o)
  go_enter Tryd.func19, Tryd.ntmps19
  go_wp2
  go_loop [3, 4] (fun v s => ∃ j : Nat, j ≤ 3 ∧ v = .int .i64 j ∧ s = .int .i64 ((6 + j : Nat) : Int) ∧ ∀ i : Nat, i < j → (i : Int) ≠ n) (fun v _ => 3 - (intOf v).toNat)
  case atStart => exact ⟨0, Nat.zero_le _, rfl, rfl, fun i h => absurd h (by omega)⟩
  case round =>
    obtain ⟨j, hj, rfl, rfl, hall⟩ := hrel
    have HALL := Lib.hid hall
    clear hall
    by_cases hlt : j < 3
    · by_cases he : (j : Int) = n
      · subst he
        have HE : Hid (refN (j : Int) = [((6 + j : Nat) : Int)]) := by show _ = _; rw [refN_at j (by omega), nodI_a j hlt]
        have hlt' : ((6 + j : Nat) : Int) < 9 := by omega
        go_wp2
        go_ret
        exact ⟨_, rfl, by rw [HE.out]; exact Ints.new _ rfl rfl (by simp) (by omega), HNEW.out _⟩
      · have hne : ((j : Int) == n) = false := by simp [he]
        have hlt' : ((6 + j : Nat) : Int) < 9 := by omega
        have HALL1 : Hid (∀ i : Nat, i < j + 1 → (i : Int) ≠ n) := fun i hi => by
          by_cases e : i = j
          · subst e; exact he
          · exact HALL.out i (by omega)
        clear he
        go_wp2
        go_round
        case rel => exact ⟨j + 1, by omega, by go_num, by go_num, HALL1.out⟩
        case measure => simp [intOf]; omega
    · obtain rfl : j = 3 := by omega
      go_wp2
      go_loop [3, 5] (fun v s => ∃ j : Nat, j ≤ 2 ∧ v = .int .i64 ((3 + 15 * j : Nat) : Int) ∧ s = .int .i64 ((7 + j : Nat) : Int) ∧ Hid (∀ i : Nat, i < 3 + 15 * j → (i : Int) ≠ n)) (fun _ s => 9 - (intOf s).toNat)
      case atStart => exact ⟨0, Nat.zero_le _, rfl, rfl, HALL.out⟩
      case round =>
        obtain ⟨j, hj, rfl, rfl, HALL⟩ := hrel
        by_cases hlt : j < 2
        · have hlt' : ((7 + j : Nat) : Int) < 9 := by omega
          go_wp2
          go_loop [3, 6] (fun v s => ∃ a : Nat, a ≤ 15 ∧ v = .int .i64 ((3 + 15 * j + a : Nat) : Int) ∧ s = .int .i64 a ∧ Hid (∀ i : Nat, i < 3 + 15 * j + a → (i : Int) ≠ n)) (fun _ s => 15 - (intOf s).toNat)
          case atStart => exact ⟨0, Nat.zero_le _, rfl, rfl, HALL.out⟩
          case round =>
            obtain ⟨a, ha, rfl, rfl, HALL⟩ := hrel
            by_cases hla : a < 15
            · by_cases he : ((3 + 15 * j + a : Nat) : Int) = n
              · have HE : Hid (refN n = [((7 + j : Nat) : Int), (a : Int)]) := by show _ = _; rw [← he, refN_at _ (by omega), nodI_b j a hlt hla]
                have heq : (((3 + 15 * j + a : Nat) : Int) == n) = true := by simpa using he
                clear he
                go_wp2
                go_ret
                exact ⟨_, rfl, by rw [HE.out]; exact Ints.new _ rfl rfl (by simp) (by omega), HNEW.out _⟩
              · have hne : (((3 + 15 * j + a : Nat) : Int) == n) = false := by simpa using he
                have HALL1 : Hid (∀ i : Nat, i < 3 + 15 * j + (a + 1) → (i : Int) ≠ n) := fun i hi => by
                  by_cases e : i = 3 + 15 * j + a
                  · subst e; exact he
                  · exact HALL.out i (by omega)
                clear he
                go_wp2
                go_round
                case rel => exact ⟨a + 1, by omega, by go_num, by go_num, HALL1.out⟩
                case measure => simp [intOf]; omega
            · obtain rfl : a = 15 := by omega
              have HALL1 : Hid (∀ i : Nat, i < 3 + 15 * (j + 1) → (i : Int) ≠ n) := fun i hi => HALL.out i (by omega)
              go_wp2
              go_round
              case rel => exact ⟨j + 1, by omega, by go_num, by go_num, HALL1.out⟩
              case measure => simp [intOf]; omega
        · obtain rfl : j = 2 := by omega
          go_wp2
          go_loop [3, 7] (fun v s => ∃ j : Nat, j ≤ 15 ∧ v = .int .i64 ((33 + 15 * j : Nat) : Int) ∧ s = .int .i64 j ∧ Hid (∀ i : Nat, i < 33 + 15 * j → (i : Int) ≠ n)) (fun _ s => 15 - (intOf s).toNat)
          case atStart => exact ⟨0, Nat.zero_le _, rfl, rfl, HALL.out⟩
          case round =>
            obtain ⟨j, hj, rfl, rfl, HALL⟩ := hrel
            by_cases hlt : j < 15
            · go_wp2
              go_loop [3, 8] (fun v s => ∃ a : Nat, a ≤ 15 ∧ v = .int .i64 ((33 + 15 * j + a : Nat) : Int) ∧ s = .int .i64 a ∧ Hid (∀ i : Nat, i < 33 + 15 * j + a → (i : Int) ≠ n)) (fun _ s => 15 - (intOf s).toNat)
              case atStart => exact ⟨0, Nat.zero_le _, rfl, rfl, HALL.out⟩
              case round =>
                obtain ⟨a, ha, rfl, rfl, HALL⟩ := hrel
                by_cases hla : a < 15
                · by_cases he : ((33 + 15 * j + a : Nat) : Int) = n
                  · have HE : Hid (refN n = [8, (j : Int), (a : Int)]) := by show _ = _; rw [← he, refN_at _ (by omega), nodI_c j a hlt hla]
                    have heq : (((33 + 15 * j + a : Nat) : Int) == n) = true := by simpa using he
                    clear he
                    go_wp2
                    go_ret
                    exact ⟨_, rfl, by rw [HE.out]; exact Ints.new _ rfl rfl (by simp) (by omega), HNEW.out _⟩
                  · have hne : (((33 + 15 * j + a : Nat) : Int) == n) = false := by simpa using he
                    have HALL1 : Hid (∀ i : Nat, i < 33 + 15 * j + (a + 1) → (i : Int) ≠ n) := fun i hi => by
                      by_cases e : i = 33 + 15 * j + a
                      · subst e; exact he
                      · exact HALL.out i (by omega)
                    clear he
                    go_wp2
                    go_round
                    case rel => exact ⟨a + 1, by omega, by go_num, by go_num, HALL1.out⟩
                    case measure => simp [intOf]; omega
                · obtain rfl : a = 15 := by omega
                  have HALL1 : Hid (∀ i : Nat, i < 33 + 15 * (j + 1) → (i : Int) ≠ n) := fun i hi => HALL.out i (by omega)
                  go_wp2
                  go_round
                  case rel => exact ⟨j + 1, by omega, by go_num, by go_num, HALL1.out⟩
                  case measure => simp [intOf]; omega
            · obtain rfl : j = 15 := by omega
              have HE : Hid (refN n = []) := by
                show _ = _
                rw [refN, if_neg]
                rintro ⟨h0, h1⟩
                obtain ⟨i, rfl⟩ := Int.eq_ofNat_of_zero_le h0
                exact HALL.out i (by omega) rfl
              go_wp2
              go_ret
              exact ⟨_, rfl, by rw [HE.out]; exact Ints.nil _, Below.refl _ _⟩

/-- the number of a node's name, or none -/
def IsNum (l : List Int) (r : Int) : Prop := (∃ k : Nat, k < 258 ∧ nodI k = l ∧ r = k) ∨ ((∀ k : Nat, k < 258 → nodI k ≠ l) ∧ r = -1)
theorem isNum_nod {k : Nat} {l : List Int} {r : Int} (h : IsNum l r) (hk : k < 258) (e : nodI k = l) : r = k := by
  rcases h with ⟨j, hj, e', rfl⟩ | ⟨h, _⟩
  · rw [nod_inj (e'.trans e.symm)]
  · exact absurd e (h k hk)
theorem isNum_none {l : List Int} {r : Int} (h : IsNum l r) (hn : ∀ k : Nat, k < 258 → nodI k ≠ l) : r = -1 := by
  rcases h with ⟨j, hj, e', rfl⟩ | ⟨_, h⟩
  · exact absurd e' (hn j hj)
  · exact h
set_option maxHeartbeats 2000000 in
theorem refNumber8_any (A : Option Addr) (m c : Nat) (l : List Int) (r : Int) (w : World) (hl : l.length = m) (hm : m ≤ 9223372036854775807) (hr : Rd w w.heap.size A (l.map iv)) (hres : IsNum l r) :
    Calls Tryd.prog 17 #[.slice A m c] w fun e w' => e = .returned (.int .i64 r) ∧ Below w.heap.size w w' := by
  have HL := Lib.hid hl
  have HR := Lib.hid hr
  have HRES := Lib.hid hres
  clear hl hr hres
  go_enter Tryd.func17, Tryd.ntmps17
  go_wp2
  go_loopw [3] (fun i wr => ∃ k : Nat, k ≤ 258 ∧ i = .int .i64 k ∧ Hid (∀ j : Nat, j < k → nodI j ≠ l) ∧ Hid (Below w.heap.size w wr)) (fun i _ => 258 - (intOf i).toNat)
  case atStart => exact ⟨0, Nat.zero_le _, rfl, fun j h => absurd h (by omega), Below.refl _ _⟩
  case round =>
    obtain ⟨k, hk, rfl, HALL, HB⟩ := hrel
    by_cases hlt : k < 258
    · go_wp2_with fail
      refine (refNode8_any (k : Int) wr).mono ?_
      rintro e w1 ⟨v, rfl, hv, hb1⟩
      rw [refN_at k hlt] at hv
      obtain ⟨Ar, nr, cr, rfl, hlr, hcr, hcm, hrr, -⟩ := hv
      have HB1 := Lib.hid (HB.out.trans (hb1.mono HB.out.size))
      have h3 := (nod_length k).2
      obtain ⟨t, ht⟩ : ∃ t, decide (nodI k = l) = t := ⟨_, rfl⟩
      have HS := Lib.hid (refSame8_any w1.heap.size w.heap.size Ar A nr cr m c (nodI k) l t w1 hlr HL.out (by omega) (by omega) hrr (HR.out.below HB1.out) (Nat.le_refl _) HB1.out.size (by rw [← ht]; exact decide_eq_true_iff))
      have HTT := Lib.hid ht
      clear hlr hcr hcm hrr h3 ht hb1 HB
      go_wp2_with fail
      refine HS.out.mono ?_
      rintro e w2 ⟨rfl, hb2⟩
      have HB2 := Lib.hid (HB1.out.trans (hb2.mono HB1.out.size))
      clear hb2 HB1 HS
      cases t
      · have hne := of_decide_eq_false HTT.out
        have HALL1 : Hid (∀ j : Nat, j < k + 1 → nodI j ≠ l) := fun j hj => by
          by_cases e : j = k
          · subst e; exact hne
          · exact HALL.out j (by omega)
        clear hne
        go_wp2
        go_roundw
        case rel => exact ⟨k + 1, by omega, by go_num, HALL1.out, HB2.out⟩
        case measure => simp [intOf]; omega
      · have HK : Hid (r = k) := isNum_nod HRES.out hlt (of_decide_eq_true HTT.out)
        go_wp2
        go_ret
        exact ⟨by rw [HK.out]; rfl, HB2.out⟩
    · obtain rfl : k = 258 := by omega
      have HK : Hid (r = -1) := isNum_none HRES.out HALL.out
      go_wp2
      go_ret
      exact ⟨by rw [HK.out]; rfl, HB.out⟩
end Go.Proofs.YtipeeidkfhddcaaDoor
