/-
  What the statement ReachOn answers, by the properties of reach's functions.
-/
import Derived.Test.YtipeeidkfhddcaaDoorReachLaw1
namespace Go.Proofs.YtipeeidkfhddcaaDoor
open Go.RowKit
set_option maxRecDepth 100000
set_option linter.unusedVariables false

theorem okL_int {l : List Int} (h : okL l) : intL (l.map Int.toNat) = l := by
  induction l with
  | nil => rfl
  | cons a t ih =>
    have h1 := h a (by simp)
    have h2 := ih fun b hb => h b (by simp [hb])
    simp only [intL, List.map_cons, List.map_map] at h2 ⊢
    rw [h2]
    congr 1
    simp
    omega
theorem okL_lt {l : List Int} (h : okL l) : ∀ b ∈ l.map Int.toNat, b < 3621 := by
  intro b hb
  obtain ⟨a, ha, rfl⟩ := List.mem_map.1 hb
  have := h a ha
  omega

set_option maxHeartbeats 800000 in
theorem reachOn_walk (w : World) (HPC : PathC w) (HNC : NumberC w) (HCC : CountC w) (HOC : NodesC w) (A : Option Addr) (m c : Nat) (l : List Int) (hl : l.length = m) (hc : m ≤ c) (hm : c ≤ maxLen) (hr : Rd w w.heap.size A (l.map iv)) (hbd : ∀ y ∈ l, -9223372036854775808 ≤ y ∧ y ≤ 9223372036854775807) :
    Calls Tryd.prog 5 #[.slice A m c] w fun e w' => e = .returned (.bool true) ∧ Below w.heap.size w w' := by
  have HOC := Lib.hid HOC
  have HAW := Lib.hid (awakeR_any HPC HNC HCC)
  have HM := Lib.hid hm
  clear HPC HNC HCC
  obtain ⟨m', l', hc', HBD, HL, HR, hm9, hcase⟩ : ∃ (m' : Nat) (l' : List Int), m' ≤ c ∧ Hid (∀ y ∈ l', -9223372036854775808 ≤ y ∧ y ≤ 9223372036854775807) ∧ Hid (l'.length = m') ∧ Hid (Rd w w.heap.size A (l'.map iv)) ∧ m' ≤ 9 ∧ ((9 < m ∧ m' = 9 ∧ ∃ b o, A = some ⟨b, o, none⟩) ∨ (m ≤ 9 ∧ m' = m)) := by
    by_cases h : 9 < m
    · obtain ⟨b, o, h1, _⟩ := hr.plain (by rw [List.length_map]; omega)
      exact ⟨9, l.take 9, by omega, fun y hy => hbd y (List.mem_of_mem_take hy), by show _ = _; rw [List.length_take]; omega, by show Rd _ _ _ _; rw [List.map_take]; exact hr.take 9, Nat.le_refl _, .inl ⟨h, rfl, b, o, h1⟩⟩
    · exact ⟨m, l, hc, hbd, hl, hr, by omega, .inr ⟨by omega, rfl⟩⟩
  have HN := Lib.hid (HOC.out.call A m' c l' w HL.out hc' hm (by omega) HR.out HBD.out)
  have HON : Hid (∀ w1, Below w.heap.size w w1 → okL l' → Calls Tryd.prog 22 #[.slice A m' c] w1 fun e w' => ∃ g, e = .returned (.slice (some ⟨g, 0, none⟩) 258 258) ∧ Bk w' g 4 (flC (onL (l'.map Int.toNat))) ∧ Below w1.heap.size w1 w') := fun w1 hb hok =>
    refOn8_any w.heap.size A m' c (l'.map Int.toNat) w1 (by rw [List.length_map]; exact HL.out) (by omega) (by rw [okL_int hok]; exact HR.out.below hb) hb.size (okL_lt hok)
  unfold maxLen at hm
  clear hl hr HOC hbd
  rcases hcase with ⟨h9, rfl, b, o, rfl⟩ | ⟨h9, rfl⟩
  all_goals
    go_enter Tryd.func5, Tryd.ntmps5
    go_wp2_with fail
    refine HN.out.mono ?_
    rintro e w1 ⟨A1, k1, c1, ns, q, rfl, hcs, hl1, hk1, hm1, hr1, hb1⟩
    have HCS := Lib.hid hcs
    have HR1 := Lib.hid hr1
    have HL1 := Lib.hid hl1
    have HB1 := Lib.hid hb1
    have HR := Lib.hid ((HR.out.below hb1).mono hb1.size)
    unfold maxLen at hm1
    clear hcs hr1 hl1 hb1 HN
    go_wp2_with fail
    go_loop [5] (fun i => ∃ k : Nat, k ≤ l'.length ∧ i = .int .i64 k ∧ Hid (∀ j y, j < k → l'[j]? = some y → 0 ≤ y ∧ y ≤ 3620)) (fun i => l'.length - (intOf i).toNat)
    case atStart => exact ⟨0, Nat.zero_le _, rfl, fun j y h => absurd h (by omega)⟩
    case round =>
      obtain ⟨k, hk, rfl, HALL⟩ := hrel
      rw [HL.out] at hk
      by_cases hlt : k < l'.length
      · obtain ⟨y, hy⟩ : ∃ y, l'[k]? = some y := ⟨_, List.getElem?_eq_getElem hlt⟩
        rw [HL.out] at hlt
        obtain ⟨bA, oA, hA, -, hcc⟩ := HR.out.plain (by rw [List.length_map, HL.out]; omega)
        have c0 := hcc k (.int .i64 y) (by rw [List.getElem?_map, hy]; rfl)
        have HY := Lib.hid hy
        clear hcc hy
        first | (injection hA with hA; injection hA with e1 e2; subst e1; subst e2) | subst hA
        by_cases hok : 0 ≤ y ∧ y ≤ 3620
        · obtain ⟨y0, y1⟩ := hok
          go_wp2
          go_round
          case rel =>
            refine ⟨k + 1, by rw [HL.out]; omega, by go_num, fun j z hj hz => ?_⟩
            by_cases e : j = k
            · subst e; rw [HY.out] at hz; cases hz; exact ⟨y0, y1⟩
            · exact HALL.out j z (by omega) hz
          case measure => simp [intOf, HL.out]; omega
        · have hno : ¬ okL l' := fun h => hok (h y (List.mem_of_getElem? HY.out))
          obtain ⟨hns, hq⟩ : ns = [] ∧ q = 4 := by
            rcases HCS.out with ⟨h, _⟩ | ⟨_, h1, h2⟩
            · exact absurd h hno
            · exact ⟨h1, h2⟩
          subst hns
          subst hq
          obtain rfl : k1 = 0 := by rw [← HL1.out]; rfl
          clear hno HCS HALL HY
          rcases (show y < 0 ∨ (0 ≤ y ∧ 3620 < y) by omega) with h | ⟨h, h'⟩
          all_goals
            go_wp2_with fail
            refine (HAW.out.call _).mono ?_
            rintro e w2 ⟨rfl, hb2⟩
            have HB2 := Lib.hid (HB1.out.trans (hb2.mono HB1.out.size))
            clear hb2
            go_wp2
            go_ret
            exact ⟨rfl, HB2.out⟩
      · rw [HL.out] at hlt
        have hok : okL l' := fun b hb => by
          obtain ⟨j, hj, e⟩ := List.mem_iff_getElem.1 hb
          exact HALL.out j b (by have := HL.out; omega) (by rw [List.getElem?_eq_getElem hj, e])
        obtain ⟨hns, hq⟩ : ns = idxF (onL (l'.map Int.toNat)) 258 ∧ q = 0 := by
          rcases HCS.out with ⟨_, h1, h2⟩ | ⟨h, _⟩
          · exact ⟨h1, h2⟩
          · exact absurd hok h
        subst hq
        have HOK := Lib.hid hok
        have HNS := Lib.hid hns
        have HON := Lib.hid (HON.out w1 HB1.out hok)
        clear hok hns HCS HALL
        go_wp2_with fail
        refine HON.out.mono ?_
        rintro e w2 ⟨g, rfl, hbk, hb2⟩
        have HR1 := Lib.hid ((HR1.out.below hb2).mono hb2.size)
        have HB2 := Lib.hid (HB1.out.trans (hb2.mono HB1.out.size))
        have HNU := Lib.hid (refNumbers8_any w2.heap.size (some ⟨g, 0, none⟩) 258 258 (onL (l'.map Int.toNat)) w2 (by omega) (fl_rd hbk) (Nat.le_refl _))
        clear hb2 hbk HON
        go_wp2_with fail
        refine HNU.out.mono ?_
        rintro e w3 ⟨v3, rfl, ⟨A3, k3, c3, rfl, hl3, hk3, hm3, hr3⟩, hb3⟩
        have HR1 := Lib.hid ((HR1.out.below hb3).mono hb3.size)
        have HB3 := Lib.hid (HB2.out.trans (hb3.mono HB2.out.size))
        unfold maxLen at hm3
        have HS := Lib.hid (refSame8_any w3.heap.size w3.heap.size A1 A3 k1 c1 k3 c3 ns _ true w3 HL1.out hl3 (by omega) (by omega) HR1.out hr3 (Nat.le_refl _) (Nat.le_refl _) (by rw [HNS.out]; simp))
        clear hl3 hr3 hb3 HNU
        go_wp2_with fail
        refine HS.out.mono ?_
        rintro e w4 ⟨rfl, hb4⟩
        have HB4 := Lib.hid (HB3.out.trans (hb4.mono HB3.out.size))
        clear hb4 HS
        go_wp2_with fail
        refine (HAW.out.call _).mono ?_
        rintro e w5 ⟨rfl, hb5⟩
        have HB5 := Lib.hid (HB4.out.trans (hb5.mono HB4.out.size))
        clear hb5
        go_wp2
        go_ret
        exact ⟨rfl, HB5.out⟩
end Go.Proofs.YtipeeidkfhddcaaDoor
