/-
  What the document's answer of layer 6 on the same parts is. (Printed by wip/tools/ref06.py.)
-/
import Derived.Test.YtjibjojnkieliaaDoorRef06
import Derived.Test.YtjibjojnkieliaaDoorRegTail
namespace Go.Proofs.YtjibjojnkieliaaDoor
open Go.RowKit
set_option linter.unusedVariables false

theorem en_ne {y1 y2 y3 z1 z2 z3 : Int} {y4 z4 : Nat} (h : (⟨y1, y2, y3, y4⟩ : En) ≠ ⟨z1, z2, z3, z4⟩) : ((y1 == z1) = false) ∨ (y1 = z1 ∧ (y2 == z2) = false) ∨ (y1 = z1 ∧ y2 = z2 ∧ (y3 == z3) = false) ∨ (y1 = z1 ∧ y2 = z2 ∧ y3 = z3 ∧ ((y4 : Int) == (z4 : Int)) = false) := by
  simp only [beq_eq_false_iff_ne, ne_eq]
  by_cases h1 : y1 = z1
  · by_cases h2 : y2 = z2
    · by_cases h3 : y3 = z3
      · right; right; right
        refine ⟨h1, h2, h3, fun h4 => h ?_⟩
        have : y4 = z4 := by omega
        subst h1 h2 h3 this
        rfl
      · exact .inr (.inr (.inl ⟨h1, h2, h3⟩))
    · exact .inr (.inl ⟨h1, h2⟩)
  · exact .inl h1
def slotR6 (i : Nat) : Nat := 41 + i
def waitR6 : Nat → List Nat
  | 1 => [0]
  | 3 => [1, 2]
  | 4 => [3]
  | 6 => [5]
  | 8 => [6, 7]
  | 9 => [8]
  | 10 => [4, 9]
  | _ => []
def leaveR6 (g b o b' o' n c c' k : Nat) (y1 y2 y3 : Int) (y4 : Nat) (z1 z2 z3 : Int) (z4 : Nat) : Nat → Value → World → Prop
  | 0, v, _ => v = .pointer (some ⟨g, 3, none⟩)
  | 1, v, _ => v = .slice (some ⟨b, o, none⟩) n c
  | 2, v, _ => v = .int .i64 (k : Int)
  | 3, v, _ => v = .pointer (some ⟨b, o + k * 4, none⟩)
  | 4, v, _ => v = .agg #[.int .i64 y1, .int .i64 y2, .int .i64 y3, .int .u32 (y4 : Int)]
  | 5, v, _ => v = .pointer (some ⟨g + 1, 3, none⟩)
  | 6, v, _ => v = .slice (some ⟨b', o', none⟩) n c'
  | 7, v, _ => v = .int .i64 (k : Int)
  | 8, v, _ => v = .pointer (some ⟨b', o' + k * 4, none⟩)
  | 9, v, _ => v = .agg #[.int .i64 z1, .int .i64 z2, .int .i64 z3, .int .u32 (z4 : Int)]
  | _, _, _ => True
set_option maxRecDepth 100000 in
set_option maxHeartbeats 4000000 in
theorem refSame_any (s x : Int) (f : Bool) (A : Option Addr) (n c : Nat) (l : List En) (s' x' : Int) (f' : Bool) (A' : Option Addr) (n' c' : Nat) (l' : List En) (t : Bool) (w : World) (hl : l.length = n) (hl' : l'.length = n') (hn : n ≤ 9223372036854775807) (hn' : n' ≤ 9223372036854775807)
    (hr : Rd w w.heap.size A (ensV l)) (hr' : Rd w w.heap.size A' (ensV l')) (ht : t = true ↔ (⟨s, x, f, l⟩ : Pt) = ⟨s', x', f', l'⟩) :
    Calls Tryd.prog 15 #[ptV s x f A n c, ptV s' x' f' A' n' c'] w fun e w' => e = .returned (.bool t) ∧ Below w.heap.size w w' := by
  have HB0 := Lib.hid (((Below.refl w.heap.size w).alloc (Nat.le_refl _) (.cells #[.int .i64 s, .int .i64 x, .bool f, .slice A n c] 24)).alloc (by simp) (.cells #[.int .i64 s', .int .i64 x', .bool f', .slice A' n' c'] 24))
  have K0 := Lib.hid ((Bk.new w 24 #[.int .i64 s, .int .i64 x, .bool f, .slice A n c]).alloc (.cells #[.int .i64 s', .int .i64 x', .bool f', .slice A' n' c'] 24))
  have K1 := Bk.new (w.alloc (.cells #[.int .i64 s, .int .i64 x, .bool f, .slice A n c] 24)) 24 #[.int .i64 s', .int .i64 x', .bool f', .slice A' n' c']
  rw [World.alloc_size'] at K1
  have K1 := Lib.hid K1
  obtain ⟨k0, k1, k2, k3, -⟩ := ent_cells K0.out
  obtain ⟨j0, j1, j2, j3, -⟩ := ent_cells K1.out
  have HL := Lib.hid hl
  have HL' := Lib.hid hl'
  have HR := Lib.hid hr
  have HR' := Lib.hid hr'
  have HT := Lib.hid ht
  clear hl hl' hr hr' ht
  unfold ptV
  by_cases h1 : s = s'
  · by_cases h2 : x = x'
    · by_cases h3 : f = f'
      · by_cases h4 : n = n'
        · subst h1 h2 h3 h4
          go_enter Tryd.func15, Tryd.ntmps15
          go_wp2
          go_loopw [5] (fun i wr => ∃ k : Nat, k ≤ n ∧ i = .int .i64 k ∧ Hid (∀ j, j < k → l[j]? = l'[j]?) ∧ Hid (Bk wr w.heap.size 24 #[.int .i64 s, .int .i64 x, .bool f, .slice A n c]) ∧ Hid (Bk wr (w.heap.size + 1) 24 #[.int .i64 s, .int .i64 x, .bool f, .slice A' n c']) ∧ Hid (Below w.heap.size w wr)) (fun i _ => n - (intOf i).toNat)
          case atStart => exact ⟨0, Nat.zero_le _, rfl, fun j h => absurd h (by omega), K0.out, K1.out, HB0.out⟩
          case round =>
            obtain ⟨k, hk, rfl, HALL, HK, HK', HB⟩ := hrel
            clear k0 k1 k2 k3 j0 j1 j2 j3 K0 K1 HB0
            obtain ⟨k0, k1, k2, k3, -⟩ := ent_cells HK.out
            obtain ⟨j0, j1, j2, j3, -⟩ := ent_cells HK'.out
            by_cases hlt : k < n
            · obtain ⟨y, hy⟩ : ∃ y, l[k]? = some y := ⟨_, List.getElem?_eq_getElem (by have := HL.out; omega)⟩
              obtain ⟨z, hz⟩ : ∃ z, l'[k]? = some z := ⟨_, List.getElem?_eq_getElem (by have := HL'.out; omega)⟩
              obtain ⟨b, o, rfl, -, -⟩ := HR.out.plain (by rw [ensV_length]; have := HL.out; omega)
              obtain ⟨b', o', rfl, -, -⟩ := HR'.out.plain (by rw [ensV_length]; have := HL'.out; omega)
              obtain ⟨y1, y2, y3, y4⟩ := y
              obtain ⟨z1, z2, z3, z4⟩ := z
              obtain ⟨n0, n1, n2, n3⟩ := ensV_get l k _ hy
              obtain ⟨m0, m1, m2, m3⟩ := ensV_get l' k _ hz
              have HKL : Hid (∀ w', Below wr.heap.size wr w' → w'.cell? ⟨b, o + k * 4, none⟩ = some (.int .i64 y1) ∧ w'.cell? ⟨b, o + k * 4 + 1, none⟩ = some (.int .i64 y2) ∧ w'.cell? ⟨b, o + k * 4 + 2, none⟩ = some (.int .i64 y3) ∧ w'.cell? ⟨b, o + k * 4 + 3, none⟩ = some (.int .u32 (y4 : Int))) := fun w' hb => by
                have hc := (HR.out.below (HB.out.trans (hb.mono HB.out.size)))
                refine ⟨?_, ?_, ?_, ?_⟩
                · obtain ⟨ad, e, _, hc⟩ := hc _ _ n0; cases e; rwa [add_plain] at hc
                · obtain ⟨ad, e, _, hc⟩ := hc _ _ n1; cases e; rwa [add_plain, ← Nat.add_assoc] at hc
                · obtain ⟨ad, e, _, hc⟩ := hc _ _ n2; cases e; rwa [add_plain, ← Nat.add_assoc] at hc
                · obtain ⟨ad, e, _, hc⟩ := hc _ _ n3; cases e; rwa [add_plain, ← Nat.add_assoc] at hc
              have HKL' : Hid (∀ w', Below wr.heap.size wr w' → w'.cell? ⟨b', o' + k * 4, none⟩ = some (.int .i64 z1) ∧ w'.cell? ⟨b', o' + k * 4 + 1, none⟩ = some (.int .i64 z2) ∧ w'.cell? ⟨b', o' + k * 4 + 2, none⟩ = some (.int .i64 z3) ∧ w'.cell? ⟨b', o' + k * 4 + 3, none⟩ = some (.int .u32 (z4 : Int))) := fun w' hb => by
                have hc := (HR'.out.below (HB.out.trans (hb.mono HB.out.size)))
                refine ⟨?_, ?_, ?_, ?_⟩
                · obtain ⟨ad, e, _, hc⟩ := hc _ _ m0; cases e; rwa [add_plain] at hc
                · obtain ⟨ad, e, _, hc⟩ := hc _ _ m1; cases e; rwa [add_plain, ← Nat.add_assoc] at hc
                · obtain ⟨ad, e, _, hc⟩ := hc _ _ m2; cases e; rwa [add_plain, ← Nat.add_assoc] at hc
                · obtain ⟨ad, e, _, hc⟩ := hc _ _ m3; cases e; rwa [add_plain, ← Nat.add_assoc] at hc
              have HKP : Hid (∀ w', Below wr.heap.size wr w' → Bk w' w.heap.size 24 #[.int .i64 s, .int .i64 x, .bool f, .slice (some ⟨b, o, none⟩) n c] ∧ Bk w' (w.heap.size + 1) 24 #[.int .i64 s, .int .i64 x, .bool f, .slice (some ⟨b', o', none⟩) n c']) := fun w' hb => ⟨HK.out.below hb HK.out.lt, HK'.out.below hb HK'.out.lt⟩
              have HY := Lib.hid hy
              have HZ := Lib.hid hz
              clear n0 n1 n2 n3 m0 m1 m2 m3 hy hz
              go_wp2_with fail
              refine wp_region_tail (by kernel_rfl) 10 52 slotR6 waitR6 (leaveR6 w.heap.size b o b' o' n c c' k y1 y2 y3 y4 z1 z2 z3 z4) rfl
                (by kernel_rfl) (fun i v w w' _ _ h => by unfold leaveR6 at *; split at h <;> exact h) ?_ ?_
              · intro i hi
                match i, hi with
                | 0, _ =>
                  intro o ho a wc hk hb hd K hK
                  cases ho
                  have e0 := hk.rest 2 (.pointer (some ⟨w.heap.size, 0, none⟩)) (by omega) (by kernel_rfl) rfl
                  rw [Array.getD_eq_getD_getElem?] at e0
                  go_simp
                  exact hK _ _ (Below.refl _ _) rfl
                | 1, _ =>
                  intro o ho a wc hk hb hd K hK
                  cases ho
                  have e0 := hd 0 (by simp [waitR6])
                  simp only [leaveR6, slotR6, Nat.reduceAdd, Array.getD_eq_getD_getElem?] at e0
                  obtain ⟨⟨c0, c1, c2, c3, -⟩, -⟩ := And.intro (ent_cells (HKP.out _ hb).1) trivial
                  go_simp
                  exact hK _ _ (Below.refl _ _) rfl
                | 2, _ =>
                  intro o ho a wc hk hb hd K hK
                  cases ho
                  have e0 := hk.rest 5 (.int .i64 (k : Int)) (by omega) (by kernel_rfl) rfl
                  rw [Array.getD_eq_getD_getElem?] at e0
                  go_simp
                  exact hK _ _ (Below.refl _ _) rfl
                | 3, _ =>
                  intro o ho a wc hk hb hd K hK
                  cases ho
                  have e0 := hd 1 (by simp [waitR6])
                  have e1 := hd 2 (by simp [waitR6])
                  simp only [leaveR6, slotR6, Nat.reduceAdd, Array.getD_eq_getD_getElem?] at e0 e1
                  go_simp
                  exact hK _ _ (Below.refl _ _) rfl
                | 4, _ =>
                  intro o ho a wc hk hb hd K hK
                  cases ho
                  have e0 := hd 3 (by simp [waitR6])
                  simp only [leaveR6, slotR6, Nat.reduceAdd, Array.getD_eq_getD_getElem?] at e0
                  obtain ⟨c0, c1, c2, c3⟩ := HKL.out _ hb
                  go_simp
                  exact hK _ _ (Below.refl _ _) rfl
                | 5, _ =>
                  intro o ho a wc hk hb hd K hK
                  cases ho
                  have e0 := hk.rest 3 (.pointer (some ⟨w.heap.size + 1, 0, none⟩)) (by omega) (by kernel_rfl) rfl
                  rw [Array.getD_eq_getD_getElem?] at e0
                  go_simp
                  exact hK _ _ (Below.refl _ _) rfl
                | 6, _ =>
                  intro o ho a wc hk hb hd K hK
                  cases ho
                  have e0 := hd 5 (by simp [waitR6])
                  simp only [leaveR6, slotR6, Nat.reduceAdd, Array.getD_eq_getD_getElem?] at e0
                  obtain ⟨⟨c0, c1, c2, c3, -⟩, -⟩ := And.intro (ent_cells (HKP.out _ hb).2) trivial
                  go_simp
                  exact hK _ _ (Below.refl _ _) rfl
                | 7, _ =>
                  intro o ho a wc hk hb hd K hK
                  cases ho
                  have e0 := hk.rest 5 (.int .i64 (k : Int)) (by omega) (by kernel_rfl) rfl
                  rw [Array.getD_eq_getD_getElem?] at e0
                  go_simp
                  exact hK _ _ (Below.refl _ _) rfl
                | 8, _ =>
                  intro o ho a wc hk hb hd K hK
                  cases ho
                  have e0 := hd 6 (by simp [waitR6])
                  have e1 := hd 7 (by simp [waitR6])
                  simp only [leaveR6, slotR6, Nat.reduceAdd, Array.getD_eq_getD_getElem?] at e0 e1
                  go_simp
                  exact hK _ _ (Below.refl _ _) rfl
                | 9, _ =>
                  intro o ho a wc hk hb hd K hK
                  cases ho
                  have e0 := hd 8 (by simp [waitR6])
                  simp only [leaveR6, slotR6, Nat.reduceAdd, Array.getD_eq_getD_getElem?] at e0
                  obtain ⟨c0, c1, c2, c3⟩ := HKL'.out _ hb
                  go_simp
                  exact hK _ _ (Below.refl _ _) rfl
                | _ + 10, h => exact absurd h (by omega)
              · intro vals w2 hb hR
                have v0 := hR 0 (by omega)
                have v1 := hR 1 (by omega)
                have v2 := hR 2 (by omega)
                have v3 := hR 3 (by omega)
                have v4 := hR 4 (by omega)
                have v5 := hR 5 (by omega)
                have v6 := hR 6 (by omega)
                have v7 := hR 7 (by omega)
                have v8 := hR 8 (by omega)
                have v9 := hR 9 (by omega)
                simp only [leaveR6] at v0 v1 v2 v3 v4 v5 v6 v7 v8 v9
                clear hR
                simp only [putAll, slotR6, Nat.reduceAdd, List.setIfInBounds_toArray, List.set_cons_zero, List.set_cons_succ, List.drop_succ_cons, List.drop_zero, v0, v1, v2, v3, v4, v5, v6, v7, v8, v9]
                clear v0 v1 v2 v3 v4 v5 v6 v7 v8 v9
                have HB2 := Lib.hid (HB.out.trans (hb.mono HB.out.size))
                have HKP2 := Lib.hid (HKP.out _ hb)
                clear hb HKP HKL HKL' k0 k1 k2 k3 j0 j1 j2 j3
                by_cases he : (⟨y1, y2, y3, y4⟩ : En) = ⟨z1, z2, z3, z4⟩
                · cases he
                  go_wp2
                  go_roundw
                  case rel =>
                    refine ⟨k + 1, by omega, by go_num, fun j hj => ?_, HKP2.out.1, HKP2.out.2, HB2.out⟩
                    by_cases e : j = k
                    · subst e; rw [HY.out, HZ.out]
                    · exact HALL.out j (by omega)
                  case measure => simp [intOf]; omega
                · have HF : Hid (t = false) := by
                    cases t with
                    | false => exact rfl
                    | true =>
                      exfalso
                      have h := HT.out.1 rfl
                      simp only [Pt.mk.injEq, true_and] at h
                      have h1 := HY.out
                      rw [h, HZ.out] at h1
                      exact he (Option.some.inj h1).symm
                  have hq := en_ne he
                  clear he
                  rcases hq with q1 | ⟨rfl, q1⟩ | ⟨rfl, rfl, q1⟩ | ⟨rfl, rfl, rfl, q1⟩
                  all_goals
                    go_wp2
                    go_ret
                    exact ⟨ret_bool HF.out.symm, HB2.out⟩
            · have HF : Hid (t = true) := by
                refine HT.out.2 ?_
                congr 1
                apply List.ext_getElem?
                intro j
                by_cases hj : j < k
                · exact HALL.out j hj
                · rw [List.getElem?_eq_none (by have := HL.out; omega), List.getElem?_eq_none (by have := HL'.out; omega)]
              go_wp2
              go_ret
              exact ⟨ret_bool HF.out.symm, HB.out⟩
        · have HF : Hid (t = false) := by
            cases t with
            | false => exact rfl
            | true =>
              have h := HT.out.1 rfl
              simp only [Pt.mk.injEq] at h
              exact absurd (by rw [← HL.out, ← HL'.out, h.2.2.2]) h4
          have hne : ((n : Int) == (n' : Int)) = false := by simp; omega
          subst h1 h2 h3
          clear h4
          go_enter Tryd.func15, Tryd.ntmps15
          go_wp2
          go_ret
          exact ⟨ret_bool HF.out.symm, HB0.out⟩
      · have HF : Hid (t = false) := by
          cases t with
          | false => exact rfl
          | true => exact absurd (by have h := HT.out.1 rfl; simp only [Pt.mk.injEq] at h; exact h.2.2.1) h3
        have hne : (f == f') = false := by simpa using h3
        subst h1 h2
        clear h3
        go_enter Tryd.func15, Tryd.ntmps15
        go_wp2
        go_ret
        exact ⟨ret_bool HF.out.symm, HB0.out⟩
    · have HF : Hid (t = false) := by
        cases t with
        | false => exact rfl
        | true => exact absurd (by have h := HT.out.1 rfl; simp only [Pt.mk.injEq] at h; exact h.2.1) h2
      have hne : (x != x') = true := by simpa using h2
      subst h1
      clear h2
      go_enter Tryd.func15, Tryd.ntmps15
      go_wp2
      go_ret
      exact ⟨ret_bool HF.out.symm, HB0.out⟩
  · have HF : Hid (t = false) := by
      cases t with
      | false => exact rfl
      | true => exact absurd (by have h := HT.out.1 rfl; simp only [Pt.mk.injEq] at h; exact h.1) h1
    have hne : (s != s') = true := by simpa using h1
    clear h1
    go_enter Tryd.func15, Tryd.ntmps15
    go_wp2
    go_ret
    exact ⟨ret_bool HF.out.symm, HB0.out⟩
end Go.Proofs.YtjibjojnkieliaaDoor
