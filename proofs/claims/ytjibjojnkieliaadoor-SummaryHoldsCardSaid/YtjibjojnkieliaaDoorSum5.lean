/-
  What summary.Whole does.
-/
import Derived.Test.YtjibjojnkieliaaDoorSum4
import Derived.Test.YtjibjojnkieliaaDoorRegTail
namespace Go.Proofs.YtjibjojnkieliaaDoor
open Go.RowKit Go.Shelf
set_option linter.unusedVariables false
attribute [local go_sem] Oper.semAt_some

theorem bk_own {β : Type} (B : Nat) (t : TypeId) (cs : Array Value) : Own (fun (_ : β) W => Bk W B t cs) := fun s X Y row hs hg hrow => by
  refine (hg.block B hs.lt (fun e => ?_)).trans hs
  obtain ⟨o, ho, hc⟩ := hrow B e.symm
  rw [show X.heap[B]? = _ from hs] at ho
  cases ho
  cases hc
theorem bk_own' {β : Type} (B : Nat) (t : TypeId) (cs : β → Array Value) : Own (fun (s : β) W => Bk W B t (cs s)) := fun s X Y row hs hg hrow => by
  refine (hg.block B (Bk.lt hs) (fun e => ?_)).trans hs
  obtain ⟨o, ho, hc⟩ := hrow B e.symm
  rw [show X.heap[B]? = _ from hs] at ho
  cases ho
  cases hc
theorem keepB_b {n₀ b : Nat} {w : World} (hn : n₀ ≤ w.heap.size) (hb : b < w.heap.size) (W : World) (l : Nat) (o o' : Obj) (hl : w.heap.size ≤ l) (h : W.heap[l]? = some o) (h1 : o.isCells = false) (h2 : o.isWalk = false) : KeepB n₀ b W (W.putObj l o') :=
  ⟨belowK_b hn W l o o' hl h h1 h2, World.putObj_heap_other (by omega)⟩
theorem bk_put {W : World} {g D : Nat} {t : TypeId} {cs : Array Value} (h : Bk W g t cs) {o : Obj} (hD : W.heap[D]? = some o) (ho : o.isCells = false) (o' : Obj) : Bk (W.putObj D o') g t cs := by
  refine (World.putObj_heap_other (fun e => ?_)).trans h
  rw [← e, show W.heap[g]? = _ from h] at hD
  cases hD
  cases ho

set_option maxHeartbeats 1000000 in
theorem sumWhole_no (s x : Int) (f : Bool) (A A' : Option Addr) (n c m c' : Nat) (l : List En) (ps : List Part) (w : World) (hl : l.length = n) (hm : ps.length = m) (hn : n ≤ 9223372036854775807) (hmm : m ≤ 9223372036854775807) (hr : Rd w w.heap.size A (ensV l)) (hp : PartsIn w w.heap.size A' ps)
    (h : ptOk ⟨s, x, f, l⟩ = false ∨ (decide (n = m) && all128 ps) = false) :
    Calls Tryd.prog 18 #[ptV s x f A n c, .slice A' m c'] w fun e w' => e = .returned (.bool false) ∧ Below w.heap.size w w' := by
  have K0 := Bk.new w 24 #[.int .i64 s, .int .i64 x, .bool f, .slice A n c]
  have HB0 := Lib.hid (((Below.refl w.heap.size w).alloc (Nat.le_refl _) (.cells #[.int .i64 s, .int .i64 x, .bool f, .slice A n c] 24)).alloc (by simp) (.cells #[.bool false] 4))
  have K0 := Lib.hid (K0.alloc (.cells #[.bool false] 4))
  have K1 := Bk.new (w.alloc (.cells #[.int .i64 s, .int .i64 x, .bool f, .slice A n c] 24)) 4 #[.bool false]
  rw [World.alloc_size'] at K1
  have K1 := Lib.hid K1
  obtain ⟨k0, k1, k2, k3, -⟩ := ent_cells K0.out
  obtain ⟨t, ht⟩ : ∃ t, ptOk ⟨s, x, f, l⟩ = t := ⟨_, rfl⟩
  have HM := Lib.hid (sumMay_any s x f w.heap.size A n c l t _ hl hn (hr.below HB0.out) HB0.out.size ht)
  have HPA := Lib.hid (fun w' (hb : Below w.heap.size w w') => sumpair_any w.heap.size A A' n c m c' ps _ w' hm hn hmm (hp.1.below hb) (fun p hpp => by have := (hp.2 p hpp).2; unfold maxLen at this; omega) rfl)
  have HH := Lib.hid h
  unfold ptV at HM ⊢
  clear h hr hl hm hp
  go_enter Tryd.func18, Tryd.ntmps18
  go_wp2_with fail
  refine HM.out.mono ?_
  rintro e w1 ⟨rfl, hb1⟩
  have HB1 := Lib.hid (HB0.out.trans (hb1.mono HB0.out.size))
  have K0 := Lib.hid (K0.out.below hb1 K0.out.lt)
  have K1 := Lib.hid (K1.out.below hb1 K1.out.lt)
  clear hb1 k0 k1 k2 k3 HM
  obtain ⟨k0, k1, k2, k3, -⟩ := ent_cells K0.out
  have r0 := K1.out.cell 0
  have r1 := K1.out.free 0
  have r2 := (K1.out.set_ 0 (.bool false)).cell 0
  cases t
  · go_wp2
    refine bodyPost_ret (v := .bool false) (by simp [results, Tryd.results18, go_sem, r2]) rfl ⟨rfl, ?_⟩
    exact HB1.out.setCell (p := ⟨w.heap.size + 1, 0, none⟩) (by simp) _
  · have hpf : (decide (n = m) && all128 ps) = false := by
      rcases HH.out with h | h
      · rw [ht] at h; cases h
      · exact h
    have hP := HPA.out w1 HB1.out
    rw [hpf] at hP
    have HP := Lib.hid hP
    clear hP hpf HPA ht
    go_wp2_with fail
    refine HP.out.mono ?_
    rintro e w2 ⟨rfl, rfl⟩
    go_wp2
    refine bodyPost_ret (v := .bool false) (by simp [results, Tryd.results18, go_sem, r2]) rfl ⟨rfl, ?_⟩
    exact HB1.out.setCell (p := ⟨w.heap.size + 1, 0, none⟩) (by simp) _

/-- the sums of the entries are those of their blocks -/
def SumsAre (l : List En) (ps : List Part) : Prop := ∀ (k : Nat) (y : En) (p : Part), l[k]? = some y → ps[k]? = some p → sumN p.2.2 = y.sum

theorem keepsFrom_up {B : Nat} {W W' : World} (hb : Below W.heap.size W W') : KeepsFrom B W W' := ⟨hb.size, fun k o _ hk _ => (hb.block k (Array.getElem?_eq_some_iff.1 hk).1).trans hk⟩
def slotW6 (i : Nat) : Nat := 23 + i
def waitW6 : Nat → List Nat
  | 2 => [1]
  | 4 => [2, 3]
  | 5 => [4]
  | 6 => [0, 5]
  | _ => []
def leaveW6 (g b o n c k : Nat) (y1 y2 y3 : Int) (y4 : Nat) (z1 z2 z3 : Int) (z4 : Nat) : Nat → Value → World → Prop
  | 0, v, _ => v = .agg #[.int .i64 y1, .int .i64 y2, .int .i64 y3, .int .u32 (y4 : Int)]
  | 1, v, _ => v = .pointer (some ⟨g, 3, none⟩)
  | 2, v, _ => v = .slice (some ⟨b, o, none⟩) n c
  | 3, v, _ => v = .int .i64 (k : Int)
  | 4, v, _ => v = .pointer (some ⟨b, o + k * 4, none⟩)
  | 5, v, _ => v = .agg #[.int .i64 z1, .int .i64 z2, .int .i64 z3, .int .u32 (z4 : Int)]
  | _, _, _ => True
set_option maxRecDepth 100000 in
set_option maxHeartbeats 4000000 in
theorem sumWhole_rest (s x : Int) (f : Bool) (A A' : Option Addr) (n c c' : Nat) (l : List En) (ps : List Part) (t : Bool) (w : World) (hl : l.length = n) (hm : ps.length = n) (hr : Rd w w.heap.size A (ensV l)) (hp : PartsIn w w.heap.size A' ps)
    (h : ptOk ⟨s, x, f, l⟩ = true) (h128 : all128 ps = true) (hT : Tab w) (ht : t = true ↔ SumsAre l ps) :
    Calls Tryd.prog 18 #[ptV s x f A n c, .slice A' n c'] w fun e w' => e = .returned (.bool t) ∧ Below w.heap.size w w' := by
  have hn13 : n ≤ 13 := by have := (headOk_yes (ptOk_yes h).1).2.2.2.2.2; simp only at this; omega
  obtain ⟨L, hL⟩ : ∃ L, withSums l (ps.map (·.2.2)) = L := ⟨_, rfl⟩
  have HLn : Hid (L.length = n) := by show _ = _; rw [← hL, withSums_length _ _ (by simp; omega), hl]
  have HL : Hid (∀ (k : Nat) (y : En) (p : Part), l[k]? = some y → ps[k]? = some p → L[k]? = some { y with sum := sumN p.2.2 }) := fun k y p h1 h2 => by
    rw [← hL]; exact withSums_get l _ k y p.2.2 h1 (by simp [h2])
  clear hL
  have K0 := Bk.new w 24 #[.int .i64 s, .int .i64 x, .bool f, .slice A n c]
  have HB0 := Lib.hid (((Below.refl w.heap.size w).alloc (Nat.le_refl _) (.cells #[.int .i64 s, .int .i64 x, .bool f, .slice A n c] 24)).alloc (by simp) (.cells #[.bool false] 4))
  have K0 := Lib.hid (K0.alloc (.cells #[.bool false] 4))
  have K1 := Bk.new (w.alloc (.cells #[.int .i64 s, .int .i64 x, .bool f, .slice A n c] 24)) 4 #[.bool false]
  rw [World.alloc_size'] at K1
  have K1 := Lib.hid K1
  obtain ⟨k0, k1, k2, k3, -⟩ := ent_cells K0.out
  have HM := Lib.hid (sumMay_any s x f w.heap.size A n c l true _ hl (by omega) (hr.below HB0.out) HB0.out.size h)
  have HPA := Lib.hid (fun w' (hb : Below w.heap.size w w') => sumpair_any w.heap.size A A' n c n c' ps true w' hm (by omega) (by omega) (hp.1.below hb) (fun p hpp => by have := (hp.2 p hpp).2; unfold maxLen at this; omega) (by simp [h128]))
  have HLL := Lib.hid hl
  have HMM := Lib.hid hm
  have HR := Lib.hid hr
  have HPI := Lib.hid hp
  have HT := Lib.hid hT
  have HTT := Lib.hid ht
  unfold ptV at HM ⊢
  clear h hr hl hm hp hT ht h128
  refine (callsIn_wide (n := 5)).1 ?_
  refine callsIn_of_wp_marks Tryd.func18 rfl trivial ?_ rfl
  simp only [Tryd.ntmps18, List.size_toArray, List.length_cons, List.length_nil, Nat.reduceAdd, Nat.reduceSub, Array.replicate_succ, Array.replicate_zero, List.push_toArray, List.append_toArray, List.nil_append, List.cons_append]
  refine wpIn_wide.2 ?_
  go_wp2_with fail
  refine HM.out.mono ?_
  rintro e w1 ⟨rfl, hb1⟩
  have HB1 := Lib.hid (HB0.out.trans (hb1.mono HB0.out.size))
  have K0 := Lib.hid (K0.out.below hb1 K0.out.lt)
  have K1 := Lib.hid (K1.out.below hb1 K1.out.lt)
  clear hb1 k0 k1 k2 k3 HM
  obtain ⟨k0, k1, k2, k3, -⟩ := ent_cells K0.out
  go_wp2_with fail
  refine (HPA.out w1 HB1.out).mono ?_
  rintro e w2 ⟨rfl, rfl⟩
  go_wp2_with fail
  refine (summed_any A A' n c n c' w1).mono ?_
  rintro e w3 ⟨rfl, hw3⟩
  have HB3 : Hid (Below w.heap.size w w3) := by rw [hw3]; exact (HB1.out.alloc HB1.out.size _).alloc (by have := HB1.out.size; simp; omega) _
  have hb13 : Below w1.heap.size w1 w3 := by rw [hw3]; exact ((Below.refl _ _).alloc (Nat.le_refl _) _).alloc (by simp) _
  have K0 := Lib.hid (K0.out.below hb13 K0.out.lt)
  have K1 := Lib.hid (K1.out.below hb13 K1.out.lt)
  have KS1 : Hid (Bk w3 w1.heap.size 22 #[.slice A n c]) := by rw [hw3]; exact (Bk.new w1 _ _).alloc _
  have KS2 : Hid (Bk w3 (w1.heap.size + 1) 39 #[.slice A' n c']) := by
    rw [hw3]
    have := Bk.new (w1.alloc (.cells #[.slice A n c] 22)) 39 #[.slice A' n c']
    rwa [World.alloc_size'] at this
  have hz3 : w3.heap.size = w1.heap.size + 1 + 1 := by rw [hw3]; simp
  have HZ1 := Lib.hid HB1.out.size
  clear hw3 hb13 k0 k1 k2 k3 HPA HB0
  go_wp2_with fail
  refine (wpIn_wide (n := 5)).1 ?_
  refine wpIn_rangeFunc_ownH rfl (by omega) (gf := 47) (lb := #[.pointer (some ⟨w1.heap.size, 0, none⟩), .pointer (some ⟨w1.heap.size + 1, 0, none⟩)]) rfl trivial (enters_of Tryd.func47 (by kernel_rfl) rfl)
    (summed_stops 4 w1.heap.size (w1.heap.size + 1) w.heap.size A A' n c c' l L ps w3 (by omega) HLL.out HMM.out HLn.out (by omega) HL.out KS1.out KS2.out HB3.out.size (HR.out.below HB3.out) ⟨HPI.out.1.below HB3.out, fun p hpp => ⟨(HPI.out.2 p hpp).1.below HB3.out, (HPI.out.2 p hpp).2⟩⟩ (HT.out.up HB3.out) HT.out.lt)
    KeepB.t (keepB_b HB3.out.size (by omega)) (Below.refl _ _) (fun _ => rfl)
    (fun pre W => (∀ k ∈ pre, ∀ y, l[k.1]? = some y → (L[k.1]'k.2).sum = y.sum) ∧ Bk W w.heap.size 24 #[.int .i64 s, .int .i64 x, .bool f, .slice A n c] ∧ Bk W (w.heap.size + 1) 4 #[.bool false] ∧ Below w.heap.size w W ∧ w3.heap.size ≤ W.heap.size)
    (fun co pre W => (co = .ret ∧ ¬ SumsAre l ps) ∧ Bk W (w.heap.size + 1) 4 #[.bool false] ∧ Below w.heap.size w W)
    (OwnFrom.and (ownFrom_pure _ _) (OwnFrom.and (Own.from (bk_own _ _ _) _) (OwnFrom.and (Own.from (bk_own _ _ _) _) (OwnFrom.and (ownFrom_below (Nat.le_refl _) (by have := HZ1.out; omega)) (fun _ _ _ _ hs hg _ => Nat.le_trans hs hg.size)))))
    (fun co => OwnFrom.and (ownFrom_pure _ _) (OwnFrom.and (Own.from (bk_own _ _ _) _) (ownFrom_below (Nat.le_refl _) (by have := HZ1.out; omega))))
    ⟨fun k hk => by simp at hk, K0.out, K1.out, HB3.out, Nat.le_refl _⟩
    (fun k a' W => ∃ Bx, w3.heap.size ≤ Bx ∧ Bk W Bx 60 (enV (L[k.1]'k.2)).toArray ∧ a' = { tmps := #[.agg #[.int .i64 s, .int .i64 x, .bool f, .slice A n c], .slice A' n c', .pointer (some ⟨w.heap.size, 0, none⟩), undef, .pointer (some ⟨w.heap.size + 1, 0, none⟩), .int .i64 ((k.1 : Nat) : Int), .pointer (some ⟨Bx, 0, none⟩),
      .agg #[.int .i64 s, .int .i64 x, .bool f, .slice A n c], .bool true, .bool false, .bool false, .pointer (some ⟨w.heap.size, 3, none⟩), .slice A n c, .slice A' n c', .bool true, .bool false, .bool false, .pointer (some ⟨w.heap.size, 3, none⟩), .slice A n c, .slice A' n c',
      .func (.func 47) #[] #[.pointer (some ⟨w1.heap.size, 0, none⟩), .pointer (some ⟨w1.heap.size + 1, 0, none⟩)], .int .i64 ((k.1 : Nat) : Int), enG (L[k.1]'k.2), undef, undef, undef, undef, undef, undef, undef], defers := [] })
    (fun k a' => fun _ W W' row hs hg hrow => by
      obtain ⟨Bx, h1, h2, h3⟩ := hs
      exact ⟨Bx, h1, Own.from (bk_own (β := Unit) Bx 60 _) _ () W W' row h2 hg hrow, h3⟩) ?assign ?body ?done ?stop
  case assign =>
    intro l0 pre k W K hi hK
    obtain ⟨y, hy⟩ : ∃ y, L[k.1]'k.2 = y := ⟨_, rfl⟩
    rw [hy] at hK
    simp only [enE, hy, enG]
    simp only [enG] at hK
    obtain ⟨y1, y2, y3, y4⟩ := y
    have hz := hi.2.2.2.1.size
    have hz' := hi.2.2.2.2
    have hlw : w1.heap.size + 1 < W.heap.size := by omega
    gi_wp2
    have hb := (Below.refl W.heap.size W).alloc (Nat.le_refl _) (.cells #[.int .i64 y1, .int .i64 y2, .int .i64 y3, .int .u32 (y4 : Int)] 60)
    exact hK _ _ (keepsFrom_up hb) ⟨hb.mono hz, hb.block _ hlw⟩ ⟨hi.1, hi.2.1.alloc _, hi.2.2.1.alloc _, hi.2.2.2.1.alloc hz _, by simp; omega⟩ ⟨W.heap.size, hz', Bk.new W _ _, rfl⟩
  case body =>
    rintro l0 pre k a' W hl0 - ⟨hpre, hkp, hkr, hbw, hsz⟩ ⟨Bx, hBx, hkx, rfl⟩ hlt
    obtain ⟨y, hy⟩ : ∃ y, L[k.1]'k.2 = y := ⟨_, rfl⟩
    rw [hy] at hkx
    simp only [hy, enG]
    have hkn : k.1 < n := by have := k.2; have := HLn.out; omega
    obtain ⟨z, hz⟩ : ∃ z, l[k.1]? = some z := ⟨_, List.getElem?_eq_getElem (by have := HLL.out; omega)⟩
    obtain ⟨p, hpk⟩ : ∃ p, ps[k.1]? = some p := ⟨_, List.getElem?_eq_getElem (by have := HMM.out; omega)⟩
    have hyz := HL.out k.1 z p hz hpk
    rw [List.getElem?_eq_getElem k.2, hy] at hyz
    obtain ⟨b, o, rfl, hbB, -⟩ := HR.out.plain (by rw [ensV_length]; have := HLL.out; omega)
    obtain ⟨n0, n1, n2, n3⟩ := ensV_get l k.1 z hz
    have HKX : Hid (∀ w', Below W.heap.size W w' → Bk w' Bx 60 (enV y).toArray) := fun w' hb => hkx.below hb hkx.lt
    have HKP : Hid (∀ w', Below W.heap.size W w' → Bk w' w.heap.size 24 #[.int .i64 s, .int .i64 x, .bool f, .slice (some ⟨b, o, none⟩) n c]) := fun w' hb => hkp.below hb hkp.lt
    have HKL : Hid (∀ w', Below W.heap.size W w' → w'.cell? ⟨b, o + k.1 * 4, none⟩ = some (.int .i64 z.kind) ∧ w'.cell? ⟨b, o + k.1 * 4 + 1, none⟩ = some (.int .i64 z.ino) ∧ w'.cell? ⟨b, o + k.1 * 4 + 2, none⟩ = some (.int .i64 z.index) ∧ w'.cell? ⟨b, o + k.1 * 4 + 3, none⟩ = some (.int .u32 (z.sum : Int))) := fun w' hb => by
      have hc := (HR.out.below (hbw.trans (hb.mono hbw.size)))
      refine ⟨?_, ?_, ?_, ?_⟩
      · obtain ⟨ad, e, _, hc⟩ := hc _ _ n0; cases e; rwa [add_plain] at hc
      · obtain ⟨ad, e, _, hc⟩ := hc _ _ n1; cases e; rwa [add_plain, ← Nat.add_assoc] at hc
      · obtain ⟨ad, e, _, hc⟩ := hc _ _ n2; cases e; rwa [add_plain, ← Nat.add_assoc] at hc
      · obtain ⟨ad, e, _, hc⟩ := hc _ _ n3; cases e; rwa [add_plain, ← Nat.add_assoc] at hc
    obtain ⟨y1, y2, y3, y4⟩ := y
    obtain ⟨z1, z2, z3, z4⟩ := z
    simp only [Option.some.injEq, En.mk.injEq] at hyz
    obtain ⟨rfl, rfl, rfl, hy4⟩ := hyz
    have HY4 := Lib.hid hy4
    clear hy4
    simp only at HKL
    gi_wp2_with fail
    refine wpIn_region_tail (by kernel_rfl) 6 30 slotW6 waitW6 (leaveW6 w.heap.size b o n c k.1 y1 y2 y3 y4 y1 y2 y3 z4) rfl
      (by kernel_rfl) (fun i v w w' _ _ h => by unfold leaveW6 at *; split at h <;> exact h) ?_ ?_
    · intro i hi
      match i, hi with
      | 0, _ =>
        intro o ho a wc hk hb hd K hK
        cases ho
        have e0 := hk.rest 6 (.pointer (some ⟨Bx, 0, none⟩)) (by omega) (by kernel_rfl) rfl
        rw [Array.getD_eq_getD_getElem?] at e0
        obtain ⟨c0, c1, c2, c3, -⟩ := ent_cells (HKX.out _ hb)
        go_simp
        exact hK _ _ (Below.refl _ _) rfl
      | 1, _ =>
        intro o ho a wc hk hb hd K hK
        cases ho
        have e0 := hk.rest 2 (.pointer (some ⟨w.heap.size, 0, none⟩)) (by omega) (by kernel_rfl) rfl
        rw [Array.getD_eq_getD_getElem?] at e0
        go_simp
        exact hK _ _ (Below.refl _ _) rfl
      | 2, _ =>
        intro o ho a wc hk hb hd K hK
        cases ho
        have e0 := hd 1 (by simp [waitW6])
        simp only [leaveW6, slotW6, Nat.reduceAdd, Array.getD_eq_getD_getElem?] at e0
        obtain ⟨c0, c1, c2, c3, -⟩ := ent_cells (HKP.out _ hb)
        go_simp
        exact hK _ _ (Below.refl _ _) rfl
      | 3, _ =>
        intro o ho a wc hk hb hd K hK
        cases ho
        have e0 := hk.rest 5 (.int .i64 ((k.1 : Nat) : Int)) (by omega) (by kernel_rfl) rfl
        rw [Array.getD_eq_getD_getElem?] at e0
        go_simp
        exact hK _ _ (Below.refl _ _) rfl
      | 4, _ =>
        intro o ho a wc hk hb hd K hK
        cases ho
        have e0 := hd 2 (by simp [waitW6])
        have e1 := hd 3 (by simp [waitW6])
        simp only [leaveW6, slotW6, Nat.reduceAdd, Array.getD_eq_getD_getElem?] at e0 e1
        go_simp
        exact hK _ _ (Below.refl _ _) rfl
      | 5, _ =>
        intro o ho a wc hk hb hd K hK
        cases ho
        have e0 := hd 4 (by simp [waitW6])
        simp only [leaveW6, slotW6, Nat.reduceAdd, Array.getD_eq_getD_getElem?] at e0
        obtain ⟨c0, c1, c2, c3⟩ := HKL.out _ hb
        go_simp
        exact hK _ _ (Below.refl _ _) rfl
      | _ + 6, h => exact absurd h (by omega)
    · intro vals w2 hb hR
      have v0 := hR 0 (by omega)
      have v1 := hR 1 (by omega)
      have v2 := hR 2 (by omega)
      have v3 := hR 3 (by omega)
      have v4 := hR 4 (by omega)
      have v5 := hR 5 (by omega)
      simp only [leaveW6] at v0 v1 v2 v3 v4 v5
      clear hR
      simp only [putAll, slotW6, Nat.reduceAdd, List.setIfInBounds_toArray, List.set_cons_zero, List.set_cons_succ, List.drop_succ_cons, List.drop_zero, v0, v1, v2, v3, v4, v5]
      clear v0 v1 v2 v3 v4 v5
      have HB2 := Lib.hid hb
      have HKR := Lib.hid (hkr.below hb hkr.lt)
      have HKP2 := Lib.hid (HKP.out _ hb)
      have r0 := HKR.out.cell 0
      have r1 := HKR.out.free 0
      have hne : ∀ (u v : Nat), u ≠ v → ((u : Int) == (v : Int)) = false := fun u v h => by simp; omega
      clear hb HKX HKP HKL
      by_cases hs : y4 = z4
      · subst hs
        gi_wp2_with fail
        refine ⟨keepsFrom_up HB2.out, ⟨HB2.out.mono hbw.size, HB2.out.block _ (by omega)⟩, fun j hj v hv => ?_, HKP2.out, HKR.out, hbw.trans (HB2.out.mono hbw.size), Nat.le_trans hsz HB2.out.size⟩
        rcases List.mem_append.1 hj with hj | hj
        · exact hpre j hj v hv
        · simp at hj
          subst hj
          rw [hz] at hv
          cases hv
          rw [hy]
      · have hne' := hne _ _ hs
        gi_wp2_with fail
        refine ⟨(keepsFrom_up HB2.out).trans ((KeepsOthers.setCell _ _ _).from _), ⟨rfl, fun hall => hs ?_⟩, HKR.out.set_ 0 _, (hbw.trans (HB2.out.mono hbw.size)).setCell (p := ⟨w.heap.size + 1, 0, none⟩) (by simp) _⟩
        have := hall k.1 _ p hz hpk
        simp only at this
        have := HY4.out
        omega
  case done =>
    rintro D xs W hD rfl ⟨hall, hkp, hkr, hbw, hsz⟩ hK
    have hsums : SumsAre l ps := fun k z p hz hpk => by
      have hk : k < L.length := by have := (List.getElem?_eq_some_iff.1 hz).1; have h1 := HLL.out; have h2 := HLn.out; omega
      have h1 := hall ⟨k, hk⟩ (by simp) z hz
      have h2 := HL.out k z p hz hpk
      rw [List.getElem?_eq_getElem hk] at h2
      have h3 := Option.some.inj h2
      simp only [h3] at h1
      exact h1
    obtain rfl : t = true := HTT.out.2 hsums
    have r0 := hkr.cell 0
    have r1 := hkr.free 0
    clear hall hsums HTT HL
    go_wp2
    have hK' := (KeepsOthers.setCell W ⟨w.heap.size + 1, 0, none⟩ (.bool true)).same D _ hK rfl
    refine ⟨by simp, .inl ⟨_, _, rfl, run_takeDeferred hK', ?_⟩⟩
    have hc5 := (bk_put (hkr.set_ 0 (.bool true)) hK' rfl (.deferred none)).cell 0
    refine ⟨.bool true, ?_, rfl, (hbw.setCell (p := ⟨w.heap.size + 1, 0, none⟩) (by simp) _).trans (belowK_b (w := w) (Nat.le_refl _) _ D _ _ (by have := HZ1.out; omega) hK' rfl rfl)⟩
    simp [results, Tryd.f18, go_sem, hc5]
  case stop =>
    rintro D co pre W hD - ⟨⟨rfl, hnot⟩, hkr, hbw⟩ hK
    obtain rfl : t = false := by
      cases t with
      | false => rfl
      | true => exact absurd (HTT.out.1 rfl) hnot
    refine wpIn_wide.2 ?_
    go_wp2
    refine ⟨by simp, .inl ⟨_, _, rfl, run_takeDeferred hK, ?_⟩⟩
    have hc5 := (bk_put hkr hK rfl (.deferred none)).cell 0
    refine ⟨.bool false, ?_, rfl, hbw.trans (belowK_b (w := w) (Nat.le_refl _) _ D _ _ (by have := HZ1.out; omega) hK rfl rfl)⟩
    simp [results, Tryd.f18, go_sem, hc5]
end Go.Proofs.YtjibjojnkieliaaDoor
