/-
  What summary.Of does.
-/
import Derived.Test.YtjibjojnkieliaaDoorSum5
namespace Go.Proofs.YtjibjojnkieliaaDoor
open Go.RowKit Go.Shelf
set_option linter.unusedVariables false
attribute [local go_sem] Oper.semAt_some

/-- an element appended to a row of the call's own, and the row stored into a block of another type -/
theorem app_kept {W w1 : World} {n₀ Bp o : Nat} {t e : TypeId} {size : Nat} {v v' u : Value} {k m : Nat} {xs ys : List Value} {tmp : Obj} {cs : Array Value}
    (hv : Bk W Bp t cs) (hte : e ≠ t) (hrow : W.ownsRow n₀ e size v k xs) (hn₀ : n₀ ≤ W.heap.size) (hB : n₀ ≤ Bp) (hown' : w1.ownsRow n₀ e size v' m ys) (hgrow : (W.alloc tmp).grownBy w1 v.ownBlock) :
    Bk w1 Bp t cs ∧ Bk (w1.setCell ⟨Bp, o, none⟩ u) Bp t (cs.setIfInBounds o u) ∧ (w1.setCell ⟨Bp, o, none⟩ u).ownsRow n₀ e size v' m ys ∧ KeepsOthers W (w1.setCell ⟨Bp, o, none⟩ u) ∧ Below n₀ W (w1.setCell ⟨Bp, o, none⟩ u)
    ∧ (∀ g t' cs', Bk W g t' cs' → e ≠ t' → g ≠ Bp → Bk (w1.setCell ⟨Bp, o, none⟩ u) g t' cs') := by
  have hv1 : Bk w1 Bp t cs := (hv.alloc tmp).grown hgrow ((hv.alloc tmp).ne_own (hrow.alloc tmp) hte)
  refine ⟨hv1, hv1.set_ o u, ?_, ?_, ?_, fun g t' cs' hg hne hgB => ((hg.alloc tmp).grown hgrow ((hg.alloc tmp).ne_own (hrow.alloc tmp) hne)).far hgB u⟩
  · rcases hown'.2 with ⟨h1, h2⟩ | ⟨g, c, cur, h1, h2, hh, hr⟩
    · exact ⟨hown'.1, .inl ⟨h1, h2⟩⟩
    · refine ⟨hown'.1, .inr ⟨g, c, cur, h1, h2, (Below.heap_setCell w1 _ u g (fun e' => ?_)).trans hh, hr⟩⟩
      have e' : g = Bp := e'
      subst e'
      unfold Bk at hv1
      rw [hh] at hv1
      injection hv1 with hv1
      injection hv1 with _ ht
      exact hte ht
  · refine ((KeepsOthers.alloc W tmp).trans (KeepsOthers.of_grownBy hgrow fun j o' ej hj => ?_)).trans (KeepsOthers.setCell _ _ _)
    rcases (hrow.alloc tmp).2 with ⟨rfl, _⟩ | ⟨g, cap, cur, rfl, _, hgb, _⟩
    · simp [Value.ownBlock] at ej
    · obtain rfl : g = j := by simpa [Value.ownBlock] using ej
      rw [hgb] at hj; cases hj; rfl
  · refine (((Below.refl n₀ W).alloc hn₀ tmp).grown hgrow (by simp; omega) fun j ej => ?_).setCell (p := ⟨Bp, o, none⟩) hB u
    rcases hrow.2 with ⟨rfl, _⟩ | ⟨g, cap, cur, rfl, hb, _, _⟩
    · simp [Value.ownBlock] at ej
    · obtain rfl : g = j := by simpa [Value.ownBlock] using ej
      exact hb
/-- a row of the call's own, a store into a block of another type -/
theorem own_far {W : World} {n₀ Bp o : Nat} {t e : TypeId} {size : Nat} {v u : Value} {k : Nat} {xs : List Value} {cs : Array Value} (hv : Bk W Bp t cs) (hte : e ≠ t) (h : W.ownsRow n₀ e size v k xs) : (W.setCell ⟨Bp, o, none⟩ u).ownsRow n₀ e size v k xs := by
  rcases h.2 with ⟨h1, h2⟩ | ⟨g, c, cur, h1, h2, hh, hr⟩
  · exact ⟨h.1, .inl ⟨h1, h2⟩⟩
  · refine ⟨h.1, .inr ⟨g, c, cur, h1, h2, (Below.heap_setCell W _ u g (fun e' => ?_)).trans hh, hr⟩⟩
    have e' : g = Bp := e'
    subst e'
    unfold Bk at hv
    rw [hh] at hv
    injection hv with hv
    injection hv with _ ht
    exact hte ht
/-- 'a block holds a slice that owns ..' speaks of cells alone -/
theorem holds_own {β : Type} (n₀ B : Nat) (t e : TypeId) (size : Nat) (cs : Value → Array Value) (k : β → Nat) (f : β → List Value) : Own (fun (s : β) W => ∃ v, Bk W B t (cs v) ∧ W.ownsRow n₀ e size v (k s) (f s)) := by
  rintro s X Y row ⟨v, hv, hr⟩ hg hrow
  refine ⟨v, bk_own (β := Unit) B t _ () X Y row hv hg hrow, hr.kept hg ?_⟩
  rcases hr.2 with ⟨rfl, _⟩ | ⟨g, cap, cur, rfl, _, hgb, _⟩
  · exact .inl rfl
  · refine .inr fun e' => ?_
    obtain ⟨o, ho, hc⟩ := hrow g (by simpa [Value.ownBlock] using e'.symm)
    rw [hgb] at ho; cases ho; cases hc
theorem info_ent : (Tryd.prog.info? 60).map (fun i => (i.zero, i.size, i.bytes)) = some (some (.agg #[.int .i64 0, .int .i64 0, .int .i64 0, .int .u32 0]), 4, 32) := by kernel_rfl
/-- a part taken apart: what Of makes, or nothing -/
def pickP (L : List En) (pre : List (Fin L.length)) : List En := pre.map fun k => L[k.1]'k.2
theorem pickP_snoc (L : List En) (pre : List (Fin L.length)) (k : Fin L.length) : pickP L (pre ++ [k]) = pickP L pre ++ [L[k.1]'k.2] := by simp [pickP]
theorem pickP_all (L : List En) : pickP L (List.finRange L.length) = L := by
  apply List.ext_getElem (by simp [pickP])
  intro i h1 h2
  simp [pickP]
theorem pickP_length (L : List En) (pre : List (Fin L.length)) : (pickP L pre).length = pre.length := by simp [pickP]

set_option maxHeartbeats 1000000 in
theorem sumOf_no (s x : Int) (f : Bool) (A A' : Option Addr) (n c m c' : Nat) (l : List En) (ps : List Part) (w : World) (hl : l.length = n) (hm : ps.length = m) (hn : n ≤ 9223372036854775807) (hmm : m ≤ 9223372036854775807) (hr : Rd w w.heap.size A (ensV l)) (hp : PartsIn w w.heap.size A' ps)
    (h : ptOk ⟨s, x, f, l⟩ = false ∨ (decide (n = m) && all128 ps) = false) :
    Calls Tryd.prog 20 #[.int .i64 s, .int .i64 x, .bool f, .slice A n c, .slice A' m c'] w fun e w' => e = .returned (.tuple #[ptV 0 0 false none 0 0, .int .i64 1]) ∧ Below w.heap.size w w' := by
  have HB0 := Lib.hid ((Below.refl w.heap.size w).alloc (Nat.le_refl _) (.cells #[.int .i64 0, .int .i64 0, .bool false, .slice none 0 0] 24))
  have K0 := Lib.hid (Bk.new w 24 #[.int .i64 0, .int .i64 0, .bool false, .slice none 0 0])
  obtain ⟨t, ht⟩ : ∃ t, ptOk ⟨s, x, f, l⟩ = t := ⟨_, rfl⟩
  have HM := Lib.hid (sumMay_any s x f w.heap.size A n c l t _ hl hn (hr.below HB0.out) HB0.out.size ht)
  have HPA := Lib.hid (fun w' (hb : Below w.heap.size w w') => sumpair_any w.heap.size A A' n c m c' ps _ w' hm hn hmm (hp.1.below hb) (fun p hpp => by have := (hp.2 p hpp).2; unfold maxLen at this; omega) rfl)
  have HH := Lib.hid h
  unfold ptV at HM ⊢
  clear h hr hl hm hp
  go_enter Tryd.func20, Tryd.ntmps20
  go_wp2_with fail
  refine HM.out.mono ?_
  rintro e w1 ⟨rfl, hb1⟩
  have HB1 := Lib.hid (HB0.out.trans (hb1.mono HB0.out.size))
  have K0 := Lib.hid (K0.out.below hb1 K0.out.lt)
  clear hb1 HM
  obtain ⟨k0, k1, k2, k3, f0, f1, f2, f3⟩ := ent_cells K0.out
  obtain ⟨p0, p1, p2, p3, -⟩ := ent_puts K0.out (.int .i64 0) (.int .i64 0) (.bool false) (.slice none 0 0)
  have HB2 := Lib.hid ((((HB1.out.setCell (p := ⟨w.heap.size, 0, none⟩) (Nat.le_refl _) (.int .i64 0)).setCell (p := ⟨w.heap.size, 1, none⟩) (Nat.le_refl _) (.int .i64 0)).setCell (p := ⟨w.heap.size, 2, none⟩) (Nat.le_refl _) (.bool false)).setCell (p := ⟨w.heap.size, 3, none⟩) (Nat.le_refl _) (.slice none 0 0))
  cases t
  · go_wp2
    refine bodyPost_ret (v := .tuple #[.agg #[.int .i64 0, .int .i64 0, .bool false, .slice none 0 0], .int .i64 1]) (by simp [results, Tryd.results20, go_sem, p0, p1, p2, p3]) rfl ⟨rfl, HB2.out⟩
  · have hpf : (decide (n = m) && all128 ps) = false := by
      rcases HH.out with h | h
      · rw [ht] at h; cases h
      · exact h
    have hP := HPA.out w1 HB1.out
    rw [hpf] at hP
    have HP := Lib.hid hP
    clear hP hpf HPA ht
    go_wp2_with fail
    refine HP.out.mono ?_
    rintro e w2 ⟨rfl, rfl⟩
    go_wp2
    refine bodyPost_ret (v := .tuple #[.agg #[.int .i64 0, .int .i64 0, .bool false, .slice none 0 0], .int .i64 1]) (by simp [results, Tryd.results20, go_sem, p0, p1, p2, p3]) rfl ⟨rfl, HB2.out⟩
set_option maxRecDepth 100000 in
set_option maxHeartbeats 4000000 in
theorem sumOf_yes (s x : Int) (f : Bool) (A A' : Option Addr) (n c c' : Nat) (l L : List En) (ps : List Part) (w : World) (hl : l.length = n) (hm : ps.length = n) (hr : Rd w w.heap.size A (ensV l)) (hp : PartsIn w w.heap.size A' ps)
    (h : ptOk ⟨s, x, f, l⟩ = true) (h128 : all128 ps = true) (hT : Tab w) (hL : withSums l (ps.map (·.2.2)) = L) :
    Calls Tryd.prog 20 #[.int .i64 s, .int .i64 x, .bool f, .slice A n c, .slice A' n c'] w fun e w' => ∃ v, e = .returned (.tuple #[v, .int .i64 0]) ∧ PtAt w' v ⟨s, x, f, L⟩ ∧ Below w.heap.size w w' := by
  obtain ⟨i0, hi, hz0, hz1, hz2⟩ := info_parts info_ent
  have hn13 : n ≤ 13 := by have := (headOk_yes (ptOk_yes h).1).2.2.2.2.2; simp only at this; omega
  have HLn : Hid (L.length = n) := by show _ = _; rw [← hL, withSums_length _ _ (by simp; omega), hl]
  have HL : Hid (∀ (k : Nat) (y : En) (p : Part), l[k]? = some y → ps[k]? = some p → L[k]? = some { y with sum := sumN p.2.2 }) := fun k y p h1 h2 => by
    rw [← hL]; exact withSums_get l _ k y p.2.2 h1 (by simp [h2])
  clear hL
  have HB0 := Lib.hid ((Below.refl w.heap.size w).alloc (Nat.le_refl _) (.cells #[.int .i64 0, .int .i64 0, .bool false, .slice none 0 0] 24))
  have K0 := Lib.hid (Bk.new w 24 #[.int .i64 0, .int .i64 0, .bool false, .slice none 0 0])
  have HM := Lib.hid (sumMay_any s x f w.heap.size A n c l true _ hl (by omega) (hr.below HB0.out) HB0.out.size h)
  have HPA := Lib.hid (fun w' (hb : Below w.heap.size w w') => sumpair_any w.heap.size A A' n c n c' ps true w' hm (by omega) (by omega) (hp.1.below hb) (fun p hpp => by have := (hp.2 p hpp).2; unfold maxLen at this; omega) (by simp [h128]))
  have HLL := Lib.hid hl
  have HMM := Lib.hid hm
  have HR := Lib.hid hr
  have HPI := Lib.hid hp
  have HT := Lib.hid hT
  have HI := Lib.hid hi
  have HZ0 := Lib.hid hz0
  have HZ1' := Lib.hid hz1
  have HZ2 := Lib.hid hz2
  unfold ptV at HM
  clear h hr hl hm hp hT h128 hi hz0 hz1 hz2
  refine (callsIn_wide (n := 5)).1 ?_
  refine callsIn_of_wp_marks Tryd.func20 rfl trivial ?_ rfl
  simp only [Tryd.ntmps20, List.size_toArray, List.length_cons, List.length_nil, Nat.reduceAdd, Nat.reduceSub, Array.replicate_succ, Array.replicate_zero, List.push_toArray, List.append_toArray, List.nil_append, List.cons_append]
  refine wpIn_wide.2 ?_
  go_wp2_with fail
  refine HM.out.mono ?_
  rintro e w1 ⟨rfl, hb1⟩
  have HB1 := Lib.hid (HB0.out.trans (hb1.mono HB0.out.size))
  have K0 := Lib.hid (K0.out.below hb1 K0.out.lt)
  have HLT := Lib.hid K0.out.lt
  clear hb1 HM
  go_wp2_with fail
  refine (HPA.out w1 HB1.out).mono ?_
  rintro e w1' ⟨rfl, rfl⟩
  go_wp2_with fail
  have KP := Lib.hid (Bk.new w1 24 #[.int .i64 s, .int .i64 x, .bool f, .slice none 0 0])
  have HB2 := Lib.hid (HB1.out.alloc HB1.out.size (.cells #[.int .i64 s, .int .i64 x, .bool f, .slice none 0 0] 24))
  have K0 := Lib.hid (K0.out.alloc (.cells #[.int .i64 s, .int .i64 x, .bool f, .slice none 0 0] 24))
  obtain ⟨w2, hw2⟩ : ∃ w2, w1.alloc (.cells #[.int .i64 s, .int .i64 x, .bool f, .slice none 0 0] 24) = w2 := ⟨_, rfl⟩
  have HW2 : Hid (w2.heap.size = w1.heap.size + 1) := by show _ = _; rw [← hw2]; simp
  have HZ1 := Lib.hid HB1.out.size
  rw [hw2] at KP HB2 K0 ⊢
  clear hw2 HPA HB0 HB1
  refine (summed_any A A' n c n c' w2).mono ?_
  rintro e w3 ⟨rfl, hw3⟩
  have HB3 : Hid (Below w.heap.size w w3) := by rw [hw3]; exact (HB2.out.alloc HB2.out.size _).alloc (by have := HB2.out.size; simp; omega) _
  have hb13 : Below w2.heap.size w2 w3 := by rw [hw3]; exact ((Below.refl _ _).alloc (Nat.le_refl _) _).alloc (by simp) _
  have K0 := Lib.hid (K0.out.below hb13 K0.out.lt)
  have KP := Lib.hid (KP.out.below hb13 KP.out.lt)
  have KS1 : Hid (Bk w3 w2.heap.size 22 #[.slice A n c]) := by rw [hw3]; exact (Bk.new w2 _ _).alloc _
  have KS2 : Hid (Bk w3 (w2.heap.size + 1) 39 #[.slice A' n c']) := by
    rw [hw3]
    have := Bk.new (w2.alloc (.cells #[.slice A n c] 22)) 39 #[.slice A' n c']
    rwa [World.alloc_size'] at this
  have HW3 : Hid (w3.heap.size = w2.heap.size + 1 + 1) := by show _ = _; rw [hw3]; simp
  clear hw3 hb13
  go_wp2_with fail
  refine (wpIn_wide (n := 5)).1 ?_
  refine wpIn_rangeFunc_ownH rfl (by omega) (gf := 47) (lb := #[.pointer (some ⟨w2.heap.size, 0, none⟩), .pointer (some ⟨w2.heap.size + 1, 0, none⟩)]) rfl trivial (enters_of Tryd.func47 (by kernel_rfl) rfl)
    (summed_stops 4 w2.heap.size (w2.heap.size + 1) w.heap.size A A' n c c' l L ps w3 (by omega) HLL.out HMM.out HLn.out (by omega) HL.out KS1.out KS2.out HB3.out.size (HR.out.below HB3.out) ⟨HPI.out.1.below HB3.out, fun p hpp => ⟨(HPI.out.2 p hpp).1.below HB3.out, (HPI.out.2 p hpp).2⟩⟩ (HT.out.up HB3.out) HT.out.lt)
    KeepB.t (keepB_b HB3.out.size (by have := HW3.out; omega)) (Below.refl _ _) (fun _ => rfl)
    (fun pre W => (∃ v, Bk W w1.heap.size 24 #[.int .i64 s, .int .i64 x, .bool f, v] ∧ W.ownsRow w.heap.size 60 4 v pre.length (ensV (pickP L pre))) ∧ Bk W w.heap.size 24 #[.int .i64 0, .int .i64 0, .bool false, .slice none 0 0] ∧ Bk W (w2.heap.size + 1) 39 #[.slice A' n c'] ∧ Below w.heap.size w W ∧ w3.heap.size ≤ W.heap.size)
    (fun _ _ _ => False)
    (OwnFrom.and (Own.from (holds_own _ _ _ _ _ (fun v => #[.int .i64 s, .int .i64 x, .bool f, v]) _ _) _) (OwnFrom.and (Own.from (bk_own _ _ _) _) (OwnFrom.and (Own.from (bk_own _ _ _) _) (OwnFrom.and (ownFrom_below (Nat.le_refl _) HB3.out.size) (fun _ _ _ _ hs hg _ => Nat.le_trans hs hg.size)))))
    (fun co => fun _ _ _ _ hs _ _ => hs)
    ⟨⟨_, KP.out, World.ownsRow_nil _ _ _ _⟩, K0.out, KS2.out, HB3.out, Nat.le_refl _⟩
    (fun k a' W => ∃ Bx, w3.heap.size ≤ Bx ∧ Bk W Bx 60 (enV (L[k.1]'k.2)).toArray ∧ a' = { tmps := #[.int .i64 s, .int .i64 x, .bool f, .slice A n c, .slice A' n c', undef, undef, undef, undef, undef, .pointer (some ⟨w.heap.size, 0, none⟩), .int .i64 0, .pointer (some ⟨w1.heap.size, 0, none⟩), undef, .pointer (some ⟨Bx, 0, none⟩),
      .int .i64 s, .int .i64 x, .bool f, .slice A n c, .agg #[.int .i64 s, .int .i64 x, .bool f, .slice A n c], .bool true, .bool false, .bool false, .slice A n c, .slice A' n c', .bool true, .bool false, .bool false, undef, .int .i64 s, .int .i64 x, .bool f, .agg #[.int .i64 s, .int .i64 x, .bool f, .slice none 0 0], .slice A n c, .slice A' n c',
      .func (.func 47) #[] #[.pointer (some ⟨w2.heap.size, 0, none⟩), .pointer (some ⟨w2.heap.size + 1, 0, none⟩)], .int .i64 ((k.1 : Nat) : Int), enG (L[k.1]'k.2), undef, undef, undef, undef, undef, undef, undef], defers := [] })
    (fun k a' => fun _ W W' row hs hg hrow => by
      obtain ⟨Bx, h1, h2, h3⟩ := hs
      exact ⟨Bx, h1, Own.from (bk_own (β := Unit) Bx 60 _) _ () W W' row h2 hg hrow, h3⟩) ?assign ?body ?done ?stop
  case assign =>
    intro l0 pre k W K hi hK
    obtain ⟨y, hy⟩ : ∃ y, L[k.1]'k.2 = y := ⟨_, rfl⟩
    rw [hy] at hK
    simp only [enE, hy, enG]
    simp only [enG] at hK
    obtain ⟨y1, y2, y3, y4⟩ := y
    have hz := hi.2.2.2.1.size
    have hz' := hi.2.2.2.2
    have hlw : w2.heap.size + 1 < W.heap.size := by have := HW3.out; omega
    gi_wp2
    have hb := (Below.refl W.heap.size W).alloc (Nat.le_refl _) (.cells #[.int .i64 y1, .int .i64 y2, .int .i64 y3, .int .u32 (y4 : Int)] 60)
    obtain ⟨⟨v, hv, hrow⟩, h2, h3, h4, h5⟩ := hi
    exact hK _ _ (keepsFrom_up hb) ⟨hb.mono hz, hb.block _ hlw⟩ ⟨⟨v, hv.alloc _, hrow.alloc _⟩, h2.alloc _, h3.alloc _, h4.alloc hz _, by simp; omega⟩ ⟨W.heap.size, hz', Bk.new W _ _, rfl⟩
  case body =>
    rintro l0 pre k a' W hl0 - ⟨⟨v, hv, hrow⟩, hk0, hk2, hbw, hsz⟩ ⟨Bx, hBx, hkx, rfl⟩ hlt
    obtain ⟨y, hy⟩ : ∃ y, L[k.1]'k.2 = y := ⟨_, rfl⟩
    rw [hy] at hkx
    simp only [hy, enG]
    obtain ⟨y1, y2, y3, y4⟩ := y
    obtain ⟨c0, c1, c2, c3, -⟩ := ent_cells hkx
    obtain ⟨d0, d1, d2, d3, -⟩ := ent_cells hv
    obtain ⟨Av, cv, hve, hcv, hcm⟩ := own_len hrow
    have HV := Lib.hid hv
    have HROW := Lib.hid hrow
    have HBW := Lib.hid hbw
    have HKK := Lib.hid (And.intro hk0 hk2)
    have HSZ := Lib.hid hsz
    have HYY := Lib.hid hy
    subst hve
    clear hv hrow hbw hk0 hk2 hkx hsz hy
    gi_wp2_with (gi_at_builtin; refine wpListIn_append_own _ rfl _ _ 22 rfl w.heap.size 60 i0 (.agg #[.int .i64 0, .int .i64 0, .int .i64 0, .int .u32 0]) 4 32 Tryd.underlying22 HI.out HZ0.out HZ1'.out HZ2.out rfl (by decide) _ _ _ rfl (HROW.out.alloc _) ⟨W.heap.size, 0, none⟩ 1 1 [.int .i64 y1, .int .i64 y2, .int .i64 y3, .int .u32 (y4 : Int)] rfl rfl ?c1 ?c2 ?c3 ?c4 ?c5 ?_)
    · exact ⟨rfl, rfl, rfl, rfl⟩
    · unfold maxLen; omega
    · omega
    · have := HBW.out.size; omega
    · intro v' wq hown' hgrow hne
      obtain ⟨g', cap', rfl⟩ := ownsRow_succ hown'
      obtain ⟨hq, hq', hown2, hko, hbl, hfar⟩ := app_kept (o := 3) (u := .slice (some ⟨g', 0, none⟩) (pre.length + 1) cap') HV.out (by decide) HROW.out HBW.out.size HZ1.out hown' hgrow
      have q3 := hq.cell 3
      have qf := hq.free 3
      have HQ : Hid (ownPostG w3.heap.size (KeepB w.heap.size (w2.heap.size + 1)) (fun pre W => (∃ v, Bk W w1.heap.size 24 #[.int .i64 s, .int .i64 x, .bool f, v] ∧ W.ownsRow w.heap.size 60 4 v pre.length (ensV (pickP L pre))) ∧ Bk W w.heap.size 24 #[.int .i64 0, .int .i64 0, .bool false, .slice none 0 0] ∧ Bk W (w2.heap.size + 1) 39 #[.slice A' n c'] ∧ Below w.heap.size w W ∧ w3.heap.size ≤ W.heap.size)
          (fun _ _ _ => False) (pre ++ [k]) W .normal { tmps := #[], defers := [] } (wq.setCell ⟨w1.heap.size, 3, none⟩ (.slice (some ⟨g', 0, none⟩) (pre.length + 1) cap'))) := by
        have hk2 := hfar _ _ _ HKK.out.2 (by decide) (by have := HW2.out; omega)
        refine ⟨hko.from _, ⟨hbl, hk2.trans HKK.out.2.symm⟩, ⟨_, hq', ?_⟩, hfar _ _ _ HKK.out.1 (by decide) (by have := HLT.out; omega), hk2, HBW.out.trans hbl, Nat.le_trans HSZ.out hbl.size⟩
        rw [pickP_snoc, HYY.out, ensV_append, List.length_append]
        exact hown2
      clear hown' hgrow hne hown2 hko hbl hfar hq' hq
      gi_wp2_with fail
      exact HQ.out
  case done =>
    rintro D xs W hD rfl ⟨⟨v, hv, hrow⟩, hk0, -, hbw, -⟩ hK
    rw [pickP_all, List.length_finRange] at hrow
    obtain ⟨Av, cv, hve, hcv, hcm⟩ := own_len hrow
    subst hve
    obtain ⟨d0, d1, d2, d3, -⟩ := ent_cells hv
    obtain ⟨e0, e1, e2, e3, f0, f1, f2, f3⟩ := ent_cells hk0
    obtain ⟨-, -, -, -, KR⟩ := ent_puts hk0 (.int .i64 s) (.int .i64 x) (.bool f) (.slice Av L.length cv)
    have hown2 := own_far (o := 3) (u := .slice Av L.length cv) (((hk0.set_ 0 (.int .i64 s)).set_ 1 (.int .i64 x)).set_ 2 (.bool f)) (by decide) (own_far (o := 2) (u := .bool f) ((hk0.set_ 0 (.int .i64 s)).set_ 1 (.int .i64 x)) (by decide) (own_far (o := 1) (u := .int .i64 x) (hk0.set_ 0 (.int .i64 s)) (by decide) (own_far (o := 0) (u := .int .i64 s) hk0 (by decide) hrow)))
    have hbw2 := (((hbw.setCell (p := ⟨w.heap.size, 0, none⟩) (Nat.le_refl _) (.int .i64 s)).setCell (p := ⟨w.heap.size, 1, none⟩) (Nat.le_refl _) (.int .i64 x)).setCell (p := ⟨w.heap.size, 2, none⟩) (Nat.le_refl _) (.bool f)).setCell (p := ⟨w.heap.size, 3, none⟩) (Nat.le_refl _) (.slice Av L.length cv)
    have hK' := ((((KeepsOthers.setCell W ⟨w.heap.size, 0, none⟩ (.int .i64 s)).trans (KeepsOthers.setCell _ ⟨w.heap.size, 1, none⟩ (.int .i64 x))).trans (KeepsOthers.setCell _ ⟨w.heap.size, 2, none⟩ (.bool f))).trans (KeepsOthers.setCell _ ⟨w.heap.size, 3, none⟩ (.slice Av L.length cv))).same D _ hK rfl
    have HKR := Lib.hid (And.intro KR (And.intro hown2 (And.intro hbw2 hK')))
    clear KR hown2 hbw2 hK' hK hrow hbw
    go_wp2
    obtain ⟨KR, hown2, hbw2, hK'⟩ := HKR.out
    refine ⟨by simp, .inl ⟨_, _, rfl, run_takeDeferred hK', ?_⟩⟩
    obtain ⟨r0, r1, r2, r3, -⟩ := ent_cells (bk_put KR hK' rfl (.deferred none))
    have hrow3 := ownsRow_putObj hown2 (.deferred none) hK' rfl
    refine ⟨.tuple #[ptV s x f Av L.length cv, .int .i64 0], ?_, _, rfl, ⟨Av, cv, rfl, hcv, hcm, Rd.own hrow3⟩, hbw2.trans (belowK_b (w := w) (Nat.le_refl _) _ D _ _ (by have := HZ1.out; have := HW2.out; have := HW3.out; omega) hK' rfl rfl)⟩
    simp [results, Tryd.f20, go_sem, r0, r1, r2, r3, ptV]
  case stop =>
    rintro D co pre W hD - hf
    exact hf.elim
end Go.Proofs.YtjibjojnkieliaaDoor
