/-
  What the document's part of entries and blocks of layer 6 is. (Printed by wip/tools/ref06e.py.)
-/
import Derived.Test.YtjibjojnkieliaaDoorRef06d
namespace Go.Proofs.YtjibjojnkieliaaDoor
open Go.RowKit
set_option linter.unusedVariables false

def ofR (t : Bool) (s x : Int) (f : Bool) (L : List En) : Pt := if t then ⟨s, x, f, L⟩ else noP
set_option maxRecDepth 100000 in
set_option maxHeartbeats 8000000 in
theorem refOf_any (s x : Int) (f : Bool) (A A' : Option Addr) (n c m c' : Nat) (l : List En) (bs : List (List UInt8)) (t : Bool) (w : World) (hl : l.length = n) (hm : bs.length = m) (hn : n ≤ 4096) (hmm : m ≤ 4096) (hr : Rd w w.heap.size A (ensV l)) (hr' : Rd w w.heap.size A' (strsV bs)) (hb : ∀ b ∈ bs, b.length ≤ 9223372036854775807)
    (ht : t = true ↔ ptOk ⟨s, x, f, l⟩ = true ∧ Pair l bs) :
    Calls Tryd.prog 21 #[.int .i64 s, .int .i64 x, .bool f, .slice A n c, .slice A' m c'] w fun e w' => ∃ v, e = .returned (.tuple #[v, .bool t]) ∧ PtAt w' v (ofR t s x f (withSums l bs)) ∧ Below w.heap.size w w' := by
  obtain ⟨i0, hi, hz0, hz1, hz2⟩ := info_parts info_ent
  have HI := Lib.hid hi
  have HZ0 := Lib.hid hz0
  have HZ1 := Lib.hid hz1
  have HZ2 := Lib.hid hz2
  clear hi hz0 hz1 hz2
  have HK0 := Lib.hid ((Bk.new w 24 #[.int .i64 0, .int .i64 0, .bool false, .slice none 0 0]).alloc (.cells #[.int .i64 s, .int .i64 x, .bool f, .slice none 0 0] 24))
  have KP := Bk.new (w.alloc (.cells #[.int .i64 0, .int .i64 0, .bool false, .slice none 0 0] 24)) 24 #[.int .i64 s, .int .i64 x, .bool f, .slice none 0 0]
  rw [World.alloc_size'] at KP
  have KP := Lib.hid KP
  have HBW := Lib.hid (((Below.refl w.heap.size w).alloc (Nat.le_refl _) (.cells #[.int .i64 0, .int .i64 0, .bool false, .slice none 0 0] 24)).alloc (by simp) (.cells #[.int .i64 s, .int .i64 x, .bool f, .slice none 0 0] 24))
  have HL := Lib.hid hl
  have HL' := Lib.hid hm
  have HR := Lib.hid hr
  have HR' := Lib.hid hr'
  have HT := Lib.hid ht
  have HBL := Lib.hid hb
  clear hl hm hr hr' ht hb
  go_enter Tryd.func21, Tryd.ntmps21
  by_cases hnm : n = m
  · subst hnm
    obtain ⟨L, hL⟩ : ∃ L, withSums l bs = L := ⟨_, rfl⟩
    have HLe : Hid (L.length = n) := by show _ = _; rw [← hL, withSums_length _ _ (by rw [HL.out, HL'.out]), HL.out]
    have HLg : Hid (∀ (k : Nat) (y : En) (b : List UInt8), l[k]? = some y → bs[k]? = some b → L[k]? = some { y with sum := sumN b }) := fun k y b h1 h2 => by rw [← hL]; exact withSums_get l bs k y b h1 h2
    have HLo : Hid (ptOk ⟨s, x, f, L⟩ = ptOk ⟨s, x, f, l⟩) := by show _ = _; rw [← hL]; exact ptOk_with _ _ _ _ _ (by rw [HL.out, HL'.out])
    have HLs : Hid (sumsOk L) := by show sumsOk L; rw [← hL]; exact withSums_sums _ _
    have HLW := Lib.hid hL
    rw [hL]
    clear hL
    go_wp2
    go_loopw [13] (fun i wr => ∃ (k : Nat) (v : Value), k ≤ n ∧ i = .int .i64 k ∧ Hid (Bk wr (w.heap.size + 1) 24 #[.int .i64 s, .int .i64 x, .bool f, v]) ∧ Hid (wr.ownsRow w.heap.size 60 4 v k (ensV (L.take k))) ∧ Hid (∀ j b, j < k → bs[j]? = some b → b.length = 128) ∧ Hid (Bk wr w.heap.size 24 #[.int .i64 0, .int .i64 0, .bool false, .slice none 0 0]) ∧ Hid (Below w.heap.size w wr)) (fun i _ => n - (intOf i).toNat)
    case atStart => exact ⟨0, _, Nat.zero_le _, rfl, KP.out, by simpa [ensV, Hid] using World.ownsRow_nil _ w.heap.size _ 4, fun j b h => absurd h (by omega), HK0.out, HBW.out⟩
    case round =>
      obtain ⟨k, v, hk, rfl, HKP, HROW, HALL, HKZ, HBR⟩ := hrel
      clear KP HK0 HBW
      have HK0 := HKZ
      have HBW := HBR
      clear HKZ HBR
      obtain ⟨Av, cv, hve, hcv, hcm⟩ := own_len HROW.out
      subst hve
      by_cases hlt : k < n
      · obtain ⟨y, hy⟩ : ∃ y, l[k]? = some y := ⟨_, List.getElem?_eq_getElem (by have := HL.out; omega)⟩
        obtain ⟨b, hb⟩ : ∃ b, bs[k]? = some b := ⟨_, List.getElem?_eq_getElem (by have := HL'.out; omega)⟩
        have hLk := HLg.out k y b hy hb
        obtain ⟨g, o, rfl, -, -⟩ := HR.out.plain (by rw [ensV_length]; have := HL.out; omega)
        obtain ⟨g', o', rfl, -, -⟩ := HR'.out.plain (by simp [strsV]; have := HL'.out; omega)
        obtain ⟨y1, y2, y3, y4⟩ := y
        obtain ⟨n0, n1, n2, n3⟩ := ensV_get l k _ hy
        have hc := HR.out.below HBW.out
        have c0 : wr.cell? ⟨g, o + k * 4, none⟩ = some (.int .i64 y1) := by obtain ⟨ad, e, _, hc⟩ := hc _ _ n0; cases e; rwa [add_plain] at hc
        have c1 : wr.cell? ⟨g, o + k * 4 + 1, none⟩ = some (.int .i64 y2) := by obtain ⟨ad, e, _, hc⟩ := hc _ _ n1; cases e; rwa [add_plain, ← Nat.add_assoc] at hc
        have c2 : wr.cell? ⟨g, o + k * 4 + 2, none⟩ = some (.int .i64 y3) := by obtain ⟨ad, e, _, hc⟩ := hc _ _ n2; cases e; rwa [add_plain, ← Nat.add_assoc] at hc
        have c3 : wr.cell? ⟨g, o + k * 4 + 3, none⟩ = some (.int .u32 (y4 : Int)) := by obtain ⟨ad, e, _, hc⟩ := hc _ _ n3; cases e; rwa [add_plain, ← Nat.add_assoc] at hc
        obtain ⟨z, hz⟩ : ∃ z, (str b).size = z := ⟨_, rfl⟩
        obtain ⟨sm, hsm⟩ : ∃ z, sumN b = z := ⟨_, rfl⟩
        have HZ : Hid (b.length = z) := by show _ = _; rw [← hz, str_size]
        have hbz : z ≤ 9223372036854775807 := by rw [← HZ.out]; exact HBL.out b (List.mem_of_getElem? hb)
        have HSM := Lib.hid hsm
        have HBX := Lib.hid (HBW.out.alloc HBW.out.size (.cells #[.int .i64 y1, .int .i64 y2, .int .i64 y3, .int .u32 (y4 : Int)] 60))
        have KX := Lib.hid (Bk.new wr 60 #[.int .i64 y1, .int .i64 y2, .int .i64 y3, .int .u32 (y4 : Int)])
        have HWX : Hid (Below wr.heap.size wr (wr.alloc (.cells #[.int .i64 y1, .int .i64 y2, .int .i64 y3, .int .u32 (y4 : Int)] 60))) := (Below.refl _ _).alloc (Nat.le_refl _) _
        have hs0 : (wr.alloc (.cells #[.int .i64 y1, .int .i64 y2, .int .i64 y3, .int .u32 (y4 : Int)] 60)).cell? ⟨g', o' + k, none⟩ = some (.string (str b)) := by
          obtain ⟨ad, e, _, hc⟩ := (HR'.out.below HBX.out) k (.string (str b)) (by simp [strsV, hb])
          cases e; rwa [add_plain] at hc
        have HHB := Lib.hid hb
        have HLK := Lib.hid (by rw [hsm] at hLk; exact hLk : L[k]? = some ⟨y1, y2, y3, sm⟩)
        have HZS := Lib.hid hz
        clear n0 n1 n2 n3 hc hy hb hLk hsm hz
        go_wp2_with fail
        refine (refSum_any b sm _ (by rw [HZ.out]; exact hbz) HSM.out).mono ?_
        rintro e w5' ⟨rfl, hw5'⟩
        obtain rfl := hw5'
        obtain ⟨w5, hw5⟩ : ∃ w5, wr.alloc (.cells #[.int .i64 y1, .int .i64 y2, .int .i64 y3, .int .u32 (y4 : Int)] 60) = w5 := ⟨_, rfl⟩
        rw [hw5] at HBX KX HWX hs0 ⊢
        have zs := HZS.out
        have hs1 : (w5.setCell ⟨wr.heap.size, 3, none⟩ (.int .u32 (sm : Int))).cell? ⟨g', o' + k, none⟩ = some (.string (str b)) := by
          obtain ⟨ad, e, hbb, hc⟩ := HR'.out k (.string (str b)) (by simp [strsV, HHB.out])
          cases e
          exact (World.cell?_setCell_other w5 _ _ _ (fun e' => by
            have h1 : g' = wr.heap.size := (congrArg Addr.block e').symm
            have h2 := HBW.out.size
            simp at hbb
            omega)).trans hs0
        have KY := ent3 KX.out (.int .u32 (sm : Int))
        obtain ⟨p0, p1, p2, p3, f0, f1, f2, f3⟩ := ent_cells KX.out
        obtain ⟨q0, q1, q2, q3, -⟩ := ent_cells KY
        have HB6 : Hid (Below wr.heap.size wr (w5.setCell ⟨wr.heap.size, 3, none⟩ (.int .u32 (sm : Int)))) := HWX.out.setCell (p := ⟨wr.heap.size, 3, none⟩) (Nat.le_refl _) _
        have HKP := Lib.hid (HKP.out.below HB6.out HKP.out.lt)
        have HROW := Lib.hid (own_up HROW.out HB6.out)
        have HK0 := Lib.hid (HK0.out.below HB6.out HK0.out.lt)
        have HBW := Lib.hid (HBW.out.trans (HB6.out.mono HBW.out.size))
        obtain ⟨d0, d1, d2, d3, -⟩ := ent_cells HKP.out
        clear hw5 KY c0 c1 c2 c3 hs0 HBX HWX HB6
        by_cases h128 : z = 128
        · subst h128
          have hnew := Rd.new (w5.setCell ⟨wr.heap.size, 3, none⟩ (.int .u32 (sm : Int))) 60 #[.int .i64 y1, .int .i64 y2, .int .i64 y3, .int .u32 (sm : Int)] (0, 0)
          simp only [World.setCell_size'] at hnew
          have HNEW := Lib.hid hnew
          clear hnew
          go_wp2_with (at_builtin; refine wpList_append_own _ rfl _ _ 22 rfl w.heap.size 60 i0 (.agg #[.int .i64 0, .int .i64 0, .int .i64 0, .int .u32 0]) 4 32 Tryd.underlying22 HI.out HZ0.out HZ1.out HZ2.out rfl (by decide) _ _ _ rfl (HROW.out.alloc _) ⟨w5.heap.size, 0, none⟩ 1 1 [.int .i64 y1, .int .i64 y2, .int .i64 y3, .int .u32 (sm : Int)] rfl rfl ?c1 ?c2 ?c3 ?c4 ?c5 ?_)
          · intro j u hj
            obtain ⟨ad, e, _, hc⟩ := HNEW.out j u hj
            cases e
            exact hc
          · intro u hu; simp at hu; rcases hu with rfl | rfl | rfl | rfl <;> rfl
          · unfold maxLen; omega
          · omega
          · have := HBW.out.size; simp at this ⊢; omega
          · intro v' wq hown' hgrow hne
            obtain ⟨gq, cap', rfl⟩ := ownsRow_succ hown'
            obtain ⟨hq, hq', hown2, hko, hbl, hfar⟩ := app_kept (o := 3) (u := .slice (some ⟨gq, 0, none⟩) (k + 1) cap') HKP.out (by decide) HROW.out HBW.out.size (by omega) hown' hgrow
            have u3 := hq.cell 3
            have uf := hq.free 3
            have HQ : Hid (Bk (wq.setCell ⟨w.heap.size + 1, 3, none⟩ (.slice (some ⟨gq, 0, none⟩) (k + 1) cap')) (w.heap.size + 1) 24 #[.int .i64 s, .int .i64 x, .bool f, .slice (some ⟨gq, 0, none⟩) (k + 1) cap']
                ∧ (wq.setCell ⟨w.heap.size + 1, 3, none⟩ (.slice (some ⟨gq, 0, none⟩) (k + 1) cap')).ownsRow w.heap.size 60 4 (.slice (some ⟨gq, 0, none⟩) (k + 1) cap') (k + 1) (ensV (L.take (k + 1)))
                ∧ Bk (wq.setCell ⟨w.heap.size + 1, 3, none⟩ (.slice (some ⟨gq, 0, none⟩) (k + 1) cap')) w.heap.size 24 #[.int .i64 0, .int .i64 0, .bool false, .slice none 0 0]
                ∧ Below w.heap.size w (wq.setCell ⟨w.heap.size + 1, 3, none⟩ (.slice (some ⟨gq, 0, none⟩) (k + 1) cap'))) :=
              ⟨hq', by rw [ensV_take_succ L k _ HLK.out]; exact hown2, hfar _ _ _ HK0.out (by decide) (by omega), HBW.out.trans hbl⟩
            clear hown' hgrow hne hown2 hko hbl hfar hq' hq p0 p1 p2 p3 f0 f1 f2 f3 q0 q1 q2 q3 d0 d1 d2 d3 hs1 zs
            go_wp2
            go_roundw
            case rel =>
              refine ⟨k + 1, _, by omega, by go_num, HQ.out.1, HQ.out.2.1, fun j b' hj hb' => ?_, HQ.out.2.2.1, HQ.out.2.2.2⟩
              by_cases e : j = k
              · subst e; rw [HHB.out] at hb'; cases hb'; exact HZ.out
              · exact HALL.out j b' (by omega) hb'
            case measure => simp [intOf]; omega
        · have HF : Hid (t = false) := by
            cases t with
            | false => exact rfl
            | true =>
              have h := (HT.out.1 rfl).2.2 b (List.mem_of_getElem? HHB.out)
              rw [HZ.out] at h
              exact absurd h h128
          have hne : ((z : Int) != 128) = true := by simp; omega
          clear h128
          obtain ⟨e0, e1, e2, e3, f0, f1, f2, f3⟩ := ent_cells HK0.out
          obtain ⟨r0, r1, r2, r3, -⟩ := ent_puts HK0.out (.int .i64 0) (.int .i64 0) (.bool false) (.slice none 0 0)
          have HBE := Lib.hid ((((HBW.out.setCell (p := ⟨w.heap.size, 0, none⟩) (Nat.le_refl _) (.int .i64 0)).setCell (p := ⟨w.heap.size, 1, none⟩) (Nat.le_refl _) (.int .i64 0)).setCell (p := ⟨w.heap.size, 2, none⟩) (Nat.le_refl _) (.bool false)).setCell (p := ⟨w.heap.size, 3, none⟩) (Nat.le_refl _) (.slice none 0 0))
          go_wp2
          refine bodyPost_ret (v := .tuple #[.agg #[.int .i64 0, .int .i64 0, .bool false, .slice none 0 0], .bool false]) (by simp [results, Tryd.results21, go_sem, r0, r1, r2, r3]) rfl ⟨_, by rw [HF.out], by rw [HF.out]; exact PtAt.none_ _, HBE.out⟩
      · obtain rfl : k = n := by omega
        have HTK : Hid (L.take k = L) := List.take_of_length_le (by have := HLe.out; omega)
        have hrow := HROW.out
        rw [HTK.out] at hrow
        have HROW := Lib.hid hrow
        obtain ⟨q, hq⟩ : ∃ q, ptOk ⟨s, x, f, L⟩ = q := ⟨_, rfl⟩
        have HQT : Hid (t = q) := by
          have h1 := HLo.out
          rw [hq] at h1
          have hpair : Pair l bs := ⟨by rw [HL.out, HL'.out], fun b hb => by
            obtain ⟨j, hj, rfl⟩ := List.mem_iff_getElem.1 hb
            exact HALL.out j _ (by have := HL'.out; omega) (List.getElem?_eq_getElem hj)⟩
          show t = q
          rw [Bool.eq_iff_iff, HT.out, ← h1]
          exact ⟨fun h => h.1, fun h => ⟨h, hpair⟩⟩
        have HM := Lib.hid (refMay_any s x f wr.heap.size Av k cv L q wr HLe.out (by omega) (Rd.own HROW.out) (Nat.le_refl _) hq)
        obtain ⟨d0, d1, d2, d3, -⟩ := ent_cells HKP.out
        unfold ptV at HM
        clear hq hrow
        go_wp2_with fail
        refine HM.out.mono ?_
        rintro e w7 ⟨rfl, hb7⟩
        have HKP := Lib.hid (HKP.out.below hb7 HKP.out.lt)
        have HROW := Lib.hid (own_up HROW.out hb7)
        have HK0 := Lib.hid (HK0.out.below hb7 HK0.out.lt)
        have HBW := Lib.hid (HBW.out.trans (hb7.mono HBW.out.size))
        clear hb7 HM d0 d1 d2 d3
        obtain ⟨d0, d1, d2, d3, -⟩ := ent_cells HKP.out
        have HF := HQT
        cases q
        · clear d0 d1 d2 d3
          obtain ⟨e0, e1, e2, e3, f0, f1, f2, f3⟩ := ent_cells HK0.out
          obtain ⟨r0, r1, r2, r3, -⟩ := ent_puts HK0.out (.int .i64 0) (.int .i64 0) (.bool false) (.slice none 0 0)
          have HBE := Lib.hid ((((HBW.out.setCell (p := ⟨w.heap.size, 0, none⟩) (Nat.le_refl _) (.int .i64 0)).setCell (p := ⟨w.heap.size, 1, none⟩) (Nat.le_refl _) (.int .i64 0)).setCell (p := ⟨w.heap.size, 2, none⟩) (Nat.le_refl _) (.bool false)).setCell (p := ⟨w.heap.size, 3, none⟩) (Nat.le_refl _) (.slice none 0 0))
          go_wp2
          refine bodyPost_ret (v := .tuple #[.agg #[.int .i64 0, .int .i64 0, .bool false, .slice none 0 0], .bool false]) (by simp [results, Tryd.results21, go_sem, r0, r1, r2, r3]) rfl ⟨_, by rw [HF.out], by rw [HF.out]; exact PtAt.none_ _, HBE.out⟩
        · skip
          obtain ⟨e0, e1, e2, e3, f0, f1, f2, f3⟩ := ent_cells HK0.out
          obtain ⟨r0, r1, r2, r3, -⟩ := ent_puts HK0.out (.int .i64 s) (.int .i64 x) (.bool f) (.slice Av k cv)
          have HOW := Lib.hid (own_far (o := 3) (u := .slice Av k cv) (((HK0.out.set_ 0 (.int .i64 s)).set_ 1 (.int .i64 x)).set_ 2 (.bool f)) (by decide) (own_far (o := 2) (u := .bool f) ((HK0.out.set_ 0 (.int .i64 s)).set_ 1 (.int .i64 x)) (by decide) (own_far (o := 1) (u := .int .i64 x) (HK0.out.set_ 0 (.int .i64 s)) (by decide) (own_far (o := 0) (u := .int .i64 s) HK0.out (by decide) HROW.out))))
          have HBE := Lib.hid ((((HBW.out.setCell (p := ⟨w.heap.size, 0, none⟩) (Nat.le_refl _) (.int .i64 s)).setCell (p := ⟨w.heap.size, 1, none⟩) (Nat.le_refl _) (.int .i64 x)).setCell (p := ⟨w.heap.size, 2, none⟩) (Nat.le_refl _) (.bool f)).setCell (p := ⟨w.heap.size, 3, none⟩) (Nat.le_refl _) (.slice Av k cv))
          go_wp2
          refine bodyPost_ret (v := .tuple #[.agg #[.int .i64 s, .int .i64 x, .bool f, .slice Av k cv], .bool true]) (by simp [results, Tryd.results21, go_sem, r0, r1, r2, r3]) rfl ⟨_, by rw [HF.out], by rw [HF.out]; exact ⟨Av, cv, by show _ = ptV s x f Av L.length cv; rw [HLe.out]; rfl, by show L.length ≤ cv; rw [HLe.out]; exact hcv, hcm, Rd.own HOW.out⟩, HBE.out⟩
  · have HF : Hid (t = false) := by
      cases t with
      | false => exact rfl
      | true => exact absurd (by have h := (HT.out.1 rfl).2.1; rw [← HL.out, ← HL'.out]; exact h) hnm
    have hne : ((n : Int) != (m : Int)) = true := by simp; omega
    clear hnm
    obtain ⟨e0, e1, e2, e3, f0, f1, f2, f3⟩ := ent_cells HK0.out
    go_wp2
    refine bodyPost_ret (v := .tuple #[.agg #[.int .i64 0, .int .i64 0, .bool false, .slice none 0 0], .bool false]) (by simp [results, Tryd.results21, go_sem]) rfl ⟨_, by rw [HF.out], by rw [HF.out]; exact PtAt.none_ _, HBW.out⟩
end Go.Proofs.YtjibjojnkieliaaDoor
