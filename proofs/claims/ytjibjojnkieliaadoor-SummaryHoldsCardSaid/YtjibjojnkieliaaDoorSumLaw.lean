/-
  What the statements of layer 6 look at: no more entries, blocks, octets than so many; the document's part of whatever octets.
-/
import Derived.Test.YtjibjojnkieliaaDoorRef06f
import Derived.Test.YtjibjojnkieliaaDoorOpenRows
namespace Go.Proofs.YtjibjojnkieliaaDoor
open Go.RowKit
set_option linter.unusedVariables false

theorem refDecode_any (bs : List UInt8) (w : World) (hl : bs.length ≤ 9223372036854775807) :
    Calls Tryd.prog 16 #[.string (str bs)] w fun e w' => ∃ v, e = .returned (.tuple #[v, .int .i64 (decQ bs)]) ∧ PtAt w' v (decR bs) ∧ Below w.heap.size w w' := by
  cases hh : heldB bs with
  | false => exact refDecode_short bs w hl hh
  | true => exact refDecode_held bs w (heldB_128 hh) hh

theorem fewEn_any (B : Nat) (A : Option Addr) (n c : Nat) (l : List En) (w : World) (hl : l.length = n) (hr : Rd w B A (ensV l)) (hc : n ≤ c) (hcm : c ≤ maxLen) :
    Calls Tryd.prog 8 #[.slice A n c] w fun e w' => e = .returned (.slice A (l.take 20).length c) ∧ w = w' := by
  unfold maxLen at hcm
  by_cases h : 20 < n
  · obtain ⟨b, o, rfl, _, _⟩ := hr.plain (by rw [ensV_length]; omega)
    have h' : (20 : Int) < (n : Int) := by omega
    have HL : Hid ((l.take 20).length = 20) := by simp [Hid]; omega
    rw [HL.out]
    clear hr hl
    go_enter Tryd.func8, Tryd.ntmps8
    go_wp2
    go_ret
    exact ⟨rfl, rfl⟩
  · have h' : ¬ (20 : Int) < (n : Int) := by omega
    have HL : Hid ((l.take 20).length = n) := by simp [Hid]; omega
    rw [HL.out]
    clear hr hl
    go_enter Tryd.func8, Tryd.ntmps8
    go_wp2
    go_ret
    exact ⟨rfl, rfl⟩

/-- what is looked at of blocks -/
def cutP (p : Part) : Part := (p.1, p.2.1, p.2.2.take 130)
def cutL (ps : List Part) : List Part := (ps.take 20).map cutP
theorem cutL_length (ps : List Part) : (cutL ps).length ≤ 20 := by simp [cutL]; omega
theorem cutL_lens (ps : List Part) : ∀ b ∈ octs (cutL ps), b.length ≤ 130 := by
  intro b hb
  obtain ⟨p, hp, rfl⟩ := List.mem_map.1 hb
  obtain ⟨q, _, rfl⟩ := List.mem_map.1 hp
  simp [cutP]; omega
theorem cutL_get (ps : List Part) (k : Nat) (p : Part) (h : (ps.take 20)[k]? = some p) : (cutL ps)[k]? = some (cutP p) := by simp only [cutL, List.getElem?_map, h, Option.map_some]
theorem info_rows : (Tryd.prog.info? 26).map (fun i => (i.zero, i.size, i.bytes)) = some (some (.slice none 0 0), 1, 24) := by kernel_rfl
theorem info_text : (Tryd.prog.info? 9).map (fun i => (i.zero, i.size, i.bytes)) = some (some (.string ByteArray.empty), 1, 16) := by kernel_rfl
theorem under_strC : Tryd.prog.underlying 9 = some .string := by kernel_rfl
theorem partsV_succ (qs : List Part) (k : Nat) (q : Part) (h : qs[k]? = some q) : (qs.take (k + 1)).map partV = (qs.take k).map partV ++ [partV q] := by rw [List.take_add_one, h]; simp
theorem strsV_succ (qs : List Part) (k : Nat) (q : Part) (h : qs[k]? = some q) : strsV (octs (qs.take (k + 1))) = strsV (octs (qs.take k)) ++ [.string (str q.2.2)] := by rw [List.take_add_one, h]; simp [strsV, octs]

set_option maxRecDepth 100000 in
set_option maxHeartbeats 4000000 in
theorem blocks_cut (A : Option Addr) (n0 n c : Nat) (ps : List Part) (w : World) (hl : ps.length = n) (hc : n ≤ c) (hr : PartsIn w w.heap.size A ps) (hn : n ≤ 20) (hcut : (n0 ≤ 20 ∧ n0 = n) ∨ (20 < n0 ∧ n = 20 ∧ (∃ b o, A = some ⟨b, o, none⟩) ∧ n0 ≤ c)) (hcm : c ≤ maxLen) :
    Calls Tryd.prog 17 #[.slice A n0 c] w fun e w' => ∃ A1 A2 c1 c2, e = .returned (.tuple #[.slice A1 n c1, .slice A2 n c2]) ∧ PartsIn w' w'.heap.size A1 (ps.map cutP) ∧ Rd w' w'.heap.size A2 (strsV (octs (ps.map cutP))) ∧ Below w.heap.size w w' := by
  obtain ⟨i0, hi, hz0, hz1, hz2⟩ := info_parts info_rows
  obtain ⟨j0, hj, hy0, hy1, hy2⟩ := info_parts info_text
  have HI := Lib.hid (And.intro hi (And.intro hz0 (And.intro hz1 hz2)))
  have HJ := Lib.hid (And.intro hj (And.intro hy0 (And.intro hy1 hy2)))
  have HL := Lib.hid hl
  have HR := Lib.hid hr
  unfold maxLen at hcm
  obtain ⟨qs, hqs⟩ : ∃ qs, ps.map cutP = qs := ⟨_, rfl⟩
  have HQ : Hid (∀ (k : Nat) (p : Part), ps[k]? = some p → qs[k]? = some (cutP p)) := fun k p h => by rw [← hqs, List.getElem?_map, h]; rfl
  have HQL : Hid (qs.length = n) := by show _ = _; rw [← hqs, List.length_map, hl]
  have HQS := Lib.hid hqs
  rw [hqs]
  clear hi hz0 hz1 hz2 hj hy0 hy1 hy2 hl hr hqs
  rcases hcut with ⟨h1, rfl⟩ | ⟨h1, rfl, ⟨b0, o0, rfl⟩, h2⟩
  case' inl => have hno : ¬ (20 : Int) < (n0 : Int) := by omega
  case' inr => have hyes : (20 : Int) < (n0 : Int) := by omega
  all_goals
    go_enter Tryd.func17, Tryd.ntmps17
    go_wp2
    go_loopw [4, 5, 6] (fun r s i wr => ∃ k : Nat, k ≤ qs.length ∧ i = .int .i64 k ∧ Hid (wr.ownsRow w.heap.size 26 1 r k ((qs.take k).map partV)) ∧ Hid (wr.ownsRow w.heap.size 9 1 s k (strsV (octs (qs.take k)))) ∧ Hid (Below w.heap.size w wr)) (fun _ _ i _ => qs.length - (intOf i).toNat)
    case atStart => exact ⟨0, Nat.zero_le _, rfl, World.ownsRow_nil _ _ _ _, World.ownsRow_nil _ _ _ _, Below.refl _ _⟩
    case round =>
      obtain ⟨k, hk, rfl, HO, HS, HB⟩ := hrel
      obtain ⟨A1, c1, hre, hc1, hcm1⟩ := own_len HO.out
      subst hre
      obtain ⟨A2, c2, hse, hc2, hcm2⟩ := own_len HS.out
      subst hse
      have hql := HQL.out
      by_cases hlt : k < qs.length
      · obtain ⟨p, hp⟩ : ∃ p, ps[k]? = some p := ⟨_, List.getElem?_eq_getElem (by have := HL.out; omega)⟩
        have HQK := Lib.hid (HQ.out k p hp)
        have hki : (k : Int) < 20 := by omega
        obtain ⟨hp1, hp2, hp3⟩ := HR.out.2 p (List.mem_of_getElem? hp)
        obtain ⟨b, o, hA, -, hcs⟩ := (HR.out.1.below HB.out).plain (by simp; have := HL.out; omega)
        cases hA
        have hcell := hcs k (partV p) (by simp [hp])
        obtain ⟨pa, pc, pb⟩ := p
        simp only at hp1 hp2 hp3
        obtain ⟨z, hz⟩ : ∃ z, pb.length = z := ⟨_, rfl⟩
        unfold partV at hcell
        simp only [hz] at hcell
        rw [hz] at hp2
        unfold maxLen at hp3
        obtain ⟨zc, hzc⟩ : ∃ zc, (pb.take 130).length = zc := ⟨_, rfl⟩
        have hzm : zc = min 130 z := by rw [← hzc, List.length_take, hz]
        have HP1 := Lib.hid hp1
        have HZC := Lib.hid hzc
        obtain ⟨Pv, hPv⟩ : ∃ Pv : Value, Pv = .slice pa zc pc := ⟨_, rfl⟩
        have HPV := Lib.hid hPv
        have HQV : Hid (partV (cutP (pa, pc, pb)) = Pv) := by show _ = _; rw [hPv, ← hzc]; rfl
        have HCV : Hid (∀ w', Below w.heap.size w w' → (convert 26 9 (.slice pa zc pc)).run Tryd.prog w' = .ok (.string (str (pb.take 130))) w') := fun w' hb =>
          run_conv 26 5 9 Tryd.underlying26 Tryd.underlying5 under_strC zc pc hzc (B := w.heap.size) (by rw [List.map_take]; exact (hp1.below hb).take 130)
        have hbz := HB.out.size
        clear hp hcs hz hzc hPv
        have hway : (130 < z ∧ zc = 130 ∧ ∃ b1 o1, pa = some ⟨b1, o1, none⟩) ∨ (z ≤ 130 ∧ zc = z) := by
          by_cases hz130 : 130 < z
          · obtain ⟨b1, o1, hpa, -, -⟩ := hp1.plain (by simp; have := HZC.out; rw [List.length_take] at this; omega)
            exact .inl ⟨hz130, by omega, b1, o1, hpa⟩
          · exact .inr ⟨by omega, by omega⟩
        clear hp1 hzm
        rcases hway with ⟨hz130, rfl, b1, o1, rfl⟩ | ⟨hz130, rfl⟩
        case' inl => have hzi : (130 : Int) < (z : Int) := by omega
        case' inr => have hzi : ¬ (130 : Int) < (zc : Int) := by omega
        all_goals
          go_wp2_with (at_builtin; refine wpList_append_own _ rfl _ _ 39 rfl w.heap.size 26 i0 (.slice none 0 0) 1 24 Tryd.underlying39 HI.out.1 HI.out.2.1 HI.out.2.2.1 HI.out.2.2.2 rfl (by decide) _ _ _ rfl (HO.out.alloc _) ⟨wr.heap.size, 0, none⟩ 1 1 [Pv] rfl rfl ?_ ?_ ?_ ?_ ?_ ?_)
          · intro j u hj
            rw [HPV.out] at hj
            first
              | exact hj
              | (obtain ⟨ad, e, _, hc⟩ := (Rd.new wr 26 #[_] (0, 0)) j u hj
                 cases e
                 exact hc)
          · first | (intro u hu; simp at hu; subst hu; rw [HPV.out]; rfl) | (rw [HPV.out]; rfl)
          · unfold maxLen; omega
          · omega
          · first | omega | (simp; omega)
          · intro r' w5 hown5 hgrow5 _
            have HB5 := Lib.hid ((HB.out.alloc hbz _).grown hgrow5 (by simp; omega) (fun g hg => (HO.out.lt g hg).1))
            have HS5 := Lib.hid ((HS.out.alloc _).kept hgrow5 (own_ne HS.out HO.out (by decide)))
            have HO5 : Hid (w5.ownsRow w.heap.size 26 1 r' (k + 1) ((qs.take (k + 1)).map partV)) := by show World.ownsRow _ _ _ _ _ _ _; rw [partsV_succ qs k _ HQK.out, HQV.out]; first | exact hown5 | (rw [List.map_take]; exact hown5)
            have hcv := HCV.out _ HB5.out
            have hbz5 := HB5.out.size
            clear hown5 hgrow5
            go_wp2_with (at_builtin; refine wpList_append_own _ rfl _ _ 40 rfl w.heap.size 9 j0 (.string ByteArray.empty) 1 16 Tryd.underlying40 HJ.out.1 HJ.out.2.1 HJ.out.2.2.1 HJ.out.2.2.2 rfl (by decide) _ _ _ rfl (HS5.out.alloc _) ⟨w5.heap.size, 0, none⟩ 1 1 [.string (str (pb.take 130))] rfl rfl ?_ ?_ ?_ ?_ ?_ ?_)
            · intro j u hj
              obtain ⟨ad, e, _, hc⟩ := (Rd.new w5 9 #[.string (str (pb.take 130))] (0, 0)) j u hj
              cases e
              exact hc
            · intro u hu; simp at hu; subst hu; rfl
            · unfold maxLen; omega
            · omega
            · simp; omega
            · intro s' w6 hown6 hgrow6 _
              have HB6 := Lib.hid ((HB5.out.alloc hbz5 _).grown hgrow6 (by simp; omega) (fun g hg => (HS5.out.lt g hg).1))
              have HO6 := Lib.hid ((HO5.out.alloc _).kept hgrow6 (own_ne HO5.out HS5.out (by decide)))
              have HS6 : Hid (w6.ownsRow w.heap.size 9 1 s' (k + 1) (strsV (octs (qs.take (k + 1))))) := by show World.ownsRow _ _ _ _ _ _ _; rw [strsV_succ qs k _ HQK.out]; exact hown6
              clear hown6 hgrow6 hcv
              go_wp2
              go_roundw
              case rel => exact ⟨k + 1, by omega, by go_num, HO6.out, HS6.out, HB6.out⟩
              case measure => simp [intOf]; omega
      · obtain rfl : k = qs.length := by omega
        have ho := HO.out
        have hs := HS.out
        rw [List.take_length] at ho hs
        have HO := Lib.hid ho
        have HS := Lib.hid hs
        clear ho hs
        go_wp2
        go_ret2
        refine ⟨A1, A2, c1, c2, by show Ending.returned (Value.tuple #[Value.slice A1 _ c1, Value.slice A2 _ c2]) = _; rw [hql], ⟨Rd.own HO.out, fun p hp => ?_⟩, Rd.own HS.out, HB.out⟩
        rw [← HQS.out] at hp
        obtain ⟨q, hq, rfl⟩ := List.mem_map.1 hp
        obtain ⟨h1, h2, h3⟩ := HR.out.2 q hq
        exact ⟨by simp only [cutP, List.map_take]; exact ((h1.below HB.out).mono HB.out.size).take 130, by simp [cutP]; omega, h3⟩
end Go.Proofs.YtjibjojnkieliaaDoor
