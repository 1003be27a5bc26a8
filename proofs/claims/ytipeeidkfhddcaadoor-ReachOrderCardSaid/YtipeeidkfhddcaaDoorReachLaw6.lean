/-
  What the statement ReachOrder answers, by the properties of reach's functions.
-/
import Derived.Test.YtipeeidkfhddcaaDoorReachLaw5
import Derived.Test.YtipeeidkfhddcaaDoorReachOrd
namespace Go.Proofs.YtipeeidkfhddcaaDoor
open Go.RowKit
set_option maxRecDepth 100000
set_option linter.unusedVariables false

set_option maxHeartbeats 800000 in
theorem reachOrder_walk (w : World) (HPC : PathC w) (HNC : NumberC w) (HCC : CountC w) (HSC : NodesC w) (n m : Int) (N : Nat) (hn : 0 ≤ n ∧ n ≤ 65535) (hm : 0 ≤ m ∧ m ≤ 65535) (hN : N ≤ 255) :
    Calls Tryd.prog 8 #[.int .u16 n, .int .u16 m, .int .u8 (N : Int)] w fun e w' => e = .returned (.bool true) ∧ Below w.heap.size w w' := by
  have HAW := Lib.hid (awakeR_any HPC HNC HCC)
  have HPC' := Lib.hid HPC
  have HSC' := Lib.hid HSC
  have HC := Lib.hid fun w' (hb : Below w.heap.size w w') => HCC.call (N : Int) (ndsN N) w' (by rw [ndsI, show min ((N : Int)).toNat 3621 = N from by omega]) hb (by omega)
  clear HPC HNC HCC HSC
  obtain ⟨i0, hi, hz0, hz1, hz2⟩ := info_parts info_int8
  have hi := Lib.hid hi
  have hz0 := Lib.hid hz0
  have hz1 := Lib.hid hz1
  have hz2 := Lib.hid hz2
  obtain ⟨a, ha, ha1⟩ : ∃ a : Nat, n.tmod 3621 = a ∧ a < 3621 := ⟨(n % 3621).toNat, by rw [Int.tmod_eq_emod_of_nonneg hn.1]; omega, by omega⟩
  obtain ⟨b, hb, hb1'⟩ : ∃ b : Nat, m.tmod 3621 = b ∧ b < 3621 := ⟨(m % 3621).toNat, by rw [Int.tmod_eq_emod_of_nonneg hm.1]; omega, by omega⟩
  have wa : IntKind.u16.wrap (a : Int) = a := IntWalk.u16_in _ (by omega)
  have wb : IntKind.u16.wrap (b : Int) = b := IntWalk.u16_in _ (by omega)
  go_enter Tryd.func8, Tryd.ntmps8
  go_wp2_with fail
  refine (HPC'.out.call (a : Int) (pathI a) 0 _ (errP_ok ha1).1 (errP_ok ha1).2).mono ?_
  rintro e w1 ⟨A1, k1, c1, rfl, hl1, hk1, hm1, hr1, hb1⟩
  have HB := Lib.hid hb1
  have HR1 := Lib.hid hr1
  have HL1 := Lib.hid hl1
  clear hr1 hb1
  go_wp2_with fail
  refine (HPC'.out.call (b : Int) (pathI b) 0 _ (errP_ok hb1').1 (errP_ok hb1').2).mono ?_
  rintro e w2 ⟨A2, k2, c2, rfl, hl2, hk2, hm2, hr2, hb2⟩
  have HR1 := Lib.hid ((HR1.out.below hb2).mono hb2.size)
  have HB := Lib.hid (HB.out.trans (hb2.mono HB.out.size))
  have HR2 := Lib.hid hr2
  have HL2 := Lib.hid hl2
  have hp1 := path_length a
  have hp2 := path_length b
  rw [hl1] at hp1
  rw [hl2] at hp2
  unfold maxLen at hm1 hm2
  obtain ⟨b1, o1, rfl, hg1, hc1⟩ := HR1.out.plain (by rw [List.length_map, HL1.out]; omega)
  obtain ⟨b2, o2, rfl, hg2, hc2⟩ := HR2.out.plain (by rw [List.length_map, HL2.out]; omega)
  have HC1 := Lib.hid hc1
  have HC2 := Lib.hid hc2
  obtain ⟨d, hd⟩ : ∃ d, decide (a < b) = d := ⟨_, rfl⟩
  have HD := Lib.hid hd
  clear hr2 hb2 hl1 hl2 hc1 hc2 hn hm ha hb wa wb HPC'
  go_wp2_with fail
  go_loopw [13, 14] (fun f i wr => ∃ k : Nat, k ≤ k1 ∧ k ≤ k2 ∧ f = .bool false ∧ i = .int .i64 k ∧ Hid (∀ j, j < k → (pathI a)[j]? = (pathI b)[j]?) ∧ Hid (Below w2.heap.size w2 wr)) (fun _ i _ => k1 - (intOf i).toNat)
  case atStart => exact ⟨0, by omega, by omega, rfl, rfl, fun j h => absurd h (by omega), Below.refl _ _⟩
  case round =>
    obtain ⟨k, hkk1, hkk2, rfl, rfl, HAG, HBJ⟩ := hrel
    have hcase : (∃ x, k < k1 ∧ k < k2 ∧ (pathI a)[k]? = some x ∧ (pathI b)[k]? = some x) ∨ (∃ x y, k < k1 ∧ k < k2 ∧ (pathI a)[k]? = some x ∧ (pathI b)[k]? = some y ∧ x ≠ y) ∨ (k = k1 ∧ d = false) ∨ (k < k1 ∧ k = k2 ∧ d = false) := by
      by_cases h1 : k < k1
      · by_cases h2 : k < k2
        · obtain ⟨x, hx⟩ : ∃ x, (pathI a)[k]? = some x := ⟨_, List.getElem?_eq_getElem (by rw [HL1.out]; exact h1)⟩
          obtain ⟨y, hy⟩ : ∃ y, (pathI b)[k]? = some y := ⟨_, List.getElem?_eq_getElem (by rw [HL2.out]; exact h2)⟩
          by_cases e : x = y
          · exact .inl ⟨x, h1, h2, hx, by rw [hy, e]⟩
          · exact .inr (.inl ⟨x, y, h1, h2, hx, hy, e⟩)
        · exact .inr (.inr (.inr ⟨h1, by omega, by rw [← HD.out]; exact path_same ha1 hb1' HAG.out (.inr (by rw [HL2.out]; omega))⟩))
      · exact .inr (.inr (.inl ⟨by omega, by rw [← HD.out]; exact path_same ha1 hb1' HAG.out (.inl (by rw [HL1.out]; omega))⟩))
    rcases hcase with ⟨x, h1, h2, hx, hy⟩ | ⟨x, y, h1, h2, hx, hy, hxy⟩ | ⟨rfl, rfl⟩ | ⟨h1, rfl, rfl⟩
    · have cx := (HBJ.out.cell (p := ⟨b1, o1 + k, none⟩) hg1).trans (HC1.out k (.int .i64 x) (by rw [List.getElem?_map, hx]; rfl))
      have cy := (HBJ.out.cell (p := ⟨b2, o2 + k, none⟩) hg2).trans (HC2.out k (.int .i64 x) (by rw [List.getElem?_map, hy]; rfl))
      have HX := Lib.hid hx
      have HY := Lib.hid hy
      clear hx hy
      go_wp2_with fail
      go_quiet (fail)
      go_wp2
      go_roundw
      case rel =>
        refine ⟨k + 1, by omega, by omega, rfl, by go_num, fun j hj => ?_, by first | exact HBJ.out.drewN' _ | exact HBJ.out.drew⟩
        by_cases e : j = k
        · subst e; rw [HX.out, HY.out]
        · exact HAG.out j (by omega)
      case measure => simp [intOf]; omega
    all_goals first
      | (have cx := (HBJ.out.cell (p := ⟨b1, o1 + k, none⟩) hg1).trans (HC1.out k (.int .i64 x) (by rw [List.getElem?_map, hx]; rfl))
         have cy := (HBJ.out.cell (p := ⟨b2, o2 + k, none⟩) hg2).trans (HC2.out k (.int .i64 y) (by rw [List.getElem?_map, hy]; rfl))
         have hdd : decide (x < y) = d := by rw [← HD.out]; exact path_diff ha1 hb1' HAG.out hx hy hxy
         have hxn : (x == y) = false := by simp [hxy]
         clear hx hy
         go_wp2_with fail
         go_quiet (fail)
         go_wp2_with fail
         have cx2 : ∀ q, (wr.drewN q).cell? ⟨b1, o1 + k, none⟩ = some (.int .i64 x) := fun _ => cx
         have cy2 : ∀ q, (wr.drewN q).cell? ⟨b2, o2 + k, none⟩ = some (.int .i64 y) := fun _ => cy
         go_quiet (fail)
         clear cx cy cx2 cy2 hdd hxn
         go_wp2_with fail
         generalize (x != y) = e0
         clear hxy)
      | go_wp2_with fail
    all_goals
      have HB0 := Lib.hid (HB.out.trans (HBJ.out.mono HB.out.size))
      go_loopw [15, 16] (fun r i wx => ∃ (t : Nat), t ≤ N ∧ i = .int .i64 t ∧ Hid (wx.ownsRow w.heap.size 3 1 r t ((intL (List.range t)).map iv)) ∧ Hid (Below w.heap.size w wx)) (fun _ i _ => N - (intOf i).toNat)
      case atStart => exact ⟨0, Nat.zero_le _, rfl, ⟨rfl, .inl ⟨rfl, rfl⟩⟩, by first | exact HB0.out | exact (HB0.out.drewN' _).drewN' _⟩
      case round =>
        obtain ⟨t, ht, rfl, HOWN, HBX⟩ := hrel
        rename World => wx
        obtain ⟨Ar, cr, hre, hcr, hcm⟩ := own_len HOWN.out
        subst hre
        by_cases hlt : t < N
        · have HE : Hid (intL (List.range (t + 1)) = intL (List.range t) ++ [(t : Int)]) := by show _ = _; simp [intL, List.range_succ]
          have HOWN2 := Lib.hid (HOWN.out.alloc (.cells #[.int .i64 (t : Int)] 3))
          have HB2 := Lib.hid (HBX.out.alloc HBX.out.size (.cells #[.int .i64 (t : Int)] 3))
          have HN := Lib.hid (Rd.new wx 3 #[.int .i64 (t : Int)] (0, 0))
          go_wp2_with (at_builtin; refine wpList_append_rd _ rfl _ _ 22 rfl w.heap.size 3 i0 (.int .i64 0) 1 8 Tryd.underlying22 hi.out hz0.out hz1.out hz2.out rfl (by decide) _ _ _ rfl HOWN2.out (wx.heap.size + 1) (some ⟨wx.heap.size, 0, none⟩) 1 1 ([(t : Int)].map iv) rfl rfl HN.out ?c2 ?c3 ?c4 ?c5 ?_)
          case c2 => first | exact ints_one _ | rfl
          case c3 => unfold maxLen; omega
          case c4 => omega
          case c5 => have := HBX.out.size; omega
          intro r' w6 hown6 hgrow
          have HB6 := Lib.hid (HB2.out.grown hgrow HB2.out.size (fun g hg => (HOWN2.out.lt g hg).1))
          have HOWN6 : Hid (w6.ownsRow w.heap.size 3 1 r' (t + 1) ((intL (List.range (t + 1))).map iv)) := by
            rw [HE.out, List.map_append]
            exact hown6
          clear hown6 hgrow HOWN2 HB2 HN HOWN HBX
          go_wp2
          go_roundw
          case rel => exact ⟨t + 1, by omega, by go_num, HOWN6.out, HB6.out⟩
          case measure => simp [intOf]; omega
        · obtain rfl : t = N := by omega
          have hlen : (intL (List.range t)).length = t := by simp [intL]
          have hok : okL (intL (List.range t)) := fun z hz => by
            obtain ⟨y, hy, rfl⟩ := List.mem_map.1 hz
            have := List.mem_range.1 hy
            omega
          have htn : (intL (List.range t)).map Int.toNat = List.range t := by simp [intL, Function.comp_def]
          have HNS := Lib.hid (HSC'.out.call Ar t cr (intL (List.range t)) wx hlen hcr hcm (by omega) (Rd.own HOWN.out) (fun y hy => by obtain ⟨z, hz, rfl⟩ := List.mem_map.1 hy; have := List.mem_range.1 hz; omega))
          have HTN := Lib.hid htn
          have HOK := Lib.hid hok
          clear htn hok hlen
          go_wp2_with fail
          with_reducible refine HNS.out.mono ?_
          rintro e w3 ⟨A4, k4, c4, ns, q, rfl, hcs, hl4, hk4, hm4, hr4, hb4⟩
          have HB4 := Lib.hid (HBX.out.trans (hb4.mono HBX.out.size))
          obtain ⟨hns, hq⟩ : k4 = ndsN t ∧ q = 0 := by
            rcases hcs with ⟨_, h1, h2⟩ | ⟨h, _⟩
            · refine ⟨?_, h2⟩
              rw [← hl4, h1, HTN.out, idx_len t (by omega)]
            · exact absurd HOK.out h
          subst hns
          subst hq
          have hdx := HD.out
          clear hcs hl4 hr4 hb4 HNS HTN HOK
          go_wp2_with fail
          with_reducible refine (HC.out _ HB4.out).mono ?_
          rintro e w5 ⟨rfl, hb5⟩
          have HB5 := Lib.hid (HB4.out.trans (hb5.mono HB4.out.size))
          clear hb5
          go_wp2_with fail
          with_reducible refine (HAW.out.call _).mono ?_
          rintro e w6 ⟨rfl, hb6⟩
          have HB6 := Lib.hid (HB5.out.trans (hb6.mono HB5.out.size))
          clear hb6
          go_wp2
          go_ret
          exact ⟨rfl, HB6.out⟩
end Go.Proofs.YtipeeidkfhddcaaDoor
