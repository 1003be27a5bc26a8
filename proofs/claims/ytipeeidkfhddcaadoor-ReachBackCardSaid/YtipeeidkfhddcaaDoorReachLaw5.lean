/-
  What the statement ReachBack answers, by the properties of reach's functions.
-/
import Derived.Test.YtipeeidkfhddcaaDoorReachLaw4
import Derived.Test.YtipeeidkfhddcaaDoorReachBack
namespace Go.Proofs.YtipeeidkfhddcaaDoor
open Go.RowKit
set_option maxRecDepth 100000
set_option linter.unusedVariables false

theorem errP_ok {a : Nat} (h : a < 3621) : refP (a : Int) = pathI a ∧ errP (a : Int) = 0 := by
  unfold refP errP
  rw [if_pos (by omega), if_pos (by omega)]
  exact ⟨rfl, rfl⟩
theorem errN_ok {a : Nat} (h : a < 258) : refN (a : Int) = nodI a ∧ errN (a : Int) = 0 := by
  unfold refN errN
  rw [if_pos (by omega), if_pos (by omega)]
  exact ⟨rfl, rfl⟩

set_option maxHeartbeats 1000000 in
theorem reachBack_walk (w : World) (HPC : PathC w) (HBC : BlockC w) (HNC : NumberC w) (HCC : CountC w) (HOC : NodeC w) (HSC : NodesC w) (n m : Int) (hn : 0 ≤ n ∧ n ≤ 65535) (hm : 0 ≤ m ∧ m ≤ 65535) :
    Calls Tryd.prog 7 #[.int .u16 n, .int .u16 m] w fun e w' => e = .returned (.bool true) ∧ Below w.heap.size w w' := by
  have HAW := Lib.hid (awakeR_any HPC HNC HCC)
  have HPC' := Lib.hid HPC
  have HBC' := Lib.hid HBC
  have HNC' := Lib.hid HNC
  have HOC' := Lib.hid HOC
  have HSC' := Lib.hid HSC
  clear HCC HPC HBC HNC HOC HSC
  obtain ⟨a, ha, ha1⟩ : ∃ a : Nat, n.tmod 3621 = a ∧ a < 3621 := ⟨(n % 3621).toNat, by rw [Int.tmod_eq_emod_of_nonneg hn.1]; omega, by omega⟩
  obtain ⟨b, hb, hb1'⟩ : ∃ b : Nat, m.tmod 3621 = b ∧ b < 3621 := ⟨(m % 3621).toNat, by rw [Int.tmod_eq_emod_of_nonneg hm.1]; omega, by omega⟩
  have wa : IntKind.u16.wrap (a : Int) = a := IntWalk.u16_in _ (by omega)
  have wb : IntKind.u16.wrap (b : Int) = b := IntWalk.u16_in _ (by omega)
  go_enter Tryd.func7, Tryd.ntmps7
  go_wp2_with fail
  refine (HPC'.out.call (a : Int) (pathI a) 0 _ (errP_ok ha1).1 (errP_ok ha1).2).mono ?_
  rintro e w1 ⟨A1, k1, c1, rfl, hl1, hk1, hm1, hr1, hb1⟩
  have HB := Lib.hid hb1
  have HR1 := Lib.hid hr1
  have HM1 := Lib.hid hm1
  have HL1 := Lib.hid hl1
  clear hr1 hb1
  go_wp2_with fail
  refine (HPC'.out.call (b : Int) (pathI b) 0 _ (errP_ok hb1').1 (errP_ok hb1').2).mono ?_
  rintro e w2 ⟨A2, k2, c2, rfl, hl2, hk2, hm2, hr2, hb2⟩
  have HR1 := Lib.hid ((HR1.out.below hb2).mono hb2.size)
  have HB := Lib.hid (HB.out.trans (hb2.mono HB.out.size))
  have HR2 := Lib.hid hr2
  have HL2 := Lib.hid hl2
  unfold maxLen at hm1 hm2
  clear hr2 hb2
  go_wp2_with fail
  refine (HBC'.out.call A1 k1 c1 (pathI a) a a 0 _ HL1.out hk1 HM1.out HR1.out (.inl ⟨a, ha1, rfl, rfl⟩) (if_neg (by omega)) (if_neg (by omega))).mono ?_
  rintro e w3 ⟨rfl, hb3⟩
  have HR1 := Lib.hid ((HR1.out.below hb3).mono hb3.size)
  have HR2 := Lib.hid ((HR2.out.below hb3).mono hb3.size)
  have HB := Lib.hid (HB.out.trans (hb3.mono HB.out.size))
  have hba := (Below.refl w3.heap.size w3).alloc (Nat.le_refl _) (.cells #[.int .i64 (a : Int)] 3)
  clear hb3
  go_wp2_with fail
  refine (HSC'.out.call _ 1 1 [(a : Int)] _ rfl (Nat.le_refl _) (by simp [maxLen]) (by omega) (Rd.bk (Bk.new w3 3 #[.int .i64 (a : Int)])) (fun y hy => by rw [List.mem_singleton.1 hy]; omega)).mono ?_
  rintro e w4 ⟨A4, k4, c4, ns, q, rfl, hcs, hl4, hk4, hm4, hr4, hb4⟩
  have hb4' := hba.trans (hb4.mono hba.size)
  clear hb4
  have HR1 := Lib.hid ((HR1.out.below hb4').mono hb4'.size)
  have HR2 := Lib.hid ((HR2.out.below hb4').mono hb4'.size)
  have HB := Lib.hid (HB.out.trans (hb4'.mono HB.out.size))
  have hok : okL [(a : Int)] := fun z hz => by
    rw [List.mem_singleton.1 hz]
    omega
  obtain ⟨hns, hq⟩ : ns = (preL a).map (fun (m : Nat) => (m : Int)) ∧ q = 0 := by
    rcases hcs with ⟨_, h1, h2⟩ | ⟨h, _⟩
    · exact ⟨h1.trans (preL_idx a ha1), h2⟩
    · exact absurd hok h
  subst hq
  have HR4 := Lib.hid hr4
  have HNS := Lib.hid hns
  have hp1 := path_length a
  have hp2 := path_length b
  have hk14 : (k1 : Int) - 1 = (k4 : Int) := by
    rw [hns, List.length_map, preL_length, hl1] at hl4
    omega
  have hk41 : k4 + 1 = k1 := by omega
  rw [hl1] at hp1
  rw [hl2] at hp2
  obtain ⟨b1, o1, rfl, -, -⟩ := HR1.out.plain (by rw [List.length_map, HL1.out]; omega)
  have HS0 := Lib.hid fun (t : Bool) (ht : t = true ↔ pathI a = pathI b) => refSame8_any w4.heap.size w4.heap.size _ A2 k1 c1 k2 c2 (pathI a) (pathI b) t w4 HL1.out HL2.out (by omega) (by omega) HR1.out HR2.out (Nat.le_refl _) (Nat.le_refl _) ht
  clear hba hcs hl4 hm4 hr4 hb4' hok hns HR2 HL2 HPC' HBC' HSC' hm2 hl1 hl2 hk2 ha hb wa wb hn hm
  obtain ⟨d, hd⟩ : ∃ d, ((a : Int) == (b : Int)) = d := ⟨_, rfl⟩
  have HS := HS0.out d (by
    rw [← hd, beq_iff_eq]
    constructor
    · intro h; rw [show a = b by omega]
    · intro h; rw [path_inj ha1 hb1' h])
  all_goals
    have HS' := Lib.hid HS
    clear HS HS0
    go_wp2_with fail
    with_reducible refine HS'.out.mono ?_
    rintro e w5 ⟨rfl, hb5⟩
    have HR1 := Lib.hid ((HR1.out.below hb5).mono hb5.size)
    have HR4 := Lib.hid ((HR4.out.below hb5).mono hb5.size)
    have HB := Lib.hid (HB.out.trans (hb5.mono HB.out.size))
    clear hb5 HS'
    go_wp2_with fail
    go_loopw [15] (fun i wr => ∃ j : Nat, j + 1 ≤ k1 ∧ i = .int .i64 ((j + 1 : Nat) : Int) ∧ Hid (Below w5.heap.size w5 wr)) (fun i _ => k1 - (intOf i).toNat)
    case atStart => exact ⟨0, by omega, rfl, Below.refl _ _⟩
    case round =>
      obtain ⟨j, hj, rfl, HBJ⟩ := hrel
      by_cases hlt : j + 1 < k1
      · have hlt' : ((j : Int) + 1) < (k1 : Int) := by omega
        have hsub : ((j : Int) + 1) - 1 = (j : Int) := by omega
        have hjc : j + 1 ≤ c1 := by omega
        obtain ⟨hx, hxe⟩ := preN_nod a (j + 1) ha1 (by omega) (by rw [HL1.out]; exact hlt)
        obtain ⟨x, hxn⟩ : ∃ x, preN a (j + 1) = x := ⟨_, rfl⟩
        rw [hxn] at hx hxe
        have hlen : ((pathI a).take (j + 1)).length = j + 1 := by rw [List.length_take, HL1.out]; omega
        obtain ⟨bL, oL, hA4, hbL, hcL⟩ := HR4.out.plain (by rw [List.length_map, HNS.out, List.length_map, preL_length, HL1.out]; omega)
        subst hA4
        have hc0 := hcL j (.int .i64 (x : Int)) (by rw [HNS.out, List.getElem?_map, List.getElem?_map, preL_get a j (by rw [HL1.out]; exact hlt), hxn]; rfl)
        have HC0 := Lib.hid hc0
        have HR1J := Lib.hid ((HR1.out.below HBJ.out).mono HBJ.out.size)
        have HNU := Lib.hid (HNC'.out.call (some ⟨b1, o1, none⟩) (j + 1) c1 ((pathI a).take (j + 1)) x x 0 wr hlen hjc HM1.out (by rw [List.map_take]; exact HR1J.out.take _) (.inl ⟨x, hx, hxe, rfl⟩) (if_neg (by omega)) (if_neg (by omega)) (HB.out.trans (HBJ.out.mono HB.out.size)))
        have HNO := Lib.hid fun w' (hb : Below w.heap.size w w') => HOC'.out.call (x : Int) ((pathI a).take (j + 1)) 0 w' ((errN_ok hx).1.trans hxe) (errN_ok hx).2 hb (by omega)
        have HLEN := Lib.hid hlen
        clear hcL hc0 hxn hxe hlen
        go_wp2_with fail
        with_reducible refine HNU.out.mono ?_
        rintro e w6 ⟨rfl, hb6⟩
        have HB6 := Lib.hid (HBJ.out.trans (hb6.mono HBJ.out.size))
        clear hb6 HNU
        go_wp2_with fail
        with_reducible refine (HNO.out _ (HB.out.trans (HB6.out.mono HB.out.size))).mono ?_
        rintro e w7 ⟨A7, k7, c7, rfl, hl7, hk7, hm7, hr7, hb7⟩
        have HB7 := Lib.hid (HB6.out.trans (hb7.mono HB6.out.size))
        unfold maxLen at hm7
        have HSJ := Lib.hid (refSame8_any w7.heap.size w7.heap.size A7 (some ⟨b1, o1, none⟩) k7 c7 (j + 1) c1 ((pathI a).take (j + 1)) ((pathI a).take (j + 1)) true w7 hl7 HLEN.out (by omega) (by omega) hr7 (by rw [List.map_take]; exact (((HR1.out.below HB7.out).mono HB7.out.size).take _)) (Nat.le_refl _) (Nat.le_refl _) (by simp))
        clear hl7 hr7 hb7 HNO HB6
        go_wp2_with fail
        with_reducible refine HSJ.out.mono ?_
        rintro e w8 ⟨rfl, hb8⟩
        have HB8 := Lib.hid (HB7.out.trans (hb8.mono HB7.out.size))
        have hc8 := (HB8.out.cell (p := ⟨bL, oL + j, none⟩) hbL).trans HC0.out
        clear hb8 HSJ HB7
        go_wp2
        go_roundw
        case rel => exact ⟨j + 1, by omega, by go_num, HB8.out⟩
        case measure => simp [intOf]; omega
      · obtain rfl : k1 = j + 1 := by omega
        go_wp2_with fail
        with_reducible refine (HAW.out.call _ (HB.out.trans (HBJ.out.mono HB.out.size))).mono ?_
        rintro e w6 ⟨rfl, hb6⟩
        have HB6 := Lib.hid (HBJ.out.trans (hb6.mono HBJ.out.size))
        clear hb6
        go_wp2
        go_ret
        exact ⟨rfl, HB.out.trans (HB6.out.mono HB.out.size)⟩
end Go.Proofs.YtipeeidkfhddcaaDoor
