/-
  What the statement HaymowNodes answers.
-/
import Derived.Test.YtnipfonglheofaaDoorTopLay
import Derived.Deep.DeepCutAuto
import Derived.Deep.CutRange
namespace Go.Proofs.YtnipfonglheofaaDoor
open Go.RowKit Go.Maps
set_option maxRecDepth 100000
set_option linter.unusedVariables false

def u16v (n : Int) : Value := .int .u16 n
def u32v (n : Int) : Value := .int .u32 n
def resN (xs : List Int) : List Nat := xs.map fun x => (x % 3621).toNat
def sumL (ss : List Int) : List Nat := ss.map Int.toNat

set_option maxHeartbeats 16000000 in
theorem top_walk (w : World) (A : Option Addr) (n c : Nat) (xs : List Int) (A' : Option Addr) (n' c' : Nat) (ss : List Int) (o : Int) (hl : xs.length = n) (hc : n ≤ c) (hcm : c ≤ maxLen) (hr : Rd w w.heap.size A (xs.map u16v)) (hb : ∀ x ∈ xs, 0 ≤ x ∧ x ≤ 65535)
    (hl' : ss.length = n') (hc' : n' ≤ c') (hcm' : c' ≤ maxLen) (hr' : Rd w w.heap.size A' (ss.map u32v)) (hb' : ∀ x ∈ ss, 0 ≤ x ∧ x ≤ 4294967295) (ho : 0 ≤ o ∧ o ≤ 65535) (ht : Tab w) (hrt : RTab w) :
    Calls Tryd.prog 3 #[.slice A n c, .slice A' n' c', .int .u16 o] w fun e w' => e = .returned (.bool true) ∧ Below w.heap.size w w' := by
  obtain ⟨i0, hi, hz0, hz1, hz2⟩ := info_parts info_int8
  have hi := Lib.hid hi
  have hz0 := Lib.hid hz0
  have hz1 := Lib.hid hz1
  have hz2 := Lib.hid hz2
  obtain ⟨j0, hj, hy0, hy1, hy2⟩ := info_parts info_ptr
  have hj := Lib.hid hj
  have hy0 := Lib.hid hy0
  have hy1 := Lib.hid hy1
  have hy2 := Lib.hid hy2
  have HL := Lib.hid hl
  have HR := Lib.hid hr
  have HX := Lib.hid hb
  have HL' := Lib.hid hl'
  have HR' := Lib.hid hr'
  have HX' := Lib.hid hb'
  have HT := Lib.hid ht
  have HRT := Lib.hid hrt
  unfold maxLen at hcm hcm'
  have HB0 := Lib.hid ((Below.refl w.heap.size w).alloc (Nat.le_refl _) (.map #[] 0))
  have HM0 := Lib.hid (PMap.made w)
  obtain ⟨N, hN⟩ : ∃ N, min (min n 20) n' = N := ⟨_, rfl⟩
  have hN20 : N ≤ 20 := by omega
  have hNn : N ≤ n := by omega
  have hNn' : N ≤ n' := by omega
  have HN := Lib.hid hN
  obtain ⟨hb, hhb⟩ : ∃ hb, w.heap.size = hb := ⟨_, rfl⟩
  obtain ⟨w0, hw0⟩ : ∃ w0, w.alloc (.map #[] 0) = w0 := ⟨_, rfl⟩
  rw [hw0, hhb] at HM0
  rw [hw0] at HB0
  have HHB := Lib.hid hhb
  have hmk : (Instr.makeMap 25 none).run Tryd.prog w = .ok (.map (some hb)) w0 := by rw [run_makeMap, hw0, hhb]
  clear hl hr hl' hr' ht hrt hN hw0 hhb
  go_enter Tryd.func3, Tryd.ntmps3
  go_wp2
  go_loopw [8, 9] (fun r v wr => ∃ i : Nat, i ≤ N ∧ v = .int .i64 (i : Int) ∧ Hid (wr.ownsRow w.heap.size 3 1 r i ((intL ((resN xs).take i)).map iv)) ∧ Hid (PMap wr hb i (hvN (resN xs) (sumL ss) i)) ∧ Hid (Below w.heap.size w wr)) (fun _ v _ => N - (intOf v).toNat)
  case atStart => exact ⟨0, Nat.zero_le _, rfl, ⟨rfl, .inl ⟨rfl, rfl⟩⟩, HM0.out, HB0.out⟩
  case round =>
    obtain ⟨i, hi1, rfl, HOWN, HM, HB⟩ := hrel
    clear HM0 HB0 hmk
    obtain ⟨Ar, cr, hre, hcr, hcrm⟩ := own_len HOWN.out
    subst hre
    go_upto_region 4 with fail
    go_cut [52] from 39 to 73 (fun s wc => wr = wc ∧ s = .bool (decide (i < N)))
    case first =>
      have h := HN.out
      by_cases h1 : i < n
      · by_cases h2 : i < 20
        · by_cases h3 : i < n'
          · have e : decide (i < N) = true := decide_eq_true (by omega)
            go_wp2_with fail
            go_meet
            exact ⟨rfl, by rw [e]⟩
          · have e : decide (i < N) = false := decide_eq_false (by omega)
            go_wp2_with fail
            go_meet
            exact ⟨rfl, by rw [e]⟩
        · have e : decide (i < N) = false := decide_eq_false (by omega)
          go_wp2_with fail
          go_meet
          exact ⟨rfl, by rw [e]⟩
      · have e : decide (i < N) = false := decide_eq_false (by omega)
        go_wp2_with fail
        go_meet
        exact ⟨rfl, by rw [e]⟩
    case rest =>
      obtain ⟨rfl, rfl⟩ := hcut
      by_cases hlt : i < N
      · have hdc : decide (i < N) = true := decide_eq_true hlt
        rw [hdc]
        obtain ⟨x, hx⟩ : ∃ x, xs[i]? = some x := ⟨_, List.getElem?_eq_getElem (by have := HL.out; omega)⟩
        obtain ⟨y, hy⟩ : ∃ y, ss[i]? = some y := ⟨_, List.getElem?_eq_getElem (by have := HL'.out; omega)⟩
        have hxb := HX.out x (List.mem_of_getElem? hx)
        have hyb := HX'.out y (List.mem_of_getElem? hy)
        obtain ⟨Y, rfl⟩ : ∃ Y : Nat, y = (Y : Int) := ⟨y.toNat, by omega⟩
        obtain ⟨bA, oA, rfl, -, hcA⟩ := (HR.out.below HB.out).plain (by rw [List.length_map]; have := HL.out; omega)
        obtain ⟨bS, oS, rfl, -, hcS⟩ := (HR'.out.below HB.out).plain (by rw [List.length_map]; have := HL'.out; omega)
        have c0 := hcA i (.int .u16 x) (by rw [List.getElem?_map, hx]; rfl)
        have c1 := hcS i (.int .u32 (Y : Int)) (by rw [List.getElem?_map, hy]; rfl)
        obtain ⟨m, hm, hm1⟩ : ∃ m : Nat, x.tmod 3621 = m ∧ m < 3621 := ⟨(x % 3621).toNat, by rw [Int.tmod_eq_emod_of_nonneg hxb.1]; omega, by omega⟩
        have wm : IntKind.u16.wrap (m : Int) = m := IntWalk.u16_in _ (by omega)
        have hRX : Hid ((resN xs)[i]? = some m) := by
          show _ = _
          rw [resN, List.getElem?_map, hx, Option.map_some, Int.tmod_eq_emod_of_nonneg hxb.1] at *
          congr 1
          omega
        have hSY : Hid ((sumL ss)[i]? = some Y) := by
          show _ = _
          rw [sumL, List.getElem?_map, hy]
          rfl
        have HTK : Hid (intL ((resN xs).take (i + 1)) = intL ((resN xs).take i) ++ [(m : Int)]) := by
          show _ = _
          rw [List.take_add_one, hRX.out]
          simp [intL]
        have HHV : Hid ((fun z => if z = m then some (⟨1 + (i : Int), Y⟩ : Pr) else hvN (resN xs) (sumL ss) i z) = hvN (resN xs) (sumL ss) (i + 1)) := by
          show _ = _
          funext z
          rw [hvN_succ, List.getD, List.getD, hRX.out, hSY.out]; rfl
        obtain ⟨w2, hrun, hm2, hg2⟩ := HM.out.put (by unfold maxLen; omega) m (by omega) ⟨1 + (i : Int), Y⟩
        rw [HHV.out] at hm2
        have HB2 := Lib.hid (HB.out.grown hg2 HB.out.size (fun k hk => by cases hk; rw [HHB.out]; exact Nat.le_refl _))
        have HOWN2 := HOWN.out.kept hg2 (.inr (own_ne_map HOWN.out HM.out))
        have HOWN3 := Lib.hid (HOWN2.alloc (.cells #[.int .i64 (m : Int)] 3))
        have HB3 := Lib.hid (HB2.out.alloc HB2.out.size (.cells #[.int .i64 (m : Int)] 3))
        have HM3 := Lib.hid (hm2.up ((Below.refl _ _).alloc (Nat.le_refl _) (.cells #[.int .i64 (m : Int)] 3)))
        have HN3 := Lib.hid (Rd.new w2 3 #[.int .i64 (m : Int)] (0, 0))
        have HNE := Lib.hid (own_ne_map HOWN2 hm2)
        clear hcA hcS hx hy hdc hm2 hg2 HOWN2 HOWN HM
        go_wp2_with (at_builtin; refine wpList_append_rd _ rfl _ _ 26 rfl w.heap.size 3 i0 (.int .i64 0) 1 8 Tryd.underlying26 hi.out hz0.out hz1.out hz2.out rfl (by decide) _ _ _ rfl HOWN3.out (w2.heap.size + 1) (some ⟨w2.heap.size, 0, none⟩) 1 1 ([(m : Int)].map iv) rfl rfl HN3.out ?c2 ?c3 ?c4 ?c5 ?_)
        case c2 => first | exact ints_one _ | rfl
        case c3 => unfold maxLen; omega
        case c4 => omega
        case c5 => have := HB3.out.size; simpa using this
        intro r' w6 hown6 hgrow
        have HB6 := Lib.hid (HB3.out.grown hgrow HB3.out.size (fun g hg => (HOWN3.out.lt g hg).1))
        have HM6 := Lib.hid (HM3.out.kept hgrow (fun e => HNE.out e.symm))
        have HOWN6 : Hid (w6.ownsRow w.heap.size 3 1 r' (i + 1) ((intL ((resN xs).take (i + 1))).map iv)) := by
          rw [HTK.out, List.map_append]
          exact hown6
        clear hown6 hgrow HOWN3 HB3 HB2 HN3 HM3 HB hrun c0 c1
        go_wp2
        go_roundw
        case rel => exact ⟨i + 1, by omega, by go_num, HOWN6.out, HM6.out, HB6.out⟩
        case measure => simp [intOf]; omega
      · obtain rfl : i = N := by omega
        have hdc : decide (i < i) = false := decide_eq_false (by omega)
        rw [hdc]
        obtain ⟨L, hLe⟩ : ∃ L, (resN xs).take i = L := ⟨_, rfl⟩
        rw [hLe] at HOWN
        have hLl : L.length = i := by rw [← hLe, List.length_take, resN, List.length_map]; have := HL.out; omega
        have hLb : ∀ b ∈ L, b < 3621 := fun b hb => by
          rw [← hLe] at hb
          obtain ⟨x, hx, rfl⟩ := List.mem_map.1 (List.mem_of_mem_take hb)
          have := HX.out x hx
          omega
        obtain ⟨hv, hhv⟩ : ∃ hv, hvN (resN xs) (sumL ss) i = hv := ⟨_, rfl⟩
        rw [hhv] at HM
        have hvo : ∀ n q, hv n = some q → okPr q := by
          rw [← hhv]
          refine hvN_ok _ _ (fun j => ?_) i hN20
          rw [List.getD]
          cases hj : (sumL ss)[j]? with
          | none => decide
          | some z =>
            obtain ⟨y, hy, rfl⟩ := List.mem_map.1 (List.mem_of_getElem? hj)
            have := HX'.out y hy
            show y.toNat < _
            omega
        have hvz : ∀ b, b ∉ L → hv b = none := by
          rw [← hhv, ← hLe]
          refine fun b hb => hvN_none _ _ i ?_ b hb
          rw [resN, List.length_map]; have := HL.out; omega
        have hokL : okL (intL L) := fun z hz => by
          obtain ⟨b, hb, rfl⟩ := List.mem_map.1 hz
          have := hLb b hb
          omega
        have hLt : (intL L).map Int.toNat = L := by simp [intL, Function.comp_def]
        have HNS := Lib.hid (nodes_any Ar i cr (intL L) wr (by rw [intL_length]; exact hLl) hcr hcrm (by omega) (Rd.own HOWN.out) (fun y hy => by have := hokL y hy; omega) (HRT.out.up HB.out))
        obtain ⟨F, hF⟩ : ∃ F, onL L = F := ⟨_, rfl⟩
        rw [hLt, hF] at HNS
        have HLE := Lib.hid hLl
        have HLB := Lib.hid hLb
        have HVO := Lib.hid hvo
        have HVZ := Lib.hid hvz
        have HOKL := Lib.hid hokL
        have HF := Lib.hid hF
        clear hLe hLl hLb hhv hvo hvz hokL hLt hF hdc HN hNn hNn' HL HL' HR HR' HX HX'
        go_wp2_with fail
        refine HNS.out.mono ?_
        rintro e w1 ⟨An, kn, cn, ns, q, rfl, hcs, hln, hkn, hcn, hrn, hb1⟩
        obtain ⟨hns, rfl⟩ : ns = (nsN F).map (fun (m : Nat) => (m : Int)) ∧ q = 0 := by
          rcases hcs with ⟨_, h1, h2⟩ | ⟨h, _⟩
          · exact ⟨h1, h2⟩
          · exact absurd HOKL.out h
        have hkl : kn = (nsN F).length := by rw [← hln, hns, List.length_map]
        have hk258 : kn ≤ 258 := by rw [hkl]; exact nsN_len F
        have HTOP : Hid (Top w ((w1.alloc (.map #[] 0)).alloc (.map #[] 0)) hb (w1.heap.size + 1) w1.heap.size i 0 hv F kn (.slice Ar i cr) i L An ns) := by
          have hsz := hb1.size
          have hbm := HM.out.lt
          have a1 := (Below.refl w1.heap.size w1).alloc (Nat.le_refl _) (.map #[] 0)
          have a2 := a1.alloc (a1.size) (.map #[] 0)
          have hst : atN hv F kn = fun _ => none := by rw [hkl]; exact at_start hv F
          refine ⟨(HM.out.up hb1).up a2, ?_, ?_, owns_up HOWN.out (hb1.trans (a2.mono hsz)), hrn.up a2, HB.out.trans ((hb1.trans (a2.mono hsz)).mono HB.out.size), ?_, ?_⟩
          · rw [hst]
            have h := PMap.made (w1.alloc (.map #[] 0))
            rwa [World.alloc_size'] at h
          · refine ⟨fun _ => none, ?_, fun y q hq => ?_⟩
            · have h := MapV.made (P := Tryd.prog) (k := 3) (c := kLit) w1
              exact MapV.below h ((Below.refl (w1.heap.size + 1) _).alloc (by simp) _) (by omega)
            · rw [hst] at hq; cases hq
          · have := HB.out.size; omega
          · omega
        obtain ⟨w2, hw2⟩ : ∃ w2, w1.alloc (.map #[] 0) = w2 := ⟨_, rfl⟩
        obtain ⟨w3, hw3⟩ : ∃ w3, w2.alloc (.map #[] 0) = w3 := ⟨_, rfl⟩
        rw [hw2, hw3] at HTOP
        obtain ⟨lb, hlb⟩ : ∃ lb, w1.heap.size = lb := ⟨_, rfl⟩
        obtain ⟨ab, hab⟩ : ∃ ab, lb + 1 = ab := ⟨_, rfl⟩
        rw [hlb, hab] at HTOP
        have hmk1 : (Instr.makeMap 33 none).run Tryd.prog w1 = .ok (.map (some lb)) w2 := by rw [run_makeMap, hw2, hlb]
        have hmk2 : (Instr.makeMap 25 none).run Tryd.prog w2 = .ok (.map (some ab)) w3 := by rw [run_makeMap, hw3, ← hw2, World.alloc_size', hlb, hab]
        have HNSE := Lib.hid hns
        have HKN := Lib.hid hkl
        clear hw2 hw3 hlb hab hns hkl hcs hln hrn hb1 HNS HOWN HM HB
        go_wp2
        go_loopw [15] (fun v wx => ∃ m : Nat, m ≤ kn ∧ v = .int .i64 ((m : Int) - 1) ∧ Hid (Top w wx hb ab lb i (kn - m) hv F m (.slice Ar i cr) i L An ns)) (fun v _ => (intOf v + 1).toNat)
        case atStart => exact ⟨kn, Nat.le_refl _, by go_num, by rw [Nat.sub_self]; exact HTOP.out⟩
        case round =>
          obtain ⟨m, hm, rfl, HTM⟩ := hrel
          rename World => wx
          clear HTOP hmk1 hmk2
          by_cases hpos : 0 < m
          · obtain ⟨m, rfl⟩ : ∃ j, m = j + 1 := ⟨m - 1, by omega⟩
            have hmm : ((m + 1 : Nat) : Int) - 1 = (m : Int) := by omega
            rw [hmm]
            have hmk : m < (nsN F).length := by rw [← HKN.out]; omega
            obtain ⟨hx1, hx2, hx3⟩ := tN_lt F hmk
            obtain ⟨x, hx⟩ : ∃ x, tN F m = x := ⟨_, rfl⟩
            rw [hx] at hx1 hx2 hx3
            obtain ⟨bn, on, rfl, -, hcn0⟩ := HTM.out.nodes.plain (by rw [List.length_map, HNSE.out, List.length_map]; omega)
            have c0 := hcn0 m (.int .i64 (x : Int)) (by rw [HNSE.out, List.getElem?_map, List.getElem?_map, hx3]; rfl)
            have HNA := node_any (x : Int) wx (HRT.out.up HTM.out.below) (by omega)
            rw [show errN (x : Int) = 0 from if_pos (by omega), show refN (x : Int) = nodI x from by rw [refN, if_pos (by omega)]; rfl] at HNA
            have HNA := Lib.hid HNA
            have HX2 := Lib.hid hx2
            have HX := Lib.hid hx
            have HMK := Lib.hid hmk
            clear hcn0 hx2 hx3 hx hmk hmm
            go_wp2_with fail
            refine HNA.out.mono ?_
            rintro e w4 ⟨Aq, kq, cq, rfl, hlq, hkq, hcq, hrq, hb4⟩
            have HT4 := Lib.hid (HTM.out.up hb4)
            have HLQ := Lib.hid hlq
            have HRQ := Lib.hid hrq
            have hkq4 : kq ≤ 3 := by rw [← hlq]; exact (nod_length x).2
            have HKD := Lib.hid (kd_ok hv F HVO.out x)
            obtain ⟨KD, hKD⟩ : ∃ KD, kdN hv F x = KD := ⟨_, rfl⟩
            rw [hKD] at HKD
            have HKE := Lib.hid hKD
            unfold maxLen at hcq
            clear hlq hrq hb4 HNA HTM c0 hKD
            go_wp2
            go_loopw [18, 19] (fun r v wy => ∃ k : Nat, k ≤ 15 ∧ v = .int .i64 (k : Int) ∧ Hid (wy.ownsRow w4.heap.size 29 2 r k (prsV (KD.take k))) ∧ Hid (Below w4.heap.size w4 wy)) (fun _ v _ => 15 - (intOf v).toNat)
            case atStart => exact ⟨0, Nat.zero_le _, rfl, ⟨rfl, .inl ⟨rfl, rfl⟩⟩, Below.refl _ _⟩
            case round =>
              obtain ⟨k, hk, rfl, HOWK, HBK⟩ := hrel
              rename World => wy
              obtain ⟨Ak, ck, hre, hck, hckm⟩ := own_len HOWK.out
              subst hre
              by_cases hlt : k < 15
              · have HP0 : Hid ((wy.alloc (.cells #[] 3)).ownsRow wy.heap.size 3 1 (.slice (some ⟨wy.heap.size, 0, none⟩) 0 0) 0 []) := own_of_bk (xs := []) (Bk.new wy 3 #[]) (Nat.le_refl _) rfl (Nat.zero_le _)
                have HBP := Lib.hid ((Below.refl wy.heap.size wy).alloc (Nat.le_refl _) (.cells #[] 3))
                have HRQY := Lib.hid ((HRQ.out.below HBK.out).mono HBK.out.size)
                go_wp2_with (at_builtin; refine wpList_append_rd _ rfl _ _ 26 rfl wy.heap.size 3 i0 (.int .i64 0) 1 8 Tryd.underlying26 hi.out hz0.out hz1.out hz2.out rfl (by decide) _ _ _ rfl HP0.out wy.heap.size Aq kq cq ((nodI x).map iv) rfl ?c1 (HRQY.out.below HBP.out) ?c2 ?c3 ?c4 ?c5 ?_)
                case c1 => rw [List.length_map, HLQ.out, Nat.mul_one]
                case c2 => exact ints_one _
                case c3 => unfold maxLen; omega
                case c4 => omega
                case c5 => exact HBP.out.size
                intro r1 w5 hown5 hgrow5
                have HB5 := Lib.hid (HBP.out.grown hgrow5 HBP.out.size (fun g hg => (HP0.out.lt g hg).1))
                have HP5 := Lib.hid ((show w5.ownsRow wy.heap.size 3 1 r1 kq ((nodI x).map iv) by simpa using hown5).alloc (.cells #[.int .i64 (k : Int)] 3))
                have HB5a := Lib.hid (HB5.out.alloc HB5.out.size (.cells #[.int .i64 (k : Int)] 3))
                have HN5 := Lib.hid (Rd.new w5 3 #[.int .i64 (k : Int)] (0, 0))
                obtain ⟨A5, c5, hre5, hc5, hcm5⟩ := own_len HP5.out
                subst hre5
                clear hown5 hgrow5 HP0 HBP HRQY
                go_wp2_with (at_builtin; refine wpList_append_rd _ rfl _ _ 26 rfl wy.heap.size 3 i0 (.int .i64 0) 1 8 Tryd.underlying26 hi.out hz0.out hz1.out hz2.out rfl (by decide) _ _ _ rfl HP5.out (w5.heap.size + 1) (some ⟨w5.heap.size, 0, none⟩) 1 1 ([(k : Int)].map iv) rfl rfl HN5.out ?c2 ?c3 ?c4 ?c5 ?_)
                case c2 => first | exact ints_one _ | rfl
                case c3 => unfold maxLen; omega
                case c4 => omega
                case c5 => simpa using HB5a.out.size
                intro r2 w6 hown6 hgrow6
                have HB6 := Lib.hid (HB5a.out.grown hgrow6 HB5a.out.size (fun g hg => (HP5.out.lt g hg).1))
                have HP6 : Hid (w6.ownsRow wy.heap.size 3 1 r2 (kq + 1) ((nodI x ++ [(k : Int)]).map iv)) := by rw [List.map_append]; exact hown6
                obtain ⟨A6, c6, hre6, hc6, hcm6⟩ := own_len HP6.out
                subst hre6
                clear hown6 hgrow6 HP5 HB5 HB5a HN5 hc5 hcm5
                go_wp2_with fail
                have HB7 := Lib.hid (HB6.out.alloc HB6.out.size (.cells #[.int .i64 0, .int .u32 0] 29))
                have HK7 : Hid (Bk (w6.alloc (.cells #[.int .i64 0, .int .u32 0] 29)) w6.heap.size 29 (prA zP)) := Bk.new w6 29 _
                have HP7 := Lib.hid (Rd.own (owns_up HP6.out ((Below.refl w6.heap.size w6).alloc (Nat.le_refl _) (.cells #[.int .i64 0, .int .u32 0] 29))))
                obtain ⟨w7, hw7⟩ : ∃ w7, w6.alloc (.cells #[.int .i64 0, .int .u32 0] 29) = w7 := ⟨_, rfl⟩
                rw [hw7] at HB7 HK7 HP7 ⊢
                have HT7 := Lib.hid (HT4.out.up (HBK.out.trans (HB7.out.mono HBK.out.size)))
                have hlen7 : (nodI x ++ [(k : Int)]).length = kq + 1 := by rw [List.length_append, HLQ.out]; rfl
                have hpB : wy.heap.size ≤ w6.heap.size := HB6.out.size
                clear hw7
                obtain ⟨p0, hp0⟩ : ∃ p0, nodI x ++ [(k : Int)] = p0 := ⟨_, rfl⟩
                rw [hp0] at hlen7 HP7
                have HLEN7 := Lib.hid hlen7
                have HP0 := Lib.hid hp0
                clear hlen7 hp0
                cases hbo : blkO p0 with
                | some nn =>
                  have hnn := (blkO_some hbo).1
                  have HBL := Lib.hid (blk_some A6 (kq + 1) c6 p0 nn w7 HLEN7.out hc6 hcm6 HP7.out (HRT.out.up HT7.out.below) hbo)
                  have hrun0 := hbo
                  refine HBL.out.mono ?_
                  rintro e w8 ⟨rfl, hb8⟩
                  have HT8 := Lib.hid (HT7.out.up hb8)
                  have HB8 := Lib.hid (HB7.out.trans (hb8.mono HB7.out.size))
                  have HK8 := Lib.hid (HK7.out.below hb8 HK7.out.lt)
                  clear hb8 HT7 HB7 HK7
                  obtain ⟨q, hq⟩ : ∃ q, (hv nn).getD zP = q := ⟨_, rfl⟩
                  have hlook := PMap.look (HT8.out.have_) nn (by omega) q hq
                  have HQ : Hid (childP zP hv (atN hv F (m + 1)) p0 = q) := by show _ = _; rw [childP_blk hbo]; exact hq
                  clear hq hrun0 HBL
                  obtain ⟨w9, hw9⟩ : ∃ w9, w8.setRow w6.heap.size (prA q) = w9 := ⟨_, rfl⟩
                  have HB9 : Hid (Below wy.heap.size wy w9) := by rw [← hw9]; exact HB8.out.setRow' hpB _
                  have HK9 : Hid (Bk w9 w6.heap.size 29 (prA q)) := by rw [← hw9]; exact HK8.out.setRow _
                  clear HB8 HT8
                  have HKE1 : Hid (KD.take (k + 1) = KD.take k ++ [q]) := by
                    show _ = _
                    have hg : KD[k]? = some (childP zP hv (atN hv F (m + 1)) p0) := by
                      rw [← HP0.out, ← HKE.out, ← HX.out, ← at_kids hv F HMK.out, kidsP, List.getElem?_map, List.getElem?_range hlt]; rfl
                    rw [List.take_add_one, hg, HQ.out]; rfl
                  obtain ⟨k90, k91⟩ := pr_cells HK9.out
                  have HOWN9 := Lib.hid ((owns_up HOWK.out HB9.out).alloc (.cells #[.int .i64 q.at_, .int .u32 (q.sum : Int)] 29))
                  have HB9a := Lib.hid (HB9.out.alloc HB9.out.size (.cells #[.int .i64 q.at_, .int .u32 (q.sum : Int)] 29))
                  have HN9 := Lib.hid (Rd.new w9 29 #[.int .i64 q.at_, .int .u32 (q.sum : Int)] (0, 0))
                  go_wp2_with (first | (refine wpList_store_pr rfl _ _ rfl w6.heap.size zP q rfl rfl HK8.out ?_) | (at_builtin; refine wpList_append_rd _ rfl _ _ 35 rfl w4.heap.size 29 j0 (.agg #[.int .i64 0, .int .u32 0]) 2 16 Tryd.underlying35 hj.out hy0.out hy1.out hy2.out rfl (by decide) _ _ _ rfl HOWN9.out (w9.heap.size + 1) (some ⟨w9.heap.size, 0, none⟩) 1 1 (prsV [q]) rfl rfl HN9.out ?c2 ?c3 ?c4 ?c5 ?_))
                  case c2 => exact prsV_one [q]
                  case c3 => unfold maxLen; omega
                  case c4 => omega
                  case c5 => have h1 := HB9.out.size; have h2 := HBK.out.size; simp; omega
                  intro r9 w10 hown10 hgrow10
                  have HB10 := Lib.hid ((HBK.out.trans (HB9a.out.mono HBK.out.size)).grown hgrow10 (by have h1 := HB9a.out.size; have h2 := HBK.out.size; omega) (fun g hg => (HOWN9.out.lt g hg).1))
                  have HOWN10 : Hid (w10.ownsRow w4.heap.size 29 2 r9 (k + 1) (prsV (KD.take (k + 1)))) := by
                    rw [HKE1.out, prsV_append]; exact hown10
                  clear hown10 hgrow10 HOWN9 HB9a HN9 HK9 HB9 k90 k91
                  go_wp2
                  go_roundw
                  case rel => exact ⟨k + 1, by omega, by go_num, HOWN10.out, HB10.out⟩
                  case measure => simp [intOf]; omega
                | none =>
                  have HBL := Lib.hid (blk_none A6 (kq + 1) c6 p0 w7 HLEN7.out hc6 hcm6 HP7.out (HRT.out.up HT7.out.below) hbo)
                  refine HBL.out.mono ?_
                  rintro e w8 ⟨rfl, hb8⟩
                  have HT7 := Lib.hid (HT7.out.up hb8)
                  have HP7 := Lib.hid (HP7.out.up hb8)
                  have HB7 := Lib.hid (HB7.out.trans (hb8.mono HB7.out.size))
                  have HK7 := Lib.hid (HK7.out.below hb8 HK7.out.lt)
                  clear hb8 HBL
                  cases hno : numO p0 with
                  | some yy =>
                    have hyy := (numO_some hno).1
                    have HBL := Lib.hid (num_some A6 (kq + 1) c6 p0 yy w8 HLEN7.out hc6 hcm6 HP7.out (HRT.out.up HT7.out.below) hno)
                    have hrun0 := hno
                    go_wp2_with fail
                    refine HBL.out.mono ?_
                    rintro e w8' ⟨rfl, hb8⟩
                    have HT8 := Lib.hid (HT7.out.up hb8)
                    have HB8 := Lib.hid (HB7.out.trans (hb8.mono HB7.out.size))
                    have HK8 := Lib.hid (HK7.out.below hb8 HK7.out.lt)
                    clear hb8 HT7 HB7 HK7
                    obtain ⟨q, hq⟩ : ∃ q, (atN hv F (m + 1) yy).getD zP = q := ⟨_, rfl⟩
                    have hlook := PMap.look (HT8.out.at_) yy (by omega) q hq
                    have HQ : Hid (childP zP hv (atN hv F (m + 1)) p0 = q) := by show _ = _; rw [childP_num hbo hno]; exact hq
                    clear hq hrun0 HBL
                    obtain ⟨w9, hw9⟩ : ∃ w9, w8'.setRow w6.heap.size (prA q) = w9 := ⟨_, rfl⟩
                    have HB9 : Hid (Below wy.heap.size wy w9) := by rw [← hw9]; exact HB8.out.setRow' hpB _
                    have HK9 : Hid (Bk w9 w6.heap.size 29 (prA q)) := by rw [← hw9]; exact HK8.out.setRow _
                    clear HB8 HT8
                    have HKE1 : Hid (KD.take (k + 1) = KD.take k ++ [q]) := by
                      show _ = _
                      have hg : KD[k]? = some (childP zP hv (atN hv F (m + 1)) p0) := by
                        rw [← HP0.out, ← HKE.out, ← HX.out, ← at_kids hv F HMK.out, kidsP, List.getElem?_map, List.getElem?_range hlt]; rfl
                      rw [List.take_add_one, hg, HQ.out]; rfl
                    obtain ⟨k90, k91⟩ := pr_cells HK9.out
                    have HOWN9 := Lib.hid ((owns_up HOWK.out HB9.out).alloc (.cells #[.int .i64 q.at_, .int .u32 (q.sum : Int)] 29))
                    have HB9a := Lib.hid (HB9.out.alloc HB9.out.size (.cells #[.int .i64 q.at_, .int .u32 (q.sum : Int)] 29))
                    have HN9 := Lib.hid (Rd.new w9 29 #[.int .i64 q.at_, .int .u32 (q.sum : Int)] (0, 0))
                    go_wp2_with (first | (refine wpList_store_pr rfl _ _ rfl w6.heap.size zP q rfl rfl HK8.out ?_) | (at_builtin; refine wpList_append_rd _ rfl _ _ 35 rfl w4.heap.size 29 j0 (.agg #[.int .i64 0, .int .u32 0]) 2 16 Tryd.underlying35 hj.out hy0.out hy1.out hy2.out rfl (by decide) _ _ _ rfl HOWN9.out (w9.heap.size + 1) (some ⟨w9.heap.size, 0, none⟩) 1 1 (prsV [q]) rfl rfl HN9.out ?c2 ?c3 ?c4 ?c5 ?_))
                    case c2 => exact prsV_one [q]
                    case c3 => unfold maxLen; omega
                    case c4 => omega
                    case c5 => have h1 := HB9.out.size; have h2 := HBK.out.size; simp; omega
                    intro r9 w10 hown10 hgrow10
                    have HB10 := Lib.hid ((HBK.out.trans (HB9a.out.mono HBK.out.size)).grown hgrow10 (by have h1 := HB9a.out.size; have h2 := HBK.out.size; omega) (fun g hg => (HOWN9.out.lt g hg).1))
                    have HOWN10 : Hid (w10.ownsRow w4.heap.size 29 2 r9 (k + 1) (prsV (KD.take (k + 1)))) := by
                      rw [HKE1.out, prsV_append]; exact hown10
                    clear hown10 hgrow10 HOWN9 HB9a HN9 HK9 HB9 k90 k91
                    go_wp2
                    go_roundw
                    case rel => exact ⟨k + 1, by omega, by go_num, HOWN10.out, HB10.out⟩
                    case measure => simp [intOf]; omega
                  | none =>
                    have HBL := Lib.hid (num_none A6 (kq + 1) c6 p0 w8 HLEN7.out hc6 hcm6 HP7.out (HRT.out.up HT7.out.below) hno)
                    go_wp2_with fail
                    refine HBL.out.mono ?_
                    rintro e w9 ⟨rfl, hb8⟩
                    have HB9 := Lib.hid (HB7.out.trans (hb8.mono HB7.out.size))
                    have HK9 := Lib.hid (HK7.out.below hb8 HK7.out.lt)
                    obtain ⟨q, hq⟩ : ∃ q, zP = q := ⟨_, rfl⟩
                    rw [hq] at HK9
                    have HQ : Hid (childP zP hv (atN hv F (m + 1)) p0 = q) := by show _ = _; rw [childP_non hbo hno]; exact hq
                    clear hb8 HT7 HB7 HK7 HBL hq
                    have HKE1 : Hid (KD.take (k + 1) = KD.take k ++ [q]) := by
                      show _ = _
                      have hg : KD[k]? = some (childP zP hv (atN hv F (m + 1)) p0) := by
                        rw [← HP0.out, ← HKE.out, ← HX.out, ← at_kids hv F HMK.out, kidsP, List.getElem?_map, List.getElem?_range hlt]; rfl
                      rw [List.take_add_one, hg, HQ.out]; rfl
                    obtain ⟨k90, k91⟩ := pr_cells HK9.out
                    have HOWN9 := Lib.hid ((owns_up HOWK.out HB9.out).alloc (.cells #[.int .i64 q.at_, .int .u32 (q.sum : Int)] 29))
                    have HB9a := Lib.hid (HB9.out.alloc HB9.out.size (.cells #[.int .i64 q.at_, .int .u32 (q.sum : Int)] 29))
                    have HN9 := Lib.hid (Rd.new w9 29 #[.int .i64 q.at_, .int .u32 (q.sum : Int)] (0, 0))
                    go_wp2_with (first | (refine wpList_store_pr rfl _ _ rfl w6.heap.size zP q rfl rfl HK8.out ?_) | (at_builtin; refine wpList_append_rd _ rfl _ _ 35 rfl w4.heap.size 29 j0 (.agg #[.int .i64 0, .int .u32 0]) 2 16 Tryd.underlying35 hj.out hy0.out hy1.out hy2.out rfl (by decide) _ _ _ rfl HOWN9.out (w9.heap.size + 1) (some ⟨w9.heap.size, 0, none⟩) 1 1 (prsV [q]) rfl rfl HN9.out ?c2 ?c3 ?c4 ?c5 ?_))
                    case c2 => exact prsV_one [q]
                    case c3 => unfold maxLen; omega
                    case c4 => omega
                    case c5 => have h1 := HB9.out.size; have h2 := HBK.out.size; simp; omega
                    intro r9 w10 hown10 hgrow10
                    have HB10 := Lib.hid ((HBK.out.trans (HB9a.out.mono HBK.out.size)).grown hgrow10 (by have h1 := HB9a.out.size; have h2 := HBK.out.size; omega) (fun g hg => (HOWN9.out.lt g hg).1))
                    have HOWN10 : Hid (w10.ownsRow w4.heap.size 29 2 r9 (k + 1) (prsV (KD.take (k + 1)))) := by
                      rw [HKE1.out, prsV_append]; exact hown10
                    clear hown10 hgrow10 HOWN9 HB9a HN9 HK9 HB9 k90 k91
                    go_wp2
                    go_roundw
                    case rel => exact ⟨k + 1, by omega, by go_num, HOWN10.out, HB10.out⟩
                    case measure => simp [intOf]; omega
              · obtain rfl : k = 15 := by omega
                have hKD15 : KD.take 15 = KD := List.take_of_length_le (by rw [HKD.out.1]; exact Nat.le_refl _)
                rw [hKD15] at HOWK
                have HTY := Lib.hid (HT4.out.up HBK.out)
                have HND := Lib.hid (node_yes wy.heap.size Ak ck KD wy HKD.out.1 (Rd.own HOWK.out) (Nat.le_refl _) HKD.out.2.1 HKD.out.2.2 (HT.out.up HTY.out.below))
                clear hKD15 HOWK HT4 HBK HRQ
                go_wp2_with fail
                refine HND.out.mono ?_
                rintro e w5 ⟨g, rfl, hg, hbk, hb5⟩
                have HT5 := Lib.hid (HTY.out.up hb5)
                have HG5 := Lib.hid hbk
                obtain ⟨S, hS⟩ : ∃ S, sumN (nodB KD) = S := ⟨_, rfl⟩
                have HS := Lib.hid hS
                have HTO := Lib.hid (inoTo_yes (1000 + (x : Int)) (some ⟨g, 0, none⟩) 128 S (nodB KD) w5 (nodB_len KD HKD.out.1) (by simpa using Rd.bk hbk) (by omega) hS (HT.out.up HT5.out.below))
                obtain ⟨bn', on', hAe, hbn, hcn5⟩ := HT5.out.nodes.plain (by rw [List.length_map, HNSE.out, List.length_map]; have := HMK.out; omega)
                injection hAe with hAe
                injection hAe with hA1 hA2
                subst hA1
                subst hA2
                have c5 := hcn5 m (.int .i64 (x : Int)) (by rw [HNSE.out, List.getElem?_map, List.getElem?_map, (tN_lt F HMK.out).2.2, HX.out]; rfl)
                clear hb5 hbk HTY HND hg hS hcn5
                go_wp2_with fail
                refine HTO.out.mono ?_
                rintro e w6 ⟨rfl, hb6⟩
                have c6 := (hb6.cell (p := ⟨bn, on + m, none⟩) hbn).trans c5
                have HT6 := Lib.hid (HT5.out.up hb6)
                have HG6 := Lib.hid (HG5.out.below hb6 HG5.out.lt)
                have hbn6 : bn < w6.heap.size := by have := hb6.size; omega
                clear hb6 HTO HT5 HG5 hbn c5
                go_upto_region 37 with fail
                obtain ⟨w7, hw7⟩ : ∃ w7, w6.alloc (.cells #[.int .i64 (1000 + (x : Int)), .int .u32 (S : Int)] 29) = w7 := ⟨_, rfl⟩
                have hB7 : Below w6.heap.size w6 w7.drew := by rw [← hw7]; exact ((Below.refl _ _).alloc (Nat.le_refl _) _).drew
                have hK7 : Bk w7.drew w6.heap.size 29 (prA ⟨1000 + (x : Int), S⟩) := by rw [← hw7]; exact Bk.new w6 29 _
                obtain ⟨pB, hpB⟩ : ∃ pB, w6.heap.size = pB := ⟨_, rfl⟩
                have hN7 : w7.drew.cell? ⟨bn, on + m, none⟩ = some (.int .i64 (x : Int)) := (hB7.cell (p := ⟨bn, on + m, none⟩) hbn6).trans c6
                obtain ⟨v0, v1, s0, s1, u1, u2, u3, u4, r1, r2, r3, r4, hT4, hcl4⟩ := (HT6.out.up hB7).lay HMK.out (by unfold maxLen; omega) x g HX.out (by rw [HKE.out]; exact HG6.out.below hB7 HG6.out.lt) ⟨1000 + (x : Int), S⟩ (by rw [HKE.out, mkP, HS.out])
                rw [hw7, hpB]
                rw [hpB] at hK7
                obtain ⟨k70, k71⟩ := pr_cells hK7
                obtain ⟨Wd, hWd⟩ : ∃ Wd : (Nat → Bool) → World, Wd = fun L => if L 17 then u4 else if L 15 then u3 else if L 14 then u2 else if L 12 then u1 else w7.drew := ⟨_, rfl⟩
                have HCL : Hid (∀ L, (Wd L).cell? ⟨bn, on + m, none⟩ = some (.int .i64 (x : Int)) ∧ (Wd L).cell? ⟨pB, 0, none⟩ = some (.int .i64 (1000 + (x : Int))) ∧ (Wd L).cell? ⟨pB, 1, none⟩ = some (.int .u32 (S : Int))) := fun L => by
                  obtain ⟨a1, a2, a3, a4⟩ := hcl4 ⟨bn, on + m, none⟩ (by have := hB7.size; show bn < _; omega) (by rw [hN7]; simp)
                  obtain ⟨b1, b2, b3, b4⟩ := hcl4 ⟨pB, 0, none⟩ hK7.lt (by rw [k70]; simp)
                  obtain ⟨d1, d2, d3, d4⟩ := hcl4 ⟨pB, 1, none⟩ hK7.lt (by rw [k71]; simp)
                  rw [hWd]
                  dsimp only
                  cases L 17
                  · cases L 15
                    · cases L 14
                      · cases L 12
                        · exact ⟨hN7, k70, k71⟩
                        · exact ⟨a1.trans hN7, b1.trans k70, d1.trans k71⟩
                      · exact ⟨a2.trans hN7, b2.trans k70, d2.trans k71⟩
                    · exact ⟨a3.trans hN7, b3.trans k70, d3.trans k71⟩
                  · exact ⟨a4.trans hN7, b4.trans k70, d4.trans k71⟩
                obtain ⟨V, hV⟩ : ∃ V : Nat → Value, V = fun i => ([.map (some lb), .slice (some ⟨bn, on, none⟩) kn cn, .int .i64 (m : Int), .pointer (some ⟨bn, on + m, none⟩), .int .i64 (x : Int), .map (some ab), .slice (some ⟨bn, on, none⟩) kn cn, .int .i64 (m : Int), .pointer (some ⟨bn, on + m, none⟩), .int .i64 (x : Int), .slice (some ⟨g, 0, none⟩) 128 128, .agg #[.int .i64 (1000 + (x : Int)), .int .u32 (S : Int)], .tuple #[v0, .int .i64 (s0 : Int)], .int .i64 (s0 : Int), undef, .tuple #[v1, .int .i64 (s1 : Int)], .int .i64 (s1 : Int), undef] : List Value).getD i undef := ⟨_, rfl⟩
                have HT8 := Lib.hid hT4
                have R1 := Lib.hid r1
                have R2 := Lib.hid r2
                have R3 := Lib.hid r3
                have R4 := Lib.hid r4
                clear hB7 hK7 hN7 hw7 hpB hT4 hcl4 k70 k71 c6 hbn6 HT6 HG6 r1 r2 r3 r4
                refine wp_region_states (by kernel_rfl) 18 278 laysD laysW (JV V Wd) (by kernel_rfl) rfl ⟨fun j hj => by (cases hj), by (rw [hWd]; rfl)⟩ ?_ ?_
                · intro ix hix
                  match ix, hix with
                  | 0, _ =>
                    intro o ho LL vals a w' hs hi hcl hdl hJ K hK
                    cases ho
                    have e0 := hs.out 13 (.map (some lb)) (laysD_far 13 (by omega)) rfl
                    go_simp
                    exact hK _ _ (hJ.step (by rw [hV]; rfl) (by rw [hJ.world, hWd]; simp [setL]))
                  | 1, _ =>
                    intro o ho LL vals a w' hs hi hcl hdl hJ K hK
                    cases ho
                    have e0 := hs.out 11 (.slice (some ⟨bn, on, none⟩) kn cn) (laysD_far 11 (by omega)) rfl
                    go_simp
                    exact hK _ _ (hJ.step (by rw [hV]; rfl) (by rw [hJ.world, hWd]; simp [setL]))
                  | 2, _ =>
                    intro o ho LL vals a w' hs hi hcl hdl hJ K hK
                    cases ho
                    have e0 := hs.out 15 (.int .i64 (m : Int)) (laysD_far 15 (by omega)) rfl
                    go_simp
                    exact hK _ _ (hJ.step (by rw [hV]; rfl) (by rw [hJ.world, hWd]; simp [setL]))
                  | 3, _ =>
                    intro o ho LL vals a w' hs hi hcl hdl hJ K hK
                    cases ho
                    have e0 := hs.dep hJ 1 157 (.slice (some ⟨bn, on, none⟩) kn cn) (hdl 1 (by simp [laysW])) (by omega) rfl (by omega) (by rw [hV]; rfl)
                    have e1 := hs.dep hJ 2 158 (.int .i64 (m : Int)) (hdl 2 (by simp [laysW])) (by omega) rfl (by omega) (by rw [hV]; rfl)
                    have hlk : m < kn := by omega
                    go_simp
                    exact hK _ _ (hJ.step (by rw [hV]; rfl) (by rw [hJ.world, hWd]; simp [setL]))
                  | 4, _ =>
                    intro o ho LL vals a w' hs hi hcl hdl hJ K hK
                    cases ho
                    have e0 := hs.dep hJ 3 159 (.pointer (some ⟨bn, on + m, none⟩)) (hdl 3 (by simp [laysW])) (by omega) rfl (by omega) (by rw [hV]; rfl)
                    obtain ⟨k0, k1, k2⟩ := HCL.out LL
                    rw [← hJ.world] at k0 k1 k2
                    go_simp
                    exact hK _ _ (hJ.step (by rw [hV]; rfl) (by rw [hJ.world, hWd]; simp [setL]))
                  | 5, _ =>
                    intro o ho LL vals a w' hs hi hcl hdl hJ K hK
                    cases ho
                    have e0 := hs.out 14 (.map (some ab)) (laysD_far 14 (by omega)) rfl
                    go_simp
                    exact hK _ _ (hJ.step (by rw [hV]; rfl) (by rw [hJ.world, hWd]; simp [setL]))
                  | 6, _ =>
                    intro o ho LL vals a w' hs hi hcl hdl hJ K hK
                    cases ho
                    have e0 := hs.out 11 (.slice (some ⟨bn, on, none⟩) kn cn) (laysD_far 11 (by omega)) rfl
                    go_simp
                    exact hK _ _ (hJ.step (by rw [hV]; rfl) (by rw [hJ.world, hWd]; simp [setL]))
                  | 7, _ =>
                    intro o ho LL vals a w' hs hi hcl hdl hJ K hK
                    cases ho
                    have e0 := hs.out 15 (.int .i64 (m : Int)) (laysD_far 15 (by omega)) rfl
                    go_simp
                    exact hK _ _ (hJ.step (by rw [hV]; rfl) (by rw [hJ.world, hWd]; simp [setL]))
                  | 8, _ =>
                    intro o ho LL vals a w' hs hi hcl hdl hJ K hK
                    cases ho
                    have e0 := hs.dep hJ 6 162 (.slice (some ⟨bn, on, none⟩) kn cn) (hdl 6 (by simp [laysW])) (by omega) rfl (by omega) (by rw [hV]; rfl)
                    have e1 := hs.dep hJ 7 163 (.int .i64 (m : Int)) (hdl 7 (by simp [laysW])) (by omega) rfl (by omega) (by rw [hV]; rfl)
                    have hlk : m < kn := by omega
                    go_simp
                    exact hK _ _ (hJ.step (by rw [hV]; rfl) (by rw [hJ.world, hWd]; simp [setL]))
                  | 9, _ =>
                    intro o ho LL vals a w' hs hi hcl hdl hJ K hK
                    cases ho
                    have e0 := hs.dep hJ 8 164 (.pointer (some ⟨bn, on + m, none⟩)) (hdl 8 (by simp [laysW])) (by omega) rfl (by omega) (by rw [hV]; rfl)
                    obtain ⟨k0, k1, k2⟩ := HCL.out LL
                    rw [← hJ.world] at k0 k1 k2
                    go_simp
                    exact hK _ _ (hJ.step (by rw [hV]; rfl) (by rw [hJ.world, hWd]; simp [setL]))
                  | 10, _ =>
                    intro o ho LL vals a w' hs hi hcl hdl hJ K hK
                    cases ho
                    have e0 := hs.out 26 (.slice (some ⟨g, 0, none⟩) 128 128) (laysD_far 26 (by omega)) rfl
                    go_simp
                    exact hK _ _ (hJ.step (by rw [hV]; rfl) (by rw [hJ.world, hWd]; simp [setL]))
                  | 11, _ =>
                    intro o ho LL vals a w' hs hi hcl hdl hJ K hK
                    cases ho
                    have e0 := hs.out 28 (.pointer (some ⟨pB, 0, none⟩)) (laysD_far 28 (by omega)) rfl
                    obtain ⟨k0, k1, k2⟩ := HCL.out LL
                    rw [← hJ.world] at k0 k1 k2
                    go_simp
                    exact hK _ _ (hJ.step (by rw [hV]; rfl) (by rw [hJ.world, hWd]; simp [setL]))
                  | 12, _ =>
                    intro o ho LL vals a w' hs hi hcl hdl hJ K hK
                    cases ho
                    have e0 := hs.dep hJ 0 156 (.map (some lb)) (hdl 0 (by simp [laysW])) (by omega) rfl (by omega) (by rw [hV]; rfl)
                    have e1 := hs.dep hJ 4 160 (.int .i64 (x : Int)) (hdl 4 (by simp [laysW])) (by omega) rfl (by omega) (by rw [hV]; rfl)
                    have l14 : LL 14 = false := by
                      cases h : LL 14 with
                      | false => rfl
                      | true => rw [hcl 14 h 12 (by simp [laysW])] at hi; cases hi
                    have l15 : LL 15 = false := by
                      cases h : LL 15 with
                      | false => rfl
                      | true => rw [hcl 15 h 14 (by simp [laysW])] at l14; cases l14
                    have l17 : LL 17 = false := by
                      cases h : LL 17 with
                      | false => rfl
                      | true => rw [hcl 17 h 15 (by simp [laysW])] at l15; cases l15
                    have hww : w' = w7.drew := by rw [hJ.world, hWd]; simp [l14, l15, l17, hi]
                    subst hww
                    have hr := R1.out
                    go_simp
                    exact hK _ _ (hJ.step (by rw [hV]; rfl) (by rw [hWd]; simp [setL, l14, l15, l17]))
                  | 13, _ =>
                    intro o ho LL vals a w' hs hi hcl hdl hJ K hK
                    cases ho
                    have e0 := hs.dep hJ 12 168 (.tuple #[v0, .int .i64 (s0 : Int)]) (hdl 12 (by simp [laysW])) (by omega) rfl (by omega) (by rw [hV]; rfl)
                    go_simp
                    exact hK _ _ (hJ.step (by rw [hV]; rfl) (by rw [hJ.world, hWd]; simp [setL]))
                  | 14, _ =>
                    intro o ho LL vals a w' hs hi hcl hdl hJ K hK
                    cases ho
                    have e0 := hs.dep hJ 0 156 (.map (some lb)) (hdl 0 (by simp [laysW])) (by omega) rfl (by omega) (by rw [hV]; rfl)
                    have e1 := hs.dep hJ 13 169 (.int .i64 (s0 : Int)) (hdl 13 (by simp [laysW])) (by omega) rfl (by omega) (by rw [hV]; rfl)
                    have e2 := hs.dep hJ 10 166 (.slice (some ⟨g, 0, none⟩) 128 128) (hdl 10 (by simp [laysW])) (by omega) rfl (by omega) (by rw [hV]; rfl)
                    have l15 : LL 15 = false := by
                      cases h : LL 15 with
                      | false => rfl
                      | true => rw [hcl 15 h 14 (by simp [laysW])] at hi; cases hi
                    have l17 : LL 17 = false := by
                      cases h : LL 17 with
                      | false => rfl
                      | true => rw [hcl 17 h 15 (by simp [laysW])] at l15; cases l15
                    have l12 : LL 12 = true := hdl 12 (by simp [laysW])
                    have hww : w' = u1 := by rw [hJ.world, hWd]; simp [l12, l15, l17, hi]
                    subst hww
                    have hr := R2.out
                    go_simp
                    exact hK undef _ (hJ.step (by rw [hV]; rfl) (by rw [hWd]; simp [setL, l15, l17]))
                  | 15, _ =>
                    intro o ho LL vals a w' hs hi hcl hdl hJ K hK
                    cases ho
                    have e0 := hs.dep hJ 5 161 (.map (some ab)) (hdl 5 (by simp [laysW])) (by omega) rfl (by omega) (by rw [hV]; rfl)
                    have e1 := hs.dep hJ 9 165 (.int .i64 (x : Int)) (hdl 9 (by simp [laysW])) (by omega) rfl (by omega) (by rw [hV]; rfl)
                    have l17 : LL 17 = false := by
                      cases h : LL 17 with
                      | false => rfl
                      | true => rw [hcl 17 h 15 (by simp [laysW])] at hi; cases hi
                    have l14 : LL 14 = true := hdl 14 (by simp [laysW])
                    have hww : w' = u2 := by rw [hJ.world, hWd]; simp [l14, l17, hi]
                    subst hww
                    have hr := R3.out
                    go_simp
                    exact hK _ _ (hJ.step (by rw [hV]; rfl) (by rw [hWd]; simp [setL, l17]))
                  | 16, _ =>
                    intro o ho LL vals a w' hs hi hcl hdl hJ K hK
                    cases ho
                    have e0 := hs.dep hJ 15 170 (.tuple #[v1, .int .i64 (s1 : Int)]) (hdl 15 (by simp [laysW])) (by omega) rfl (by omega) (by rw [hV]; rfl)
                    go_simp
                    exact hK _ _ (hJ.step (by rw [hV]; rfl) (by rw [hJ.world, hWd]; simp [setL]))
                  | 17, _ =>
                    intro o ho LL vals a w' hs hi hcl hdl hJ K hK
                    cases ho
                    have e0 := hs.dep hJ 5 161 (.map (some ab)) (hdl 5 (by simp [laysW])) (by omega) rfl (by omega) (by rw [hV]; rfl)
                    have e1 := hs.dep hJ 16 171 (.int .i64 (s1 : Int)) (hdl 16 (by simp [laysW])) (by omega) rfl (by omega) (by rw [hV]; rfl)
                    have e2 := hs.dep hJ 11 167 (.agg #[.int .i64 (1000 + (x : Int)), .int .u32 (S : Int)]) (hdl 11 (by simp [laysW])) (by omega) rfl (by omega) (by rw [hV]; rfl)
                    have l15 : LL 15 = true := hdl 15 (by simp [laysW])
                    have hww : w' = u3 := by rw [hJ.world, hWd]; simp [l15, hi]
                    subst hww
                    have hr := R4.out
                    go_simp
                    exact hK undef _ (hJ.step (by rw [hV]; rfl) (by rw [hWd]; simp [setL]))
                  | n + 18, h => exact absurd h (by omega)
                · intro vals a w' hs hJ
                  obtain ⟨ha, hw⟩ := hs.done rfl rfl (fun i j hi hj h => laysD_ne i j hi hj h) hJ
                  have hw' : w' = u4 := by rw [hw, hWd]; rfl
                  subst ha
                  subst hw'
                  clear hWd hw hs hJ
                  rw [hV]
                  clear hV
                  simp only [putAll, laysD, List.setIfInBounds_toArray, List.set_cons_zero, List.set_cons_succ, List.set_nil, List.getD_cons_zero, List.getD_cons_succ, Nat.reduceAdd, Nat.reduceLT, Nat.reduceEqDiff, ↓reduceIte]
                  go_wp2
                  go_roundw
                  case rel => exact ⟨m, by omega, by go_num, by have h := HT8.out; rwa [show kn - (m + 1) + 1 = kn - m from by omega] at h⟩
                  case measure => simp [intOf]
          · obtain rfl : m = 0 := by omega
            obtain ⟨b, hb', hb1⟩ : ∃ b : Nat, o.tmod 3621 = b ∧ b < 3621 := ⟨(o % 3621).toNat, by rw [Int.tmod_eq_emod_of_nonneg ho.1]; omega, by omega⟩
            have wb : IntKind.u16.wrap (b : Int) = b := IntWalk.u16_in _ (by omega)
            have HROW := Lib.hid (HTM.out.row.alloc (.cells #[.int .i64 (b : Int)] 3))
            have hba := (Below.refl wx.heap.size wx).alloc (Nat.le_refl _) (.cells #[.int .i64 (b : Int)] 3)
            have HTA := Lib.hid (HTM.out.up hba)
            have HNA := Lib.hid (Rd.new wx 3 #[.int .i64 (b : Int)] (0, 0))
            clear hba HTM
            go_wp2_with (at_builtin; refine wpList_append_rd _ rfl _ _ 26 rfl w.heap.size 3 i0 (.int .i64 0) 1 8 Tryd.underlying26 hi.out hz0.out hz1.out hz2.out rfl (by decide) _ _ _ rfl HROW.out (wx.heap.size + 1) (some ⟨wx.heap.size, 0, none⟩) 1 1 ([(b : Int)].map iv) rfl rfl HNA.out ?c2 ?c3 ?c4 ?c5 ?_)
            case c2 => first | exact ints_one _ | rfl
            case c3 => unfold maxLen; omega
            case c4 => omega
            case c5 => simpa using HTA.out.below.size
            intro r' w8 hown8 hgrow8
            have HOWN8 : w8.ownsRow w.heap.size 3 1 r' (i + 1) ((intL (L ++ [b])).map iv) := by
              have e : intL (L ++ [b]) = intL L ++ [(b : Int)] := by simp [intL]
              rw [e, List.map_append]
              exact hown8
            obtain ⟨A8, c8, hre8, hc8, hcm8⟩ := own_len HOWN8
            subst hre8
            have HFN := Lib.hid (Fin4.of HTA.out hgrow8 HOWN8)
            obtain ⟨M, hM⟩ : ∃ M, L ++ [b] = M := ⟨_, rfl⟩
            rw [hM] at HFN
            have HML : Hid (M.length = i + 1) := by show _ = _; rw [← hM, List.length_append, HLE.out]; rfl
            have HMB : Hid (∀ z ∈ M, z < 3621) := fun z hz => by
              rw [← hM] at hz
              rcases List.mem_append.1 hz with h | h
              · exact HLB.out z h
              · rw [List.mem_singleton.1 h]; exact hb1
            unfold maxLen at hcm8
            clear hM hown8 hgrow8 HOWN8 HROW HTA HNA hb' wb hb1 HOKL HNSE HKN
            go_wp2
            go_loopw [30] (fun v wy => ∃ t : Nat, t ≤ i + 1 ∧ v = .int .i64 (t : Int) ∧ Hid (Below w8.heap.size w8 wy)) (fun v _ => i + 1 - (intOf v).toNat)
            case atStart => exact ⟨0, Nat.zero_le _, rfl, Below.refl _ _⟩
            case round =>
              obtain ⟨t, ht, rfl, HBY⟩ := hrel
              rename World => wy
              have HFY := Lib.hid (HFN.out.up HBY.out)
              by_cases hlt : t < i + 1
              · obtain ⟨nn, hnn⟩ : ∃ nn, M[t]? = some nn := ⟨_, List.getElem?_eq_getElem (by rw [HML.out]; exact hlt)⟩
                have hnb := HMB.out nn (List.mem_of_getElem? hnn)
                obtain ⟨bl, ol, rfl, hbl, hcl⟩ := HFY.out.row.plain (by rw [List.length_map, intL_length, HML.out]; omega)
                have c0 := hcl t (.int .i64 (nn : Int)) (by rw [List.getElem?_map, intL_get hnn]; rfl)
                have HPA := path_any (nn : Int) wy (HRT.out.up HFY.out.below) (by omega)
                rw [show errP (nn : Int) = 0 from if_pos (by omega), show refP (nn : Int) = pathI nn from by rw [refP, if_pos (by omega)]; rfl] at HPA
                have HPA := Lib.hid HPA
                clear hcl hnn
                go_wp2_with fail
                refine HPA.out.mono ?_
                rintro e wp ⟨Ap, kp, cp, rfl, hlp, hkp, hcpm, hrp, hbp⟩
                have HFP := Lib.hid (HFY.out.up hbp)
                have cP := (hbp.cell (p := ⟨bl, ol + t, none⟩) hbl).trans c0
                have hblp : bl < wp.heap.size := by have := hbp.size; omega
                have HLP := Lib.hid hlp
                have HRP := Lib.hid hrp
                have HBP := Lib.hid (HBY.out.trans (hbp.mono HBY.out.size))
                obtain ⟨hp1, hp4⟩ := path_length nn
                rw [hlp] at hp1 hp4
                obtain ⟨bp, op, rfl, hbpp, hcp⟩ := hrp.plain (by rw [List.length_map, hlp]; omega)
                have HCP : Hid (∀ j d, (pathI nn)[j]? = some d → wp.cell? ⟨bp, op + j, none⟩ = some (.int .i64 d)) := fun j d hd => hcp j (.int .i64 d) (by rw [List.getElem?_map, hd]; rfl)
                obtain ⟨q0, hq0⟩ : ∃ q0, (hv nn).getD zP = q0 := ⟨_, rfl⟩
                have hlook0 := HFP.out.have_.look nn (by omega) q0 hq0
                have HQ0 := Lib.hid hq0
                have hkp0 : ((kp : Int) == 0) = false := by simp; omega
                clear hlp hrp hbp c0 HPA HFY HBY hq0 hcp hbl
                go_upto_if 207 with fail
                obtain ⟨pB, hpB⟩ : ∃ pB, wp.heap.size = pB := ⟨_, rfl⟩
                obtain ⟨w9, hw9⟩ : ∃ w9, wp.alloc (.cells #[.int .i64 q0.at_, .int .u32 (q0.sum : Int)] 29) = w9 := ⟨_, rfl⟩
                have HB9 : Hid (Below wp.heap.size wp w9) := by rw [← hw9]; exact (Below.refl _ _).alloc (Nat.le_refl _) _
                have HK9 : Hid (Bk w9 pB 29 (prA q0)) := by rw [← hw9, ← hpB]; exact Bk.new wp 29 _
                rw [hw9, hpB]
                have HPB := Lib.hid hpB
                clear hw9 hpB hlook0
                go_cut [33] from 178 to 276 (fun s wc => s = .pointer (some ⟨pB, 0, none⟩) ∧ Hid (Bk wc pB 29 (prA (wayN hv F nn 1))) ∧ Hid (Below wp.heap.size wp wc))
                case first =>
                  by_cases h1 : kp = 1
                  · have hno : ¬ (1 : Int) < (kp : Int) := by omega
                    have hE : wayN hv F nn 1 = q0 := by rw [way_last hv F nn 1 hnb (by rw [HLP.out]; omega), HQ0.out]
                    clear h1
                    go_wp2_with fail
                    go_meet
                    exact ⟨rfl, by rw [hE]; exact HK9.out, HB9.out⟩
                  · have hyes : (1 : Int) < (kp : Int) := by omega
                    obtain ⟨hf1, hf2⟩ := path_first nn hnb (by rw [HLP.out]; omega)
                    have hE := way_pre hv F nn 1 hnb (Nat.le_refl _) (by rw [HLP.out]; omega)
                    obtain ⟨x, hx⟩ : ∃ x, preN nn 1 = x := ⟨_, rfl⟩
                    rw [hx] at hf1 hf2 hE
                    have c1 := (HB9.out.cell (p := ⟨bp, op + 0, none⟩) hbpp).trans (HCP.out 0 _ hf1)
                    rw [Nat.add_zero] at c1
                    have hsub : (6 : Int) + (x : Int) - 6 = (x : Int) := by omega
                    obtain ⟨q1, hq1⟩ : ∃ q1, (alN hv F x).getD zP = q1 := ⟨_, rfl⟩
                    have hlook1 := (HFP.out.up HB9.out).at_.look x (by omega) q1 hq1
                    have hkp1 : 1 ≤ kp := hp1
                    clear hf1 hx
                    go_wp2_with (refine wpList_store_pr rfl _ _ rfl pB q0 q1 rfl rfl HK9.out ?_)
                    go_meet
                    exact ⟨rfl, by rw [hE, hq1]; exact HK9.out.setRow _, HB9.out.setRow' (by rw [HPB.out]; exact Nat.le_refl _) _⟩
                case rest =>
                  obtain ⟨rfl, HKC, HBC⟩ := hcut
                  rename World => wc
                  clear HK9 HB9
                  go_wp2
                  go_loopw [34] (fun v wz => ∃ k : Nat, 1 ≤ k ∧ k ≤ kp ∧ v = .int .i64 (k : Int) ∧ Hid (Bk wz pB 29 (prA (wayN hv F nn k))) ∧ Hid (Below wp.heap.size wp wz)) (fun v _ => kp - (intOf v).toNat)
                  case atStart => exact ⟨1, Nat.le_refl _, hp1, rfl, HKC.out, HBC.out⟩
                  case round =>
                    obtain ⟨k, hk1, hkk, rfl, HKZ, HBZ⟩ := hrel
                    rename World => wz
                    clear HKC HBC
                    obtain ⟨q, hq⟩ : ∃ q, wayN hv F nn k = q := ⟨_, rfl⟩
                    rw [hq] at HKZ
                    have HQ := Lib.hid hq
                    clear hq
                    go_upto_region 49 with fail
                    go_cut [222] from 214 to 268 (fun s wc => wz = wc ∧ s = .bool (decide (k < kp ∧ 0 < q.at_)))
                    case first =>
                      obtain ⟨k0, k1⟩ := pr_cells HKZ.out
                      by_cases h1 : k < kp
                      · by_cases h2 : 0 < q.at_
                        · have e : decide (k < kp ∧ 0 < q.at_) = true := decide_eq_true ⟨h1, h2⟩
                          go_wp2_with fail
                          go_meet
                          exact ⟨rfl, by rw [e]⟩
                        · have e : decide (k < kp ∧ 0 < q.at_) = false := decide_eq_false (fun h => h2 h.2)
                          go_wp2_with fail
                          go_meet
                          exact ⟨rfl, by rw [e]⟩
                      · have e : decide (k < kp ∧ 0 < q.at_) = false := decide_eq_false (fun h => h1 h.1)
                        go_wp2_with fail
                        go_meet
                        exact ⟨rfl, by rw [e]⟩
                    case rest =>
                      obtain ⟨rfl, rfl⟩ := hcut
                      by_cases hgo : k < kp ∧ 0 < q.at_
                      · rw [decide_eq_true hgo]
                        obtain ⟨hkl, hat⟩ := hgo
                        have hkl' : k < (pathI nn).length := by rw [HLP.out]; exact hkl
                        obtain ⟨hal, hqe⟩ := way_up hv F nn k hnb hk1 hkl' (by rw [HQ.out]; exact hat)
                        obtain ⟨d, hd⟩ : ∃ d, (pathI nn)[k]? = some d := ⟨_, List.getElem?_eq_getElem hkl'⟩
                        obtain ⟨hd0, hd14⟩ := path_dig nn k d hnb hk1 hd
                        have hst := way_step hv F nn k d hnb hk1 hkl' hd hd0 hd14
                        obtain ⟨x, hx⟩ : ∃ x, preN nn k = x := ⟨_, rfl⟩
                        have hx258 : x < 258 := by rw [← hx]; exact (preN_nod nn k hnb hk1 hkl').1
                        rw [hx] at hal hqe hst
                        have HKD := Lib.hid (kd_ok hv F HVO.out x)
                        obtain ⟨g, hlk, hbk⟩ := (HFP.out.up HBZ.out).laid.look x hx258 _ hal
                        obtain ⟨KD, hKD⟩ : ∃ KD, kdN hv F x = KD := ⟨_, rfl⟩
                        rw [hKD] at hqe hst HKD hbk
                        obtain ⟨S, hS⟩ : ∃ S, sumN (nodB KD) = S := ⟨_, rfl⟩
                        obtain rfl : q = ⟨1000 + (x : Int), S⟩ := by rw [← HQ.out, hqe, mkP, hS]
                        have hSb : S < 4294967296 := by rw [← hS]; show 4294967295 - _ < 4294967296; omega
                        have HS := Lib.hid hS
                        obtain ⟨k0, k1⟩ := pr_cells HKZ.out
                        have k0 : wz.cell? ⟨pB, 0, none⟩ = some (.int .i64 (1000 + (x : Int))) := k0
                        have k1 : wz.cell? ⟨pB, 1, none⟩ = some (.int .u32 (S : Int)) := k1
                        have hsub : (1000 : Int) + (x : Int) - 1000 = (x : Int) := by omega
                        have HTZ := Lib.hid (HT.out.up (HFP.out.up HBZ.out).below)
                        have HRN := Lib.hid (inoRead_any (some ⟨g, 0, none⟩) 128 128 (nodB KD) 0 KD wz (nodB_len KD HKD.out.1) (by simpa using Rd.bk hbk) (Nat.le_refl _) (by simp [maxLen]) HTZ.out (nodQ_nod HKD.out.1 HKD.out.2.1 HKD.out.2.2) (nodR_nod HKD.out.1 HKD.out.2.1 HKD.out.2.2))
                        have HG := Lib.hid hbk
                        have HST := Lib.hid hst
                        have HDD := Lib.hid hd
                        clear hal hqe hx hbk hKD hS hst hd hat hkl'
                        go_wp2_with fail
                        refine HRN.out.mono ?_
                        rintro e wz1 ⟨A1, n1, c1', rfl, hl1, hn1, hc1, hr1, hb1⟩
                        obtain rfl : n1 = 15 := by rw [← hl1]; exact HKD.out.1
                        have HB1 := Lib.hid hb1
                        have HK1 := HKZ.out.below hb1 HKZ.out.lt
                        obtain ⟨m0, m1⟩ := pr_cells HK1
                        have m0 : wz1.cell? ⟨pB, 0, none⟩ = some (.int .i64 (1000 + (x : Int))) := m0
                        have m1 : wz1.cell? ⟨pB, 1, none⟩ = some (.int .u32 (S : Int)) := m1
                        have HPT := Lib.hid (inoPoints_any ⟨1000 + (x : Int), S⟩ (some ⟨g, 0, none⟩) 128 128 (nodB KD) true wz1 (nodB_len KD HKD.out.1) (by omega) (by simpa using Rd.bk (HG.out.below hb1 HG.out.lt)) (HTZ.out.up hb1) hSb (by
                          rw [ptsB, decide_eq_true (show (0 : Int) < 1000 + (x : Int) by omega), decide_eq_true (nodB_len KD HKD.out.1), HS.out]; simp))
                        have HR1 := Lib.hid hr1
                        clear hr1 hb1 HK1 hl1 k0 k1 hlk
                        go_wp2_with fail
                        refine HPT.out.mono ?_
                        rintro e wz2 ⟨rfl, hb2⟩
                        have HB12 := Lib.hid (HB1.out.trans (hb2.mono HB1.out.size))
                        have HK2 := Lib.hid (HKZ.out.below HB12.out HKZ.out.lt)
                        obtain ⟨bk, ok, rfl, hbk2, hck⟩ := (HR1.out.up hb2).plain (by rw [prsV_length, HKD.out.1]; omega)
                        obtain ⟨D, rfl⟩ : ∃ D : Nat, d = (D : Int) := ⟨d.toNat, by omega⟩
                        obtain ⟨q2, hq2⟩ : ∃ q2, wayN hv F nn (k + 1) = q2 := ⟨_, rfl⟩
                        have hst2 := HST.out
                        rw [hq2, Int.toNat_natCast] at hst2
                        obtain ⟨n0, n1⟩ := prsV_get KD D q2 hst2
                        have l0 := hck (D * 2) _ n0
                        have l1 := hck (D * 2 + 1) _ n1
                        rw [← Nat.add_assoc] at l1
                        have cD := ((HBZ.out.trans (HB12.out.mono HBZ.out.size)).cell (p := ⟨bp, op + k, none⟩) hbpp).trans (HCP.out k _ HDD.out)
                        have hD15 : D < 15 := by omega
                        have HQ2 := Lib.hid hq2
                        clear hb2 hck hst2 n0 n1 hq2 m0 m1
                        have hdn : ¬ (D : Int) < 0 := by omega
                        have hdm : ¬ (14 : Int) < (D : Int) := by omega
                        have HBZ2 : Hid (Below wp.heap.size wp (wz2.setRow pB (prA q2))) := (HBZ.out.trans (HB12.out.mono HBZ.out.size)).setRow' (by rw [HPB.out]; exact Nat.le_refl _) _
                        have HKZ2 : Hid (Bk (wz2.setRow pB (prA q2)) pB 29 (prA q2)) := HK2.out.setRow _
                        have hkk2 : k + 1 ≤ kp := by omega
                        go_wp2_with (refine wpList_store_pr rfl _ _ rfl pB ⟨1000 + (x : Int), S⟩ q2 rfl rfl HK2.out ?_)
                        go_roundw
                        case rel => exact ⟨k + 1, by omega, hkk2, by go_num, by rw [HQ2.out]; exact HKZ2.out, HBZ2.out⟩
                        case measure => simp [intOf]; omega
                      · rw [decide_eq_false hgo]
                        have hE : q = q0 := by
                          rw [← HQ.out, ← HQ0.out]
                          by_cases hk : k < kp
                          · have h0 : ¬ 0 < (wayN hv F nn k).at_ := by rw [HQ.out]; exact fun h => hgo ⟨hk, h⟩
                            rw [← HF.out] at h0 ⊢
                            exact way_stop hv L nn k hnb hk1 (by rw [HLP.out]; exact hk) HVZ.out h0
                          · exact way_last hv F nn k hnb (by rw [HLP.out]; omega)
                        subst hE
                        obtain ⟨k0, k1⟩ := pr_cells HKZ.out
                        have cL := (HBZ.out.cell (p := ⟨bl, ol + t, none⟩) hblp).trans cP
                        have hlook : ∀ j, (Instr.lookup 25 (.map (some hb)) (.int .i64 (nn : Int)) false).run Tryd.prog (wz.drewN j) = .ok (.agg #[.int .i64 q.at_, .int .u32 (q.sum : Int)]) (wz.drewN j) := fun j =>
                          PMap.look ((HFP.out.up HBZ.out).have_.below ((Below.refl wz.heap.size wz).drewN' j) ((HFP.out.up HBZ.out).have_.lt)) nn (by omega) q HQ0.out
                        have k02 : ∀ j, (wz.drewN j).cell? ⟨pB, 0, none⟩ = some (.int .i64 q.at_) := fun _ => k0
                        have k12 : ∀ j, (wz.drewN j).cell? ⟨pB, 1, none⟩ = some (.int .u32 (q.sum : Int)) := fun _ => k1
                        have cL2 : ∀ j, (wz.drewN j).cell? ⟨bl, ol + t, none⟩ = some (.int .i64 (nn : Int)) := fun _ => cL
                        go_upto_region 56 with fail
                        have HBE := Lib.hid (HBP.out.trans (HBZ.out.mono HBP.out.size))
                        have hno1 : (q.at_ == q.at_) = true := by simp
                        have hno2 : ((q.sum : Int) == (q.sum : Int)) = true := by simp
                        clear HBP
                        go_quiet (fail)
                        go_wp2
                        go_roundw
                        case rel => exact ⟨t + 1, by omega, by go_num, by first | exact HBE.out.drewN' _ | exact HBE.out.drew⟩
                        case measure => simp [intOf]; omega
              · obtain rfl : t = i + 1 := by omega
                have HWK := Lib.hid (works_any wy (pathC (HRT.out.up HFY.out.below)) (HT.out.up HFY.out.below))
                have HBE := HFY.out.below
                have HBE := Lib.hid HBE
                go_wp2_with fail
                refine HWK.out.mono ?_
                rintro e we ⟨rfl, hbe⟩
                have HBE2 := Lib.hid (HBE.out.trans (hbe.mono HBE.out.size))
                clear hbe
                go_wp2
                go_ret
                exact ⟨rfl, HBE2.out⟩
end Go.Proofs.YtnipfonglheofaaDoor
