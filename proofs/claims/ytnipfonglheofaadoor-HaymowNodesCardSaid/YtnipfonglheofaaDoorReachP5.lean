/-
  The landed reach: Nodes.
-/
import Derived.Test.YtnipfonglheofaaDoorReachP4
namespace Go.Proofs.YtnipfonglheofaaDoor
open Go.RowKit
set_option maxRecDepth 100000
set_option linter.unusedVariables false

theorem zero258 (w : World) : (zeroValue 48).run Tryd.prog w = .ok (.agg fl0) w := by kernel_rfl
theorem inf_fl : (Tryd.prog.info? 48).map (·.size) = some 258 := by kernel_rfl
theorem und_fl : ∃ d, Tryd.prog.underlying 48 = some d ∧ d.isRow = true := ⟨_, Tryd.underlying48, rfl⟩
theorem flC_get (F : Nat → Bool) (k : Nat) (hk : k < 258) : (flC F)[k]? = some (.bool (F k)) := by simp [flC, flV_get F 258 k hk]
theorem index_fl (F : Nat → Bool) (k : Nat) (hk : k < 258) (w : World) : (Instr.index 48 (.agg (flC F)) (.int .i64 (k : Int))).run Tryd.prog w = .ok (.bool (F k)) w := by
  have h1 := run_part_plain (P := Tryd.prog) (e := 4) (by kernel_rfl) (flC_get F k hk) (w := w)
  have h2 : (0 : Int) ≤ (k : Int) ∧ (k : Int) < 258 := by omega
  simp [Instr.index, asIntOf, run_underlying Tryd.underlying48, h1, h2]
  omega
theorem flb_cell {w : World} {g : Nat} {t : TypeId} {F : Nat → Bool} (h : Bk w g t (flC F)) (x : Nat) (hx : x < 258) : w.cell? ⟨g, x, none⟩ = some (.bool (F x)) ∧ w.frozen? ⟨g, x, none⟩ = false :=
  ⟨(h.cell x).trans (flC_get F x hx), h.free x⟩
theorem flb_noint {w : World} {g : Nat} {t : TypeId} {F : Nat → Bool} (h : Bk w g t (flC F)) (x : Nat) {k : IntKind} {v : Int} : w.cell? ⟨g, x, none⟩ ≠ some (.int k v) := by
  rw [h.cell]
  by_cases hx : x < 258
  · simp [flC, flV_get F 258 x hx]
  · simp [flC, List.getElem?_eq_none (show (flV F 258).length ≤ x by rw [flV_length]; omega)]
section
variable {ops : Array Oper} {rest : List Oper} {o : Oper} {a : Act} {w : World} {Q : Exit → Act → World → Prop}
theorem wpList_load_fl (hw : Region.wanted o (yielded ops a.tmps) = true) (y : Operand) (ho : o.op = .load 48 y) (g : Nat) (F : Nat → Bool) (hy : a.eval y = .pointer (some ⟨g, 0, none⟩)) (hk : Bk w g 48 (flC F))
    (h : wpList Tryd.prog ops Q rest (a.put o.dst (.agg (flC F))) w) : wpList Tryd.prog ops Q (o :: rest) a w :=
  BigFrame.wpList_want hw fun K hK => by
    obtain ⟨d, hu, hd⟩ := und_fl
    exact wp_load_mid 48 y ho g 0 hy (flV F 258) d (fun j v hv => by rw [Nat.zero_add, hk.cell]; simpa [flC] using hv) hu hd (by rw [inf_fl, flV_length]) (hK _ _ h)
end
theorem noi (F : Nat → Bool) : idxF F 0 = [] := rfl

set_option maxHeartbeats 8000000 in
theorem nodes_any (A : Option Addr) (n c : Nat) (l : List Int) (w : World) (hl : l.length = n) (hcm : n ≤ c) (hm : c ≤ maxLen) (hn : n ≤ 1000) (hr : Rd w w.heap.size A (l.map iv)) (hbd : ∀ y ∈ l, -9223372036854775808 ≤ y ∧ y ≤ 9223372036854775807) (ht : RTab w) :
    Calls Tryd.prog 4 #[.slice A n c] w fun e w' => ∃ A' k c' ns q, e = .returned (.tuple #[.slice A' k c', .int .i64 q]) ∧ ((okL l ∧ ns = idxF (onL (l.map Int.toNat)) 258 ∧ q = 0) ∨ (¬ okL l ∧ ns = [] ∧ q = 4)) ∧ ns.length = k ∧ k ≤ c' ∧ c' ≤ maxLen ∧ Rd w' w'.heap.size A' (ns.map iv) ∧ Below w.heap.size w w' := by
  obtain ⟨i0, hi, hz0, hz1, hz2⟩ := info_parts info_int8
  have hi := Lib.hid hi
  have hz0 := Lib.hid hz0
  have hz1 := Lib.hid hz1
  have hz2 := Lib.hid hz2
  have HT := Lib.hid ht
  have HL := Lib.hid hl
  have HR := Lib.hid hr
  have HBD := Lib.hid hbd
  unfold maxLen at hm
  have hmk := zero258 w
  have K0 := Bk.new w 48 fl0
  have HB0 := Lib.hid ((Below.refl w.heap.size w).alloc (Nat.le_refl _) (.cells fl0 48))
  obtain ⟨w0, hw0⟩ : ∃ w0, w.alloc (.cells fl0 48) = w0 := ⟨_, rfl⟩
  rw [hw0] at K0 HB0
  rw [fl0_eq] at K0
  have K0 := Lib.hid K0
  obtain ⟨g, hg⟩ : ∃ g, w.heap.size = g := ⟨_, rfl⟩
  have HG := Lib.hid hg
  have K0 : Hid (Bk w0 g 48 (flC (onL []))) := by rw [← hg]; exact K0.out
  clear hl hr hbd ht
  go_enter Tryd.func4, Tryd.ntmps4
  go_wp2
  go_loopw [17] (fun i wr => ∃ k : Nat, k ≤ n ∧ i = .int .i64 k ∧ Hid (okL (l.take k)) ∧ Hid (Bk wr g 48 (flC (onL ((l.take k).map Int.toNat)))) ∧ Hid (Below w.heap.size w wr)) (fun i _ => n - (intOf i).toNat)
  case atStart => exact ⟨0, Nat.zero_le _, rfl, (fun b hb => by cases hb), K0.out, HB0.out⟩
  case round =>
    obtain ⟨k, hk, rfl, HOK, HK, HB⟩ := hrel
    clear K0 HB0 hmk hw0 hg
    by_cases hlt : k < n
    · obtain ⟨y, hy⟩ : ∃ y, l[k]? = some y := ⟨_, List.getElem?_eq_getElem (by have := HL.out; omega)⟩
      have hyb := HBD.out y (List.mem_of_getElem? hy)
      obtain ⟨bA, oA, rfl, -, hc⟩ := (HR.out.below HB.out).plain (by rw [List.length_map]; have := HL.out; omega)
      have c0 := hc k (.int .i64 y) (by rw [List.getElem?_map, hy]; rfl)
      have HP := Lib.hid (path_any y wr (HT.out.up HB.out) hyb)
      have HY := Lib.hid hy
      clear hc hy
      go_wp2_with fail
      refine HP.out.mono ?_
      rintro e w1 ⟨Ap, np, cp, rfl, hlp, hcp, hcmp, hrp, hb1⟩
      clear HP c0
      have HB1 := Lib.hid (HB.out.trans (hb1.mono HB.out.size))
      have HK1 := Lib.hid (HK.out.below hb1 HK.out.lt)
      clear hb1 HK HB
      by_cases hok : 0 ≤ y ∧ y ≤ 3620
      · obtain ⟨b, rfl⟩ : ∃ b : Nat, y = (b : Int) := ⟨y.toNat, by omega⟩
        have hbl : b < 3621 := by omega
        have he : refP (b : Int) = pathI b ∧ errP (b : Int) = 0 := by
          unfold refP errP
          rw [if_pos hok, if_pos hok]
          exact ⟨rfl, rfl⟩
        rw [he.1] at hlp hrp
        rw [he.2]
        have HTS : Hid (okL (l.take (k + 1))) := fun z hz => by
          rw [List.take_add_one, HY.out] at hz
          rcases List.mem_append.1 hz with h | h
          · exact HOK.out z h
          · have : z = (b : Int) := by simpa using h
            rw [this]; exact hok
        have HTM : Hid ((l.take (k + 1)).map Int.toNat = (l.take k).map Int.toNat ++ [b]) := by
          show _ = _
          rw [List.take_add_one, HY.out, List.map_append]; rfl
        obtain ⟨L, hL⟩ : ∃ L, (l.take k).map Int.toNat = L := ⟨_, rfl⟩
        rw [hL] at HTM HK1
        have HLP := Lib.hid hlp
        have HRP := Lib.hid hrp
        have HPL := Lib.hid (path_length b)
        obtain ⟨ap, op, hap, -, hcc⟩ := hrp.plain (by rw [List.length_map]; have := HPL.out.1; omega)
        subst hap
        have HNG : Hid (ap ≠ (⟨g, 0, none⟩ : Addr).block) := by
          intro e
          obtain ⟨a0, ha0⟩ : ∃ a0, (pathI b)[0]? = some a0 := ⟨_, List.getElem?_eq_getElem (by have := HPL.out.1; omega)⟩
          have h0 := hcc 0 (.int .i64 a0) (by rw [List.getElem?_map, ha0]; rfl)
          subst e
          exact flb_noint HK1.out _ h0
        have HCM := Lib.hid hcmp
        have hcp2 : cp ≤ 9223372036854775807 := by unfold maxLen at hcmp; omega
        have hnp : np ≤ 4 := by have := HLP.out; have := HPL.out.2; omega
        clear hcc hlp hrp he hL hok hyb hcmp HY
        go_wp2
        go_loopw [9] (fun s wx => ∃ j : Nat, 1 ≤ j ∧ (j ≤ np ∨ j = 1) ∧ s = .int .i64 j ∧ Hid (Bk wx g 48 (flC (onP (onL L) b j))) ∧ Hid (Below w.heap.size w wx) ∧ Hid (Rd wx wx.heap.size (some ⟨ap, op, none⟩) ((pathI b).map iv))) (fun s _ => np - (intOf s).toNat)
        case atStart => exact ⟨1, Nat.le_refl _, .inr rfl, rfl, by rw [onP_one]; exact HK1.out, HB1.out, HRP.out⟩
        case round =>
          obtain ⟨j, hj1, hj, rfl, HKJ, HBJ, HRJ⟩ := hrel
          clear HK1 HB1 HRP
          by_cases hlj : j < np
          · obtain ⟨hx, hxe⟩ := preN_nod b j hbl hj1 (by rw [HLP.out]; exact hlj)
            obtain ⟨x, hxn⟩ : ∃ x, preN b j = x := ⟨_, rfl⟩
            rw [hxn] at hx hxe
            have hlen : ((pathI b).take j).length = j := by rw [List.length_take, HLP.out]; omega
            have hjc : j ≤ cp := by omega
            have HNU := rnumber_any (some ⟨ap, op, none⟩) j cp ((pathI b).take j) x wr hlen hjc HCM.out (by rw [List.map_take]; exact HRJ.out.take j) (.inl ⟨x, hx, hxe, rfl⟩) (HT.out.up HBJ.out)
            rw [show valR (x : Int) = (x : Int) from if_neg (by omega), show errR (x : Int) = 0 from if_neg (by omega)] at HNU
            have HNU' := Lib.hid HNU
            have HXN := Lib.hid hxn
            clear hxe hlen hxn HNU
            go_wp2_with fail
            refine HNU'.out.mono ?_
            rintro e w2 ⟨rfl, hb2⟩
            have K2 := HKJ.out.below hb2 HKJ.out.lt
            obtain ⟨k0, f0⟩ := flb_cell K2 x hx
            have HK2 := Lib.hid (K2.set_ x (.bool true))
            rw [flC_set _ _ hx] at HK2
            have HB2 := Lib.hid ((HBJ.out.trans (hb2.mono HBJ.out.size)).setCell (p := ⟨g, x, none⟩) (by show w.heap.size ≤ g; rw [HG.out]; exact Nat.le_refl _) (.bool true))
            have HR2 : Hid (Rd (w2.setCell ⟨g, x, none⟩ (.bool true)) (w2.setCell ⟨g, x, none⟩ (.bool true)).heap.size (some ⟨ap, op, none⟩) ((pathI b).map iv)) := by
              show Rd _ _ _ _
              rw [World.setCell_size']
              exact rd_far ((HRJ.out.below hb2).mono hb2.size) HNG.out _
            clear hb2 K2
            go_wp2
            go_roundw
            case rel => exact ⟨j + 1, by omega, .inl (by omega), by go_num, by rw [onP_succ _ _ _ hj1, HXN.out]; exact HK2.out, HB2.out, HR2.out⟩
            case measure => simp [intOf]; omega
          · have HE : Hid (onL (L ++ [b]) = onP (onL L) b j) := by
              show _ = _
              have h1 := HPL.out.1
              have h2 := HLP.out
              rw [onL_snoc, show j = (pathI b).length from by omega]
            go_wp2
            go_roundw
            case rel => exact ⟨k + 1, by omega, by go_num, HTS.out, by rw [HTM.out, HE.out]; exact HKJ.out, HBJ.out⟩
            case measure => simp [intOf]; omega
      · have HNO : Hid (¬ okL l) := fun h => hok (h y (List.mem_of_getElem? HY.out))
        rw [show errP y = 4 from if_neg hok]
        clear hlp hrp hok
        go_wp2
        go_ret2
        exact ⟨none, 0, 0, [], 4, rfl, .inr ⟨HNO.out, rfl, rfl⟩, rfl, Nat.le_refl _, by simp [maxLen], Rd.nil_, HB1.out⟩
    · obtain rfl : k = n := by omega
      have HTK : l.take k = l := List.take_of_length_le (by have := HL.out; omega)
      rw [HTK] at HOK HK
      obtain ⟨F, hF⟩ : ∃ F, onL (l.map Int.toNat) = F := ⟨_, rfl⟩
      rw [hF] at HK
      have HF := Lib.hid hF
      clear HTK hF
      go_wp2_with (refine wpList_load_fl rfl _ rfl g F rfl HK.out ?_)
      obtain ⟨wq, hwq⟩ : ∃ wq : World, wq = wr := ⟨_, rfl⟩
      subst hwq
      go_loopw [12, 49] (fun r i wx => ∃ (k s : Nat), k ≤ 258 ∧ i = .int .i64 k ∧ s ≤ k ∧ Hid (wx.ownsRow w.heap.size 3 1 r s ((idxF F k).map iv)) ∧ Hid (Below w.heap.size w wx)) (fun _ i _ => 258 - (intOf i).toNat)
      case atStart => exact ⟨0, 0, Nat.zero_le _, rfl, Nat.le_refl _, ⟨rfl, .inl ⟨rfl, rfl⟩⟩, HB.out⟩
      case round =>
        obtain ⟨t, s, ht, rfl, hs, HOWN, HBX⟩ := hrel
        obtain ⟨Ar, cr, hre, hcr, hcm2⟩ := own_len HOWN.out
        subst hre
        by_cases hlt2 : t < 258
        · have hidx := index_fl F t hlt2
          have HS := Lib.hid (idxF_succ F t)
          cases hf : F t with
          | false =>
            rw [hf] at hidx
            have HE : Hid (idxF F (t + 1) = idxF F t) := by show _ = _; rw [HS.out, hf]; rfl
            clear hf
            go_wp2
            go_roundw
            case rel => exact ⟨t + 1, s, by omega, by go_num, by omega, by rw [HE.out]; exact HOWN.out, HBX.out⟩
            case measure => simp [intOf]; omega
          | true =>
            rw [hf] at hidx
            have HE : Hid (idxF F (t + 1) = idxF F t ++ [(t : Int)]) := by show _ = _; rw [HS.out, hf]; rfl
            have HOWN2 := Lib.hid (HOWN.out.alloc (.cells #[.int .i64 (t : Int)] 3))
            have HB2 := Lib.hid (HBX.out.alloc HBX.out.size (.cells #[.int .i64 (t : Int)] 3))
            have HN := Lib.hid (Rd.new wr 3 #[.int .i64 (t : Int)] (0, 0))
            clear hf
            go_wp2_with (at_builtin; refine wpList_append_rd _ rfl _ _ 26 rfl w.heap.size 3 i0 (.int .i64 0) 1 8 Tryd.underlying26 hi.out hz0.out hz1.out hz2.out rfl (by decide) _ _ _ rfl HOWN2.out (wr.heap.size + 1) (some ⟨wr.heap.size, 0, none⟩) 1 1 ([(t : Int)].map iv) rfl rfl HN.out ?c2 ?c3 ?c4 ?c5 ?_)
            case c2 => first | exact ints_one _ | rfl
            case c3 => unfold maxLen; omega
            case c4 => omega
            case c5 => have := HBX.out.size; omega
            intro r' w6 hown6 hgrow
            have HB6 := Lib.hid (HB2.out.grown hgrow HB2.out.size (fun g hg => (HOWN2.out.lt g hg).1))
            have HOWN6 : Hid (w6.ownsRow w.heap.size 3 1 r' (s + 1) ((idxF F (t + 1)).map iv)) := by
              rw [HE.out, List.map_append]
              exact hown6
            clear hown6 hgrow HOWN2 HB2 HN HOWN HBX hidx
            go_wp2
            go_roundw
            case rel => exact ⟨t + 1, s + 1, by omega, by go_num, by omega, HOWN6.out, HB6.out⟩
            case measure => simp [intOf]; omega
        · obtain rfl : t = 258 := by omega
          go_wp2
          go_ret2
          obtain ⟨A', k', c', he, h1, h2, h3, h4⟩ := IntW.own HOWN.out
          injection he with e1 e2 e3
          subst e1
          subst e2
          subst e3
          exact ⟨_, _, _, idxF F 258, 0, rfl, .inl ⟨HOK.out, by rw [HF.out], rfl⟩, h1, h2, h3, h4, HBX.out⟩
theorem nodesC {w0 : World} (ht : RTab w0) : NodesC w0 := ⟨fun A m c l w hl hc hm hn hr hbd hB => nodes_any A m c l w hl hc hm hn hr hbd (ht.up hB)⟩
end Go.Proofs.YtnipfonglheofaaDoor
