/-
  What the document's answer ReadNode of layer 7 is.
-/
import Derived.Test.YtjhnabhieihifaaDoorRef07
import Derived.Test.YtjhnabhieihifaaDoorIno6
namespace Go.Proofs.YtjhnabhieihifaaDoor
open Go.RowKit
set_option maxRecDepth 100000
set_option linter.unusedVariables false

theorem info_ptrI : (Tryd.prog.info? 24).map (fun i => (i.zero, i.size, i.bytes)) = some (some (.agg #[.int .i64 0, .int .u32 0]), 2, 16) := by kernel_rfl
theorem prs_next (b : List UInt8) (k : Nat) : prsAt b 0 (k + 1) = prsAt b 0 k ++ [prAt b (8 * k)] := by rw [prsAt_succ, Nat.zero_add]

set_option maxHeartbeats 4000000 in
theorem refReadI_held (bs : List UInt8) (q : Int) (l : List Pr) (w : World) (hl : bs.length = 128) (hh : heldB bs = true) (hq : nodQ bs = q) (hx : nodR bs = l) :
    Calls Tryd.prog 17 #[.string (str bs)] w fun e w' => ∃ A' n' c', e = .returned (.tuple #[.slice A' n' c', .int .i64 q]) ∧ l.length = n' ∧ n' ≤ 15 ∧ Rd w' w'.heap.size A' (prsV l) ∧ Below w.heap.size w w' := by
  obtain ⟨i0, hi, hz0, hz1, hz2⟩ := info_parts info_ptrI
  have hi := Lib.hid hi
  have hz0 := Lib.hid hz0
  have hz1 := Lib.hid hz1
  have hz2 := Lib.hid hz2
  have HH := Lib.hid (refHeld_any bs true w (by omega) hh)
  have HHB := Lib.hid hh
  have HQ := Lib.hid hq
  have HX := Lib.hid hx
  have HL := Lib.hid hl
  clear hl hh hq hx
  go_enter Tryd.func17, Tryd.ntmps17
  go_wp2_with fail
  refine HH.out.mono ?_
  rintro e w1 ⟨rfl, hb1⟩
  have HB1 := Lib.hid hb1
  clear hb1 HH
  go_wp2
  go_loopw [4, 5] (fun r i wr => ∃ k : Nat, k ≤ 15 ∧ i = .int .i64 k ∧ Hid (wr.ownsRow w.heap.size 24 2 r k (prsV (prsAt bs 0 k))) ∧ Hid (∀ y ∈ prsAt bs 0 k, prOk y = true) ∧ Hid (Below w.heap.size w wr)) (fun _ i _ => 15 - (intOf i).toNat)
  case atStart => exact ⟨0, Nat.zero_le _, rfl, ⟨by simp [prsAt, prsV], .inl ⟨rfl, rfl⟩⟩, fun y hy => by simp [prsAt] at hy, HB1.out⟩
  case round =>
    obtain ⟨k, hk, rfl, HOWN, HALL, HB⟩ := hrel
    obtain ⟨Ar, cr, hre, hcr, hcm⟩ := own_len HOWN.out
    subst hre
    clear HB1
    by_cases hlt : k < 15
    · obtain ⟨u, hu⟩ : ∃ u, valB ((bs.drop (8 * k)).take 4) = u := ⟨_, rfl⟩
      obtain ⟨s, hs⟩ : ∃ s, valB ((bs.drop (8 * k + 4)).take 4) = s := ⟨_, rfl⟩
      have hlu := (prAt_lt bs (8 * k)).1
      have hls := (prAt_lt bs (8 * k)).2
      rw [hu] at hlu
      rw [hs] at hls
      have HPR : Hid (prAt bs (8 * k) = ⟨(u : Int), s⟩) := by show _ = _; rw [prAt, hu, hs]
      have HGA : Hid (∀ w', Calls Tryd.prog 39 #[.string (str bs), .int .i64 (8 * (k : Int)), .int .i64 4] w' fun e w'' => e = .returned (.int .u64 (u : Int)) ∧ w' = w'') := fun w' => by
        have h := Get_any bs (8 * k) 4 w' (by have := HL.out; omega) (by omega) (by have := HL.out; omega)
        rw [hu, show ((8 * k : Nat) : Int) = 8 * (k : Int) from by omega] at h
        exact h
      have HGB : Hid (∀ w', Calls Tryd.prog 39 #[.string (str bs), .int .i64 (8 * (k : Int) + 4), .int .i64 4] w' fun e w'' => e = .returned (.int .u64 (s : Int)) ∧ w' = w'') := fun w' => by
        have h := Get_any bs (8 * k + 4) 4 w' (by have := HL.out; omega) (by omega) (by have := HL.out; omega)
        rw [hs, show ((8 * k + 4 : Nat) : Int) = 8 * (k : Int) + 4 from by omega] at h
        exact h
      clear hu hs
      have K3 := Lib.hid (Bk.new wr 24 #[.int .i64 (u : Int), .int .u32 (s : Int)])
      have HB3 := Lib.hid (HB.out.alloc HB.out.size (.cells #[.int .i64 (u : Int), .int .u32 (s : Int)] 24))
      have HOWN3 := Lib.hid (HOWN.out.alloc (.cells #[.int .i64 (u : Int), .int .u32 (s : Int)] 24))
      obtain ⟨k0, k1, -⟩ := ino_cells2 K3.out
      go_wp2_with fail
      refine (HGA.out _).mono ?_
      rintro e w4 ⟨rfl, rfl⟩
      go_wp2_with fail
      refine (HGB.out _).mono ?_
      rintro e w4 ⟨rfl, rfl⟩
      go_wp2_with fail
      obtain ⟨w5, hw5⟩ : ∃ w5, wr.alloc (.cells #[.int .i64 (u : Int), .int .u32 (s : Int)] 24) = w5 := ⟨_, rfl⟩
      rw [hw5] at K3 HB3 HOWN3 k0 k1 ⊢
      clear hw5 HB HOWN k0 k1 HGA HGB
      cases hok : prOk ⟨(u : Int), s⟩ with
      | false =>
        have HF : Hid (q = 3) := by
          show _ = _
          have hne : (nodP bs).all prOk = false := all_at (k := k) (q := ⟨(u : Int), s⟩) (by rw [nodP, prsAt_get bs 0 15 k hlt, Nat.zero_add, HPR.out]) hok
          rw [← HQ.out, nodQ, HHB.out, hne]
          rfl
        have HE : Hid (l = []) := by show _ = _; rw [← HX.out]; exact nodR_not (by rw [HQ.out, HF.out]; decide)
        refine (refPointer_any ⟨(u : Int), s⟩ false w5 hok).mono ?_
        rintro e w6 ⟨rfl, hb6⟩
        have HB6 := Lib.hid (HB3.out.trans (hb6.mono HB3.out.size))
        clear hok hb6 HOWN3 K3 HB3
        go_wp2
        go_ret2
        rw [HF.out, HE.out]
        exact ⟨none, 0, 0, rfl, rfl, Nat.zero_le _, Rd.nil_, HB6.out⟩
      | true =>
        have HOK := Lib.hid hok
        refine (refPointer_any ⟨(u : Int), s⟩ true w5 hok).mono ?_
        rintro e w6 ⟨rfl, hb6⟩
        have HB6 := Lib.hid (HB3.out.trans (hb6.mono HB3.out.size))
        have K6 := Lib.hid (K3.out.below hb6 K3.out.lt)
        have HOWN6 := Lib.hid (own_up HOWN3.out hb6)
        obtain ⟨k0, k1, -⟩ := ino_cells2 K6.out
        have HOWN7 := Lib.hid (HOWN6.out.alloc (.cells #[.int .i64 (u : Int), .int .u32 (s : Int)] 24))
        have HB7 := Lib.hid (HB6.out.alloc HB6.out.size (.cells #[.int .i64 (u : Int), .int .u32 (s : Int)] 24))
        have HN := Lib.hid (Rd.new w6 24 #[.int .i64 (u : Int), .int .u32 (s : Int)] (0, 0))
        have HZ6 := HB6.out.size
        clear hok hb6 HOWN3 K3 HB3 K6 HOWN6 HB6
        go_wp2_with (at_builtin; refine wpList_append_rd _ rfl _ _ 42 rfl w.heap.size 24 i0 (.agg #[.int .i64 0, .int .u32 0]) 2 16 Tryd.underlying42 hi.out hz0.out hz1.out hz2.out rfl (by decide) _ _ _ rfl HOWN7.out (w6.heap.size + 1) (some ⟨w6.heap.size, 0, none⟩) 1 1 (prsV [⟨(u : Int), s⟩]) rfl rfl HN.out ?c2 ?c3 ?c4 ?c5 ?_)
        case c2 => exact prsV_one _
        case c3 => unfold maxLen; omega
        case c4 => omega
        case c5 => simp; omega
        intro r' w8 hown8 hgrow
        have HB8 := Lib.hid (HB7.out.grown hgrow HB7.out.size (fun g hg => (HOWN7.out.lt g hg).1))
        have HOWN8 : Hid (w8.ownsRow w.heap.size 24 2 r' (k + 1) (prsV (prsAt bs 0 (k + 1)))) := by
          rw [prs_next, HPR.out, prsV_append]
          exact hown8
        have HALL8 : Hid (∀ y ∈ prsAt bs 0 (k + 1), prOk y = true) := by
          intro y hy
          rw [prs_next, HPR.out] at hy
          rcases List.mem_append.1 hy with hy | hy
          · exact HALL.out y hy
          · simp at hy; rw [hy]; exact HOK.out
        clear hown8 hgrow HOWN7 HB7 HN k0 k1
        go_wp2
        go_roundw
        case rel => exact ⟨k + 1, by omega, by go_num, HOWN8.out, HALL8.out, HB8.out⟩
        case measure => simp [intOf]; omega
    · obtain rfl : k = 15 := by omega
      have HRD := Lib.hid (show Rd wr wr.heap.size Ar (prsV (nodP bs)) from Rd.own HOWN.out)
      have HA : Hid (∀ y ∈ nodP bs, prOk y = true) := HALL.out
      obtain ⟨u, hu⟩ : ∃ u, (nodB (nodP bs) == bs) = u := ⟨_, rfl⟩
      have HQ3 : Hid (q = (if u then 0 else 3)) := by
        show _ = _
        rw [← HQ.out, nodQ, HHB.out, List.all_eq_true.2 HA.out, hu]; rfl
      have hE : ((str (nodB (nodP bs))).toList == (str bs).toList) = u := by rw [str_toList, str_toList]; exact hu
      clear hu HOWN HALL
      go_wp2_with fail
      refine (refNodeI_any wr.heap.size Ar cr (nodP bs) wr (nodP_length bs) HRD.out (Nat.le_refl _) HA.out (prsAt_sums _ _ _)).mono ?_
      rintro e w6 ⟨rfl, hb6⟩
      have HB6 := Lib.hid (HB.out.trans (hb6.mono HB.out.size))
      have HRD6 := Lib.hid ((HRD.out.below hb6).mono hb6.size)
      clear hb6 HRD HB
      cases u
      · obtain rfl : q = 3 := HQ3.out
        obtain rfl : l = [] := by rw [← HX.out]; exact nodR_not (by rw [HQ.out]; decide)
        go_wp2
        go_ret2
        exact ⟨none, 0, 0, rfl, rfl, Nat.zero_le _, Rd.nil_, HB6.out⟩
      · obtain rfl : q = 0 := HQ3.out
        obtain rfl : l = nodP bs := by rw [← HX.out, nodR, if_pos HQ.out]
        go_wp2
        go_ret2
        exact ⟨Ar, 15, cr, rfl, nodP_length bs, Nat.le_refl _, HRD6.out, HB6.out⟩

theorem refReadI_any (bs : List UInt8) (q : Int) (l : List Pr) (w : World) (hl : bs.length ≤ 9223372036854775807) (hq : nodQ bs = q) (hx : nodR bs = l) :
    Calls Tryd.prog 17 #[.string (str bs)] w fun e w' => ∃ A' n' c', e = .returned (.tuple #[.slice A' n' c', .int .i64 q]) ∧ l.length = n' ∧ n' ≤ 15 ∧ Rd w' w'.heap.size A' (prsV l) ∧ Below w.heap.size w w' := by
  cases hh : heldB bs with
  | true => exact refReadI_held bs q l w (heldB_128 hh) hh hq hx
  | false =>
    obtain rfl : 5 = q := by rw [← hq, nodQ, hh]; rfl
    obtain rfl : [] = l := by rw [← hx]; exact (nodR_not (by rw [hq]; decide)).symm
    have HH := Lib.hid (refHeld_any bs false w hl hh)
    clear hl hh hq hx
    go_enter Tryd.func17, Tryd.ntmps17
    go_wp2_with fail
    refine HH.out.mono ?_
    rintro e w1 ⟨rfl, hb1⟩
    have HB1 := Lib.hid hb1
    clear hb1 HH
    go_wp2
    go_ret2
    exact ⟨none, 0, 0, rfl, rfl, Nat.zero_le _, Rd.nil_, HB1.out⟩
end Go.Proofs.YtjhnabhieihifaaDoor
