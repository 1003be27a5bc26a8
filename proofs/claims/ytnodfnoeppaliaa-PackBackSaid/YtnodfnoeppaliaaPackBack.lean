/-
  What is packed is taken out as it was, whatever stands behind it; two records of the same widths are the same just if their numbers are, as pack.Pack and pack.Unpack answer. Conditions: none.
-/
import Derived.Test.YtnodfnoeppaliaaAwake
import Derived.Test.YtnodfnoeppaliaaOpenNums
import Derived.Test.YtnodfnoeppaliaaRows
namespace Go.Proofs.Ytnodfnoeppaliaa.packBack
open Go.ChangeShapes Go.WideShapes Go.ChangeAt Go.RowKit
open Go.ChangeMaps (open_string shut_string)
set_option linter.unusedVariables false

/-- few, with the length by a name -/
theorem few_at (B : Nat) (A : Option Addr) (c : Nat) (l : List Num') (n : Nat) (w : World) (hn : (l.take 60).length = n) (hr : Rd w B A (numsV l)) (hc : l.length ≤ c) (hcm : c ≤ maxLen) :
    Calls Try.prog 15 #[.slice A l.length c] w fun e w' => e = .returned (.slice A n c) ∧ w = w' := by
  subst hn
  exact few_any B A c l w hr hc hcm

set_option maxRecDepth 100000 in
set_option maxHeartbeats 2000000 in
theorem refused (A A1 A2 : Option Addr) (c c1 c2 : Nat) (l : List Num') (n1 n2 : Nat) (w : World) (hr : Rd w w.heap.size A (numsV l)) (hc : l.length ≤ c) (hcm : c ≤ maxLen) (hc2 : n2 ≤ c2) (hcm2 : c2 ≤ 9223372036854775807) (hv : ∀ p ∈ l.take 60, p.2 < 18446744073709551616) (q : Int) (hq : codeL (l.take 60) = q) (h0 : q ≠ 0) :
    Calls Try.prog 5 #[.slice A l.length c, .slice A1 n1 c1, .slice A2 n2 c2] w fun e w' => e = .returned (.bool true) ∧ Below w.heap.size w w' := by
  obtain ⟨n, hn⟩ : ∃ n, (l.take 60).length = n := ⟨_, rfl⟩
  have hR : Rd w w.heap.size A (numsV (l.take 60)) := by rw [numsV_take]; exact hr.take _
  have HR := Lib.hid hr
  have HR1 := Lib.hid hR
  have HN := Lib.hid hn
  have HQ := Lib.hid hq
  have H0 := Lib.hid h0
  have HV := Lib.hid hv
  have h0' : (q == 0) = false := by simpa using h0
  have hn60 : n ≤ 60 := by rw [← hn]; simp; omega
  clear hr hR hn hq hv
  by_cases h2 : 60 < n2
  all_goals
    go_enter Try.func5, Try.ntmps5
    go_wp2_with fail
    refine (few_at _ _ _ l n _ HN.out HR.out hc hcm).mono ?_
    rintro e w1 ⟨rfl, rfl⟩
    go_wp2_with fail
    refine (Pack_bad _ _ n c (l.take 60) q _ HN.out HQ.out H0.out HR1.out (Nat.le_refl _) (by omega) HV.out).mono ?_
    rintro e w3 ⟨rfl, hb3⟩
    have HB3 := Lib.hid hb3
    have hsz := hb3.size
    clear hb3
    go_wp2_with fail
    refine (awake_any _).mono ?_
    rintro e w5 ⟨rfl, hb5⟩
    go_wp2
    go_ret
    exact ⟨rfl, HB3.out.trans (hb5.mono hsz)⟩

theorem info_int : (Try.prog.info? 3).map (fun i => (i.zero, i.size, i.bytes)) = some (some (.int .i64 0), 1, 8) := by kernel_rfl
theorem info_num : (Try.prog.info? 42).map (fun i => (i.zero, i.size, i.bytes)) = some (some (.agg #[.int .i64 0, .int .u64 0]), 2, 16) := by kernel_rfl

/-- the three lists that are built, the first k of each -/
structure Built (B : Nat) (L M : List Num') (k : Nat) (v9 v10 v11 : Value) (wr : World) : Prop where
  ws : wr.ownsRow B 3 1 v9 k (((L.map (·.1)).take k).map iv)
  vs : wr.ownsRow B 40 1 v10 k (((L.map (·.2)).take k).map uv)
  ms : wr.ownsRow B 42 2 v11 k (numsV (M.take k))
theorem Built.zero (B : Nat) (L M : List Num') (w : World) : Built B L M 0 (.slice none 0 0) (.slice none 0 0) (.slice none 0 0) w :=
  ⟨by simpa using World.ownsRow_nil w B _ 1, by simpa using World.ownsRow_nil w B _ 1, by simpa [numsV] using World.ownsRow_nil w B _ 2⟩
theorem take_map_snoc {α : Type} (f : Num' → α) (g : α → Value) (L : List Num') (k : Nat) (p : Num') (h : L[k]? = some p) : ((L.map f).take (k + 1)).map g = ((L.map f).take k).map g ++ [g (f p)] := by
  rw [List.take_add_one, List.getElem?_map, h]; simp
theorem numsV_snoc (M : List Num') (k : Nat) (p : Num') (h : M[k]? = some p) : numsV (M.take (k + 1)) = numsV (M.take k) ++ [iv p.1, uv p.2] := by
  rw [List.take_add_one, h, numsV_append]; rfl

set_option maxRecDepth 100000 in
set_option maxHeartbeats 8000000 in
theorem good (A A1 A2 : Option Addr) (c c1 c2 : Nat) (l L : List Num') (os : List Nat) (Bh : List UInt8) (n n2 m2 : Nat) (w : World) (hL : l.take 60 = L) (hn : L.length = n) (hr : Rd w w.heap.size A (numsV l)) (hR : Rd w w.heap.size A (numsV L)) (hc : l.length ≤ c) (hcm : c ≤ maxLen)
    (hr1 : Rd w w.heap.size A1 (os.map uv)) (ho : ∀ v ∈ os, v < 18446744073709551616) (hcut : m2 = 60 ∧ 60 < n2 ∨ m2 = n2 ∧ n2 ≤ 60) (hm2 : Bh.length = m2) (hr2 : Rd w w.heap.size A2 (Bh.map bv)) (hc2 : n2 ≤ c2) (hcm2 : c2 ≤ 9223372036854775807)
    (hv : ∀ p ∈ L, p.2 < 18446744073709551616) (hok : ∀ p ∈ L, okN p = true) (hol : os.length ≤ 9223372036854775807) :
    Calls Try.prog 5 #[.slice A l.length c, .slice A1 os.length c1, .slice A2 n2 c2] w fun e w' => e = .returned (.bool true) ∧ Below w.heap.size w w' := by
  obtain ⟨i3, hi3, hz3, hs3, hy3⟩ := info_parts info_int
  obtain ⟨i4, hi4, hz4, hs4, hy4⟩ := info_parts info_u64
  obtain ⟨i5, hi5, hz5, hs5, hy5⟩ := info_parts info_num
  obtain ⟨i1, hi1, hz1, hs1, hy1⟩ := info_parts info_u8
  have I3 := Lib.hid (And.intro hi3 (And.intro hz3 (And.intro hs3 hy3)))
  have I4 := Lib.hid (And.intro hi4 (And.intro hz4 (And.intro hs4 hy4)))
  have I5 := Lib.hid (And.intro hi5 (And.intro hz5 (And.intro hs5 hy5)))
  have I1 := Lib.hid (And.intro hi1 (And.intro hz1 (And.intro hs1 hy1)))
  clear hi3 hz3 hs3 hy3 hi4 hz4 hs4 hy4 hi5 hz5 hs5 hy5 hi1 hz1 hs1 hy1
  obtain ⟨rl, hrl⟩ : ∃ rl, (recs L).length = rl := ⟨_, rfl⟩
  have hrl8 : rl ≤ 480 := by
    have h1 := recs_len L hok
    have h2 : L.length ≤ 60 := by rw [← hL]; simp; omega
    omega
  have hn60 : n ≤ 60 := by rw [← hn, ← hL]; simp; omega
  have HLN := Lib.hid hn
  have HL60 : Hid ((l.take 60).length = n) := by show _ = _; rw [hL]; exact hn
  have HR := Lib.hid hr
  have HR' := Lib.hid hR
  have HR1 := Lib.hid hr1
  have HR2 := Lib.hid hr2
  have HM2 := Lib.hid hm2
  have HRL := Lib.hid hrl
  have HV := Lib.hid hv
  have HOK := Lib.hid hok
  have HO := Lib.hid ho
  have HC0 := Lib.hid ((codeL_zero L).2 hok)
  have HOL := Lib.hid hol
  clear hL hn hr hR hr1 hr2 hm2 hrl hv hok ho hol
  rcases hcut with ⟨rfl, h2⟩ | ⟨rfl, h2⟩
  all_goals
    go_enter Try.func5, Try.ntmps5
    go_wp2_with fail
    refine (few_at _ _ _ l n _ HL60.out HR.out hc hcm).mono ?_
    rintro e w1 ⟨rfl, rfl⟩
    go_wp2_with fail
    refine (Pack_ok _ _ n c L (recs L) rl _ HLN.out HC0.out rfl HRL.out HR'.out (Nat.le_refl _) (by omega) HV.out).mono ?_
    rintro e w3 ⟨Ab, cb, rfl, hcb, hcbm, rb, _, hb3⟩
    have HB3 := Lib.hid hb3
    have hsz3 := hb3.size
    have RB := Lib.hid rb
    clear hb3 rb
    go_wp2
    go_loopw [9, 10, 11, 12] (fun v9 v10 v11 i wr => ∃ k : Nat, k ≤ n ∧ i = .int .i64 k ∧ Built w3.heap.size L (swap L os) k v9 v10 v11 wr ∧ Hid (Below w3.heap.size w3 wr)) (fun _ _ _ i _ => n - (intOf i).toNat)
    case atStart => exact ⟨0, Nat.zero_le _, rfl, Built.zero _ _ _ _, Below.refl _ _⟩
    case round =>
      obtain ⟨k, hk, rfl, hB, hb⟩ := hrel
      have hszr := hb.out.size
      by_cases hlt : k < n
      · obtain ⟨p, hp⟩ : ∃ p, L[k]? = some p := ⟨_, List.getElem?_eq_getElem (by rw [HLN.out]; exact hlt)⟩
        obtain ⟨b, o, hA, hbB, hcells⟩ := HR'.out.plain (by rw [numsV_length, HLN.out]; omega)
        subst hA
        obtain ⟨q0, q1⟩ := numsV_get L k p hp
        have hcl0 := hcells _ _ q0
        have hcl1 := hcells _ _ q1
        rw [← Nat.add_assoc] at hcl1
        have hkeep : Hid (∀ W, Below w3.heap.size w3 W → W.cell? ⟨b, o + k * 2, none⟩ = some (.int .i64 p.1) ∧ W.cell? ⟨b, o + k * 2 + 1, none⟩ = some (.int .u64 (p.2 : Int))) := fun W h => by
          have hh := HB3.out.trans (h.mono hsz3)
          exact ⟨(hh.cell hbB).trans hcl0, (hh.cell hbB).trans hcl1⟩
        obtain ⟨cc0, cc1⟩ := hkeep.out wr hb.out
        have HP := Lib.hid hp
        clear hcells q0 q1 hcl0 hcl1 hp
        have HB := Lib.hid hB
        clear hB
        go_wp2_with (at_builtin; refine wpList_append_own _ rfl _ _ 23 rfl w3.heap.size 3 i3 (.int .i64 0) 1 8 Try.underlying23 I3.out.1 I3.out.2.1 I3.out.2.2.1 I3.out.2.2.2 rfl (by decide) _ _ _ rfl (HB.out.ws.alloc _) ⟨wr.heap.size, 0, none⟩ 1 1 [iv p.1] rfl rfl ?d1 ?d2 ?d3 ?d4 ?d5 ?_)
        case d1 =>
          intro j u hj
          match j, hj with
          | 0, hj => simp at hj; subst hj; simp [Addr.add, iv]
        case d2 => intro u hu; simp at hu; subst hu; rfl
        case d3 => unfold maxLen; omega
        case d4 => omega
        case d5 => simp; omega
        intro v9 wa hown hg _
        have hba : Hid (Below w3.heap.size w3 wa) := (hb.out.alloc hszr _).grown hg (by simp; omega) (fun g hg => (HB.out.ws.lt g hg).1)
        have hws : Hid (wa.ownsRow w3.heap.size 3 1 v9 (k + 1) (((L.map (·.1)).take (k + 1)).map iv)) := by
          show World.ownsRow _ _ _ _ _ _ _
          rw [take_map_snoc _ _ L k p HP.out]; simpa using hown
        have hvs : Hid (wa.ownsRow w3.heap.size 40 1 u10 k (((L.map (·.2)).take k).map uv)) := (HB.out.vs.alloc _).kept hg (own_ne HB.out.vs HB.out.ws (by decide))
        have hms : Hid (wa.ownsRow w3.heap.size 42 2 u11 k (numsV ((swap L os).take k))) := (HB.out.ms.alloc _).kept hg (own_ne HB.out.ms HB.out.ws (by decide))
        have hsza := hba.out.size
        obtain ⟨ca0, ca1⟩ := hkeep.out wa hba.out
        clear hown hg cc0 cc1 HB hb
        go_wp2_with (at_builtin; refine wpList_append_own _ rfl _ _ 24 rfl w3.heap.size 40 i4 (.int .u64 0) 1 8 Try.underlying24 I4.out.1 I4.out.2.1 I4.out.2.2.1 I4.out.2.2.2 rfl (by decide) _ _ _ rfl (hvs.out.alloc _) ⟨wa.heap.size, 0, none⟩ 1 1 [uv p.2] rfl rfl ?e1 ?e2 ?e3 ?e4 ?e5 ?_)
        case e1 =>
          intro j u hj
          match j, hj with
          | 0, hj => simp at hj; subst hj; simp [Addr.add, uv]
        case e2 => intro u hu; simp at hu; subst hu; rfl
        case e3 => unfold maxLen; omega
        case e4 => omega
        case e5 => simp; omega
        intro v10 wb hown hg _
        have hbb : Hid (Below w3.heap.size w3 wb) := (hba.out.alloc hsza _).grown hg (by simp; omega) (fun g hg => (hvs.out.lt g hg).1)
        have hws2 : Hid (wb.ownsRow w3.heap.size 3 1 v9 (k + 1) (((L.map (·.1)).take (k + 1)).map iv)) := (hws.out.alloc _).kept hg (own_ne hws.out hvs.out (by decide))
        have hvs2 : Hid (wb.ownsRow w3.heap.size 40 1 v10 (k + 1) (((L.map (·.2)).take (k + 1)).map uv)) := by
          show World.ownsRow _ _ _ _ _ _ _
          rw [take_map_snoc _ _ L k p HP.out]; simpa using hown
        have hms2 : Hid (wb.ownsRow w3.heap.size 42 2 u11 k (numsV ((swap L os).take k))) := (hms.out.alloc _).kept hg (own_ne hms.out hvs.out (by decide))
        have hszb := hbb.out.size
        obtain ⟨cb0, cb1⟩ := hkeep.out wb hbb.out
        have hsw := Lib.hid (swap_get L os k p HP.out)
        clear hown hg ca0 ca1 hws hvs hms hba
        by_cases hko : k < os.length
        · obtain ⟨ad1, hA1, hadB, hc1⟩ := HR1.out k (uv os[k]) (by simp [hko])
          subst hA1
          have hsn : numsV ((swap L os).take (k + 1)) = numsV ((swap L os).take k) ++ [iv p.1, uv os[k]] := by
            rw [numsV_snoc _ k _ hsw.out, List.getElem?_eq_getElem hko]; rfl
          have HSN := Lib.hid hsn
          obtain ⟨y, hy⟩ : ∃ y : Int, y = (os[k] : Int) := ⟨_, rfl⟩
          have huy : uv os[k] = .int .u64 y := by unfold uv; rw [hy]
          have hc1' : wb.cell? (ad1.add k) = some (.int .u64 y) := by
            rw [(HB3.out.trans (hbb.out.mono hsz3)).cell (by rw [block_add]; exact hadB), hc1, huy]
          have HUY := Lib.hid huy
          have hal := World.block_lt_of_cell? wb _ hc1'
          clear hsn hy huy hc1
          go_wp2_with (at_builtin; refine wpList_append_own _ rfl _ _ 37 rfl w3.heap.size 42 i5 (.agg #[.int .i64 0, .int .u64 0]) 2 16 Try.underlying37 I5.out.1 I5.out.2.1 I5.out.2.2.1 I5.out.2.2.2 rfl (by decide) _ _ _ rfl ((hms2.out.alloc _).alloc _) ⟨wb.heap.size + 1, 0, none⟩ 1 1 [.int .i64 p.1, .int .u64 y] rfl rfl ?g1 ?g2 ?g3 ?g4 ?g5 ?_)
          case g1 =>
            intro j u hj
            match j, hj with
            | 0, hj => simp at hj; subst hj; rw [add_plain]; simp
            | 1, hj => simp at hj; subst hj; rw [add_plain]; simp
          case g2 => intro u hu; simp at hu; rcases hu with rfl | rfl <;> rfl
          case g3 => unfold maxLen; omega
          case g4 => omega
          case g5 => simp; omega
          intro v11 wc hown hg _
          have hbc : Hid (Below w3.heap.size w3 wc) := ((hbb.out.alloc hszb _).alloc (by simp; omega) _).grown hg (by simp; omega) (fun g hg => (hms2.out.lt g hg).1)
          have hB1 : Built w3.heap.size L (swap L os) (k + 1) v9 v10 v11 wc :=
            ⟨((hws2.out.alloc _).alloc _).kept hg (own_ne hws2.out hms2.out (by decide)), ((hvs2.out.alloc _).alloc _).kept hg (own_ne hvs2.out hms2.out (by decide)), by rw [HSN.out, HUY.out]; exact hown⟩
          have HB1 := Lib.hid hB1
          clear hown hg hB1 cb0 cb1
          go_wp2
          go_roundw
          case rel => exact ⟨k + 1, by omega, by go_num, HB1.out, hbc⟩
          case measure => simp [intOf]; omega
        · have hsn : numsV ((swap L os).take (k + 1)) = numsV ((swap L os).take k) ++ [iv p.1, uv p.2] := by
            rw [numsV_snoc _ k _ hsw.out, List.getElem?_eq_none (by omega)]; rfl
          have HSN := Lib.hid hsn
          clear hsn
          go_wp2_with (at_builtin; refine wpList_append_own _ rfl _ _ 37 rfl w3.heap.size 42 i5 (.agg #[.int .i64 0, .int .u64 0]) 2 16 Try.underlying37 I5.out.1 I5.out.2.1 I5.out.2.2.1 I5.out.2.2.2 rfl (by decide) _ _ _ rfl ((hms2.out.alloc _).alloc _) ⟨wb.heap.size + 1, 0, none⟩ 1 1 [.int .i64 p.1, .int .u64 (p.2 : Int)] rfl rfl ?k1 ?k2 ?k3 ?k4 ?k5 ?_)
          case k1 =>
            intro j u hj
            match j, hj with
            | 0, hj => simp at hj; subst hj; rw [add_plain]; simp
            | 1, hj => simp at hj; subst hj; rw [add_plain]; simp
          case k2 => intro u hu; simp at hu; rcases hu with rfl | rfl <;> rfl
          case k3 => unfold maxLen; omega
          case k4 => omega
          case k5 => simp; omega
          intro v11 wc hown hg _
          have hbc : Hid (Below w3.heap.size w3 wc) := ((hbb.out.alloc hszb _).alloc (by simp; omega) _).grown hg (by simp; omega) (fun g hg => (hms2.out.lt g hg).1)
          have hB1 : Built w3.heap.size L (swap L os) (k + 1) v9 v10 v11 wc :=
            ⟨((hws2.out.alloc _).alloc _).kept hg (own_ne hws2.out hms2.out (by decide)), ((hvs2.out.alloc _).alloc _).kept hg (own_ne hvs2.out hms2.out (by decide)), by rw [HSN.out]; exact hown⟩
          have HB1 := Lib.hid hB1
          clear hown hg hB1 cb0 cb1
          go_wp2
          go_roundw
          case rel => exact ⟨k + 1, by omega, by go_num, HB1.out, hbc⟩
          case measure => simp [intOf]; omega
      · obtain rfl : k = n := by omega
        obtain ⟨A9, c9, h9, h9c, h9m⟩ := own_len hB.ws
        obtain ⟨A10, c10, h10, h10c, h10m⟩ := own_len hB.vs
        obtain ⟨A11, c11, h11, h11c, h11m⟩ := own_len hB.ms
        subst h9 h10 h11
        have hlL := HLN.out
        have r9 : Rd wr wr.heap.size A9 ((L.map (·.1)).map iv) := by
          have h := Rd.own hB.ws
          rwa [List.take_of_length_le (by simp; omega)] at h
        have r10 : Rd wr wr.heap.size A10 ((L.map (·.2)).map uv) := by
          have h := Rd.own hB.vs
          rwa [List.take_of_length_le (by simp; omega)] at h
        have r11 : Rd wr wr.heap.size A11 (numsV (swap L os)) := by
          have h := Rd.own hB.ms
          rwa [List.take_of_length_le (by rw [swap_length]; omega)] at h
        have R9 := Lib.hid r9
        have R10 := Lib.hid r10
        have R11 := Lib.hid r11
        have hemp : Hid ((wr.alloc (.cells #[] 5)).ownsRow wr.heap.size 5 1 (.slice (some ⟨wr.heap.size, 0, none⟩) 0 0) 0 []) := World.ownsRow_made wr #[] 0 (Nat.le_refl _) (by simp) rfl
        have RBr := Lib.hid ((RB.out.below hb.out).alloc hszr (.cells #[] 5))
        clear hB hlL r9 r10 r11
        go_wp2_with (at_builtin; refine wpList_append_rd _ rfl (.tmp 80) (.tmp 81) 22 rfl wr.heap.size 5 i1 (.int .u8 0) 1 1 Try.underlying22 I1.out.1 I1.out.2.1 I1.out.2.2.1 I1.out.2.2.2 rfl (by decide) _ _ _ rfl hemp.out w3.heap.size Ab rl cb ((recs L).map bv) rfl ?l1 RBr.out ?l2 ?l3 ?l4 ?l5 ?_)
        case l1 => simp; exact HRL.out
        case l2 => intro u hu; simp at hu; obtain ⟨x, _, rfl⟩ := hu; rfl
        case l3 => unfold maxLen; omega
        case l4 => omega
        case l5 => simp
        intro v5 wc hown5 hg5
        have hbw5 : Hid (Below wr.heap.size wr wc) := ((Below.refl wr.heap.size wr).alloc (Nat.le_refl _) _).grown hg5 (by simp) (fun g hg => by simp [Value.ownBlock] at hg; omega)
        have HO5 := Lib.hid hown5
        have hszc := hbw5.out.size
        have RA2 := Lib.hid (((HR2.out.below HB3.out).below (hb.out.mono hsz3)).below (hbw5.out.mono (Nat.le_trans hsz3 hszr)))
        clear hown5 hg5 hemp RBr
        go_wp2_with (at_builtin; refine wpList_append_rd _ rfl (.tmp 82) (.tmp 83) 22 rfl wr.heap.size 5 i1 (.int .u8 0) 1 1 Try.underlying22 I1.out.1 I1.out.2.1 I1.out.2.2.1 I1.out.2.2.2 rfl (by decide) _ _ _ rfl HO5.out w.heap.size A2 _ c2 (Bh.map bv) rfl ?m1 RA2.out ?m2 ?m3 ?m4 hszc ?_)
        case m1 => simp; exact HM2.out
        case m2 => intro u hu; simp at hu; obtain ⟨x, _, rfl⟩ := hu; rfl
        case m3 => unfold maxLen; omega
        case m4 => omega
        intro v6 wd hown6 hg6
        have hbwd : Hid (Below wr.heap.size wr wd) := hbw5.out.grown hg6 hszc (fun g hg => (HO5.out.lt g hg).1)
        obtain ⟨A6, c6, h6, h6c, h6m⟩ := own_len hown6
        subst h6
        have R6 := Lib.hid (Rd.own hown6)
        have hszd := hbwd.out.size
        have hun : Hid (∀ z, rl ≤ z → unpCode (L.map (·.1)) z = 0) := fun z hz => (unpCode_zero _ _).2 ⟨all_okW L HOK.out, by rw [tot_recs, HRL.out]; exact hz⟩
        have hnr : Hid (nums (recs L ++ Bh) (L.map (·.1)) = L.map (·.2)) := nums_recs L Bh HOK.out
        have hlen6 : Hid (∀ z, Bh.length = z → (recs L ++ Bh).length = rl + z) := fun z hz => by rw [List.length_append, HRL.out, hz]
        have R6' : Hid (Rd wd wd.heap.size A6 ((recs L ++ Bh).map bv)) := by show Rd _ _ _ _; rw [List.map_append]; exact R6.out
        have R9d := Lib.hid ((R9.out.below hbwd.out).mono hszd)
        unfold maxLen at h6m
        clear hown6 hg6 HO5
        go_wp2_with fail
        refine (Unpack_ok _ _ _ _ _ _ _ (recs L ++ Bh) (L.map (·.1)) (L.map (·.2)) _ (hlen6.out _ HM2.out) (by simp; exact HLN.out) (hun.out _ (by omega)) hnr.out R6'.out R9d.out (Nat.le_refl _) h6c (by unfold maxLen; omega) (by omega)).mono ?_
        rintro e we ⟨A12, c12, rfl, h12c, h12m, r12, hbe⟩
        have HBe := Lib.hid (hbwd.out.trans (hbe.mono hszd))
        have R12 := Lib.hid r12
        have hsze := HBe.out.size
        have R11e := Lib.hid ((R11.out.below HBe.out).mono hsze)
        have hMv : Hid (∀ p ∈ swap L os, p.2 < 18446744073709551616) := swap_bound L os HV.out HO.out
        have hML : Hid ((swap L os).length = k) := by show _ = _; rw [swap_length]; exact HLN.out
        clear hbe r12 R6 R6' R9d
        by_cases hcm0 : codeL (swap L os) = 0
        · have HCM := Lib.hid hcm0
          clear hcm0
          go_wp2_with fail
          refine (Pack_ok _ _ k c11 (swap L os) (recs (swap L os)) _ _ hML.out HCM.out rfl rfl R11e.out (Nat.le_refl _) (by omega) hMv.out).mono ?_
          rintro e wf ⟨A13, c13, rfl, h13c, h13m, r13, _, hbf⟩
          have HBf := Lib.hid (HBe.out.trans (hbf.mono hsze))
          have R13 := Lib.hid r13
          have hszf := HBf.out.size
          have R12f := Lib.hid ((R12.out.below hbf).mono hbf.size)
          clear hbf r13
          have hszw : w.heap.size ≤ wf.heap.size := Nat.le_trans hsz3 (Nat.le_trans hszr hszf)
          have HBw := Lib.hid ((HB3.out.trans (hb.out.mono hsz3)).trans (HBf.out.mono (Nat.le_trans hsz3 hszr)))
          have R11f := Lib.hid (R11.out.below HBf.out)
          have RLf := Lib.hid (HR'.out.below HBw.out)
          have RBf := Lib.hid ((RB.out.below hb.out).below (HBf.out.mono hszr))
          have R10f := Lib.hid (R10.out.below HBf.out)
          clear HBe R12 R11 R10 R9 RB RA2 hbwd hbw5
          go_wp2
          go_loopw [18, 19] (fun v i wx => ∃ (j nq : Nat) (al : Bool), j ≤ k ∧ i = .int .i64 j ∧ v = .bool al ∧ Hid (alikeTo (swap L os) L j = al) ∧ wx = wf.drewN nq) (fun _ i _ => k - (intOf i).toNat)
          case atStart => exact ⟨0, 0, true, Nat.zero_le _, rfl, rfl, rfl, rfl⟩
          case round =>
            obtain ⟨j, nq, al, hj, rfl, rfl, hal, rfl⟩ := hrel
            by_cases hlt : j < k
            · obtain ⟨p, hp⟩ : ∃ p, L[j]? = some p := ⟨_, List.getElem?_eq_getElem (by rw [HLN.out]; exact hlt)⟩
              have hM := swap_get L os j p hp
              obtain ⟨b, o, hA, _, hcells⟩ := RLf.out.plain (by rw [numsV_length, HLN.out]; omega)
              subst hA
              obtain ⟨b', o', hA', _, hcells'⟩ := R11f.out.plain (by rw [numsV_length, hML.out]; omega)
              subst hA'
              have hcl := hcells _ _ (numsV_get L j p hp).2
              have hcm := hcells' _ _ (numsV_get (swap L os) j _ hM).2
              rw [← Nat.add_assoc] at hcl hcm
              have hsu := alikeTo_succ (swap L os) L j _ _ hM hp
              simp only at hcm hsu
              obtain ⟨v', hv'⟩ : ∃ v', v' = (os[j]?).getD p.2 := ⟨_, rfl⟩
              rw [← hv'] at hcm hsu
              obtain ⟨y, hy⟩ : ∃ y : Int, y = (v' : Int) := ⟨_, rfl⟩
              obtain ⟨x, hx⟩ : ∃ x : Int, x = (p.2 : Int) := ⟨_, rfl⟩
              rw [← hy] at hcm
              rw [← hx] at hcl
              have hyx : (v' == p.2) = (y == x) := by rw [hy, hx, Bool.eq_iff_iff]; simp [Int.ofNat_inj]
              rw [hyx, hal.out] at hsu
              have HSU := Lib.hid hsu
              have hlti : (j : Int) < (k : Int) := by omega
              clear hp hM hcells hcells' hsu hv' hy hx hyx
              cases al
              · go_wp2
                go_quiet (fail)
                go_wp2
                go_roundw
                case rel => exact ⟨j + 1, _, _, by omega, by go_num, rfl, HSU.out, rfl⟩
                case measure => simp [intOf]; omega
              · go_wp2
                go_quiet (fail)
                go_wp2
                go_roundw
                case rel => exact ⟨j + 1, _, _, by omega, by go_num, rfl, HSU.out, rfl⟩
                case measure => simp [intOf]; omega
            · obtain rfl : j = k := by omega
              have hcmp : ((str (recs (swap L os))).toList == (str (recs L)).toList) = al := by
                rw [str_toList, str_toList, ← hal.out, ← hML.out, Bool.eq_iff_iff, alikeTo_all _ _ (by rw [swap_length]), beq_iff_eq]
                refine ⟨fun h => recs_inj _ _ (swap_fst L os) ((codeL_zero _).1 HCM.out) HOK.out h, fun h => ?_⟩
                have : swap L os = L := by
                  apply List.ext_getElem (by rw [swap_length])
                  intro i h1 h2
                  have e1 := congrArg (fun t => t[i]?) (swap_fst L os)
                  have e2 := congrArg (fun t => t[i]?) h
                  simp only [List.getElem?_map, List.getElem?_eq_getElem h1, List.getElem?_eq_getElem h2, Option.map_some, Option.some.injEq] at e1 e2
                  exact Prod.ext e1 e2
                rw [this]
              have hcv1 := fun i => run_conv (P := Try.prog) 22 5 9 Try.underlying22 Try.underlying5 under9 (w := wf.drewN i) (bs := recs (swap L os)) _ c13 rfl (R13.out.drewN i)
              have hcv2 := fun i => run_conv (P := Try.prog) 22 5 9 Try.underlying22 Try.underlying5 under9 (w := wf.drewN i) (bs := recs L) _ cb HRL.out (RBf.out.drewN i)
              have HSM := Lib.hid (R12f.out.mono (Nat.le_refl _))
              go_wp2_with (go_at_call 10; refine (same_yes wf.heap.size _ _ j _ _ (L.map (·.2)) _ (by simp; exact HLN.out) (by omega) (R12f.out.drewN nq) ((R10f.out.mono hszf).drewN nq)).mono ?_; rintro e w4 ⟨rfl, i4', rfl⟩)
              refine (awake_any _).mono ?_
              rintro e w5 ⟨rfl, hb5⟩
              go_wp2
              go_ret
              exact ⟨rfl, (HBw.out.drewN' _).trans (hb5.mono hszw)⟩
        · have hcode : Hid (∃ q, codeL (swap L os) = q ∧ q ≠ 0 ∧ (q == 0) = false) := ⟨_, rfl, hcm0, by simpa using hcm0⟩
          obtain ⟨q, hq, hq0, hqb⟩ := hcode.out
          have HCM := Lib.hid hq
          have HQ0 := Lib.hid hq0
          clear hcm0 hcode hq hq0
          go_wp2_with fail
          refine (Pack_bad _ _ k c11 (swap L os) q _ hML.out HCM.out HQ0.out R11e.out (Nat.le_refl _) (by omega) hMv.out).mono ?_
          rintro e wf ⟨rfl, hbf⟩
          have HBf := Lib.hid (HBe.out.trans (hbf.mono hsze))
          have hszf := HBf.out.size
          have R12f := Lib.hid ((R12.out.below hbf).mono hbf.size)
          clear hbf
          have hszw : w.heap.size ≤ wf.heap.size := Nat.le_trans hsz3 (Nat.le_trans hszr hszf)
          have HBw := Lib.hid ((HB3.out.trans (hb.out.mono hsz3)).trans (HBf.out.mono (Nat.le_trans hsz3 hszr)))
          have R11f := Lib.hid (R11.out.below HBf.out)
          have RLf := Lib.hid (HR'.out.below HBw.out)
          have RBf := Lib.hid ((RB.out.below hb.out).below (HBf.out.mono hszr))
          have R10f := Lib.hid (R10.out.below HBf.out)
          clear HBe R12 R11 R10 R9 RB RA2 hbwd hbw5
          go_wp2
          go_loopw [18, 19] (fun v i wx => ∃ (j nq : Nat) (al : Bool), j ≤ k ∧ i = .int .i64 j ∧ v = .bool al ∧ Hid (alikeTo (swap L os) L j = al) ∧ wx = wf.drewN nq) (fun _ i _ => k - (intOf i).toNat)
          case atStart => exact ⟨0, 0, true, Nat.zero_le _, rfl, rfl, rfl, rfl⟩
          case round =>
            obtain ⟨j, nq, al, hj, rfl, rfl, hal, rfl⟩ := hrel
            by_cases hlt : j < k
            · obtain ⟨p, hp⟩ : ∃ p, L[j]? = some p := ⟨_, List.getElem?_eq_getElem (by rw [HLN.out]; exact hlt)⟩
              have hM := swap_get L os j p hp
              obtain ⟨b, o, hA, _, hcells⟩ := RLf.out.plain (by rw [numsV_length, HLN.out]; omega)
              subst hA
              obtain ⟨b', o', hA', _, hcells'⟩ := R11f.out.plain (by rw [numsV_length, hML.out]; omega)
              subst hA'
              have hcl := hcells _ _ (numsV_get L j p hp).2
              have hcm := hcells' _ _ (numsV_get (swap L os) j _ hM).2
              rw [← Nat.add_assoc] at hcl hcm
              have hsu := alikeTo_succ (swap L os) L j _ _ hM hp
              simp only at hcm hsu
              obtain ⟨v', hv'⟩ : ∃ v', v' = (os[j]?).getD p.2 := ⟨_, rfl⟩
              rw [← hv'] at hcm hsu
              obtain ⟨y, hy⟩ : ∃ y : Int, y = (v' : Int) := ⟨_, rfl⟩
              obtain ⟨x, hx⟩ : ∃ x : Int, x = (p.2 : Int) := ⟨_, rfl⟩
              rw [← hy] at hcm
              rw [← hx] at hcl
              have hyx : (v' == p.2) = (y == x) := by rw [hy, hx, Bool.eq_iff_iff]; simp [Int.ofNat_inj]
              rw [hyx, hal.out] at hsu
              have HSU := Lib.hid hsu
              have hlti : (j : Int) < (k : Int) := by omega
              clear hp hM hcells hcells' hsu hv' hy hx hyx
              cases al
              · go_wp2
                go_quiet (fail)
                go_wp2
                go_roundw
                case rel => exact ⟨j + 1, _, _, by omega, by go_num, rfl, HSU.out, rfl⟩
                case measure => simp [intOf]; omega
              · go_wp2
                go_quiet (fail)
                go_wp2
                go_roundw
                case rel => exact ⟨j + 1, _, _, by omega, by go_num, rfl, HSU.out, rfl⟩
                case measure => simp [intOf]; omega
            · obtain rfl : j = k := by omega
              have HSM := Lib.hid (R12f.out.mono (Nat.le_refl _))
              go_wp2_with (go_at_call 10; refine (same_yes wf.heap.size _ _ j _ _ (L.map (·.2)) _ (by simp; exact HLN.out) (by omega) (R12f.out.drewN nq) ((R10f.out.mono hszf).drewN nq)).mono ?_; rintro e w4 ⟨rfl, i4', rfl⟩)
              refine (awake_any _).mono ?_
              rintro e w5 ⟨rfl, hb5⟩
              go_wp2
              go_ret
              exact ⟨rfl, (HBw.out.drewN' _).trans (hb5.mono hszw)⟩

theorem walk (A A1 A2 : Option Addr) (c c1 c2 : Nat) (l : List Num') (os : List Nat) (bs : List UInt8) (w : World) (hr : Rd w w.heap.size A (numsV l)) (hr1 : Rd w w.heap.size A1 (os.map uv)) (hr2 : Rd w w.heap.size A2 (bs.map bv)) (hc : l.length ≤ c) (hcm : c ≤ maxLen) (hv : ∀ p ∈ l, p.2 < 18446744073709551616)
    (hc1 : os.length ≤ c1) (hcm1 : c1 ≤ maxLen) (ho : ∀ v ∈ os, v < 18446744073709551616) (hc2 : bs.length ≤ c2) (hcm2 : c2 ≤ maxLen) :
    Calls Try.prog 5 #[.slice A l.length c, .slice A1 os.length c1, .slice A2 bs.length c2] w fun e w' => e = .returned (.bool true) ∧ Below w.heap.size w w' := by
  have hv' : ∀ p ∈ l.take 60, p.2 < 18446744073709551616 := fun p hp => hv p (List.mem_of_mem_take hp)
  have hcm1' := hcm1
  have hcm2' := hcm2
  unfold maxLen at hcm1' hcm2'
  by_cases h : codeL (l.take 60) = 0
  · have hlen : (bs.take 60).length = 60 ∧ 60 < bs.length ∨ (bs.take 60).length = bs.length ∧ bs.length ≤ 60 := by
      rw [List.length_take]; omega
    exact good A A1 A2 c c1 c2 l (l.take 60) os (bs.take 60) _ bs.length _ w rfl rfl hr (by rw [numsV_take]; exact hr.take _) hc hcm hr1 ho hlen rfl (by rw [List.map_take]; exact hr2.take _) hc2 hcm2' hv' ((codeL_zero _).1 h) (by omega)
  · exact refused A A1 A2 c c1 c2 l os.length bs.length w hr hc hcm hc2 hcm2' hv' _ rfl h

set_option maxRecDepth 100000 in
theorem lifted (os : Os) (started : os.Started) (H : Type) (enc : TypeId × Value → H) :
    ReturnsInHanded {} Try.checked os 5 .any (Rows.packBackSpec.pre6 enc Try.prog Try.f5 Rows.packBackRow.domain false) (Rows.packBackSpec.post enc Try.prog Try.f5 false true false false) := by
  refine returnsInHanded_of_change (C := Try.checked) own started (by kernel_rfl) Try.func5
    (ChangeSpec.witness6 (enc := enc) (C := Try.checked) false ⟨#[], #[.slice none 0 0, .slice none 0 0, .slice none 0 0], []⟩ 8 (by kernel_rfl) (by kernel_rfl) (by kernel_rfl) (by kernel_rfl)) ?_
  intro W base args ds gs before hval0 hW hcnd _
  have hval : ∀ (j : Nat) t v, Try.f5.params[j]? = some t → args[j]? = some v → Value.okWide Try.prog W .any base t v := hval0
  have hW' := hW
  obtain ⟨p, q, hA0, hV, rfl, hfz, hnd⟩ := hW
  have hA : DataW.TrodAll enc Try.prog W 0 (fun _ => true) true Try.f5.params.toList args.toList ds p := hA0
  rw [Try.params5] at hA hval
  obtain ⟨v0, vs0, d0, ds0, p0, q0, hargs, rfl, rfl, h0, r0⟩ := trodAll_cons hA
  obtain ⟨v1, vs1, d1, ds1, p1, q1, rfl, rfl, rfl, h1, r1⟩ := trodAll_cons r0
  obtain ⟨v2, vs2, d2, ds2, p2, q2, rfl, rfl, rfl, h2, r2⟩ := trodAll_cons r1
  obtain ⟨rfl, rfl, rfl⟩ := trodAll_nil r2
  obtain rfl : args = #[v0, v1, v2] := by cases args; simp_all
  obtain ⟨rfl, rfl⟩ := trodVars_none hV
  obtain ⟨a0, len0, cap0, rfl⟩ := okWide_slice Try.underlying37 (hval 0 37 v0 rfl rfl)
  have lt0 : ∀ x ∈ p0, x.block < W.heap.size := by obtain ⟨m, hm⟩ := h0; exact DataW.trod_lt m _ _ _ hm
  obtain ⟨x0, rfl, hc0, hm0, hr0, hx0⟩ := nums_in h0
  obtain ⟨a1, len1, cap1, rfl⟩ := okWide_slice Try.underlying24 (hval 1 24 v1 rfl rfl)
  have lt1 : ∀ x ∈ p1, x.block < W.heap.size := by obtain ⟨m, hm⟩ := h1; exact DataW.trod_lt m _ _ _ hm
  obtain ⟨x1, rfl, hc1, hm1, hr1, hx1⟩ := words_in Try.underlying24 Try.underlying40 (by kernel_rfl) h1
  obtain ⟨a2, len2, cap2, rfl⟩ := okWide_slice Try.underlying22 (hval 2 22 v2 rfl rfl)
  have lt2 : ∀ x ∈ p2, x.block < W.heap.size := by obtain ⟨m, hm⟩ := h2; exact DataW.trod_lt m _ _ _ hm
  obtain ⟨x2, rfl, hc2, hm2, hr2⟩ := bytes_in Try.underlying22 Try.underlying5 (by kernel_rfl) h2
  clear hA0 hval0
  refine (walk a0 a1 a2 cap0 cap1 cap2 x0 x1 x2 W hr0 hr1 hr2 hc0 hm0 hx0 hc1 hm1 hx1 hc2 hm2).mono fun e W' ⟨he, bel⟩ => ?_
  subst he
  exact ⟨_, rfl, _, _, _, [], _, [], hW', trodAll_mk1 (shut_bool Try.underlying4 _), (trodAll_cons_mk (Below.trod laidOut (by kernel_rfl) (of_decide_eq_true (by kernel_rfl)) h0 bel lt0) (trodAll_cons_mk (Below.trod laidOut (by kernel_rfl) (of_decide_eq_true (by kernel_rfl)) h1 bel lt1) (trodAll_cons_mk (Below.trod laidOut (by kernel_rfl) (of_decide_eq_true (by kernel_rfl)) h2 bel lt2) trodAll_mk0))), rfl, bel.frame _, fun h => by cases h⟩

theorem over : Rows.packBackRow.holds Try.pinned (OpenSpec.ofChange Rows.packBackSpec) :=
  OpenClaim.holds_of_wide 5 Try.f5 rfl rfl rfl rfl rfl rfl rfl ⟨rfl, rfl, rfl, rfl, rfl⟩ rfl rfl rfl rfl rfl (by kernel_rfl) Try.func5 (by kernel_rfl)
    (of_decide_eq_true (by kernel_rfl)) (by unfold Func.isWrapper; first | (rw [if_pos (by decide +kernel)]; kernel_rfl) | (rw [if_neg (by decide +kernel)]; exact ⟨rfl, rfl⟩))
    (fun os started H enc _ => lifted os started H enc)

theorem proved : Rows.PackBackSaid := over
#print axioms proved
end Go.Proofs.Ytnodfnoeppaliaa.packBack
