/-
  The places of a geometry, in order, have the addresses 1, 2, 3, .., and each address's place is that one. Conditions: none.
-/
import Derived.Test.YtfjcclgambkieaaAddrAll
import Derived.Test.YtfjcclgambkieaaAddrAwake
import Derived.Test.YtfjcclgambkieaaOpenAddr
import Derived.Test.YtfjcclgambkieaaLift
import Derived.Test.YtfjcclgambkieaaRows
import Derived.BigQuiet
import Derived.Deep.QuietTactic
namespace Go.Proofs.Ytfjcclgambkieaa.addrCounts
open Go.ChangeShapes Go.WideShapes Go.ChangeAt Go.RowKit
set_option linter.unusedVariables false

theorem place_of_addr {D L V S a : Int} (hm : mayB D L V S = true) (h1 : 1 ≤ a) (h2 : a ≤ 16 * segsN D V S) :
    placeB D V S (volI D S ((a - 1) / 16)) (segI D S ((a - 1) / 16)) ((a - 1) % 16) = true ∧ addrI D S (volI D S ((a - 1) / 16)) (segI D S ((a - 1) / 16)) ((a - 1) % 16) = a := by
  obtain ⟨m1, m2, m3, m4, m5, m6, m7, m8⟩ := mayB_yes hm
  refine ⟨?_, ?_⟩
  · rw [placeB, inB_mk (vol_lo m7) (vol_hi m5 m7 (by omega)), inB_mk (seg_lo m7 (by omega)) (seg_hi m7), inB_mk (by omega) (by omega)]; rfl
  · unfold addrI; rw [first_vol m7]; omega

set_option maxHeartbeats 1000000 in
theorem walk_bad (D L V S u : Int) (w : World) (hm : mayB D L V S = false) :
    Calls Try.prog 6 #[.agg #[.int .i64 D, .int .i64 L, .int .i64 V, .int .i64 S], .int .u16 u] w fun e w' => e = .returned (.bool true) ∧ Below w.heap.size w w' := by
  have HM := Lib.hid hm
  clear hm
  go_enter Try.func6, Try.ntmps6
  go_wp2_with fail
  have HB0 := Lib.hid (Below.alloc (Below.refl w.heap.size w) (Nat.le_refl _) (.cells #[.int .i64 D, .int .i64 L, .int .i64 V, .int .i64 S] 23))
  with_reducible refine (May_any _ _ _ _ _ _ HM.out).mono ?_
  rintro e w1 ⟨rfl, hb⟩
  have HB1 := Lib.hid (HB0.out.trans (hb.mono HB0.out.size))
  clear hb HB0
  go_wp2_with fail
  with_reducible refine (awake_any _).mono ?_
  rintro e w2 ⟨rfl, hb⟩
  have HB2 := Lib.hid (HB1.out.trans (hb.mono HB1.out.size))
  clear hb
  go_wp2
  go_ret
  exact ⟨rfl, HB2.out⟩

set_option maxRecDepth 100000 in
set_option maxHeartbeats 4000000 in
theorem walk_may (D L V S u : Int) (w : World) (u0 : 0 ≤ u) (u1 : u ≤ 65535) (hm : mayB D L V S = true) :
    Calls Try.prog 6 #[.agg #[.int .i64 D, .int .i64 L, .int .i64 V, .int .i64 S], .int .u16 u] w fun e w' => e = .returned (.bool true) ∧ Below w.heap.size w w' := by
  have HM := Lib.hid hm
  obtain ⟨nb1, nb2⟩ := segsN_bd hm
  have hsa : segsA D L V S = segsN D V S := by unfold segsA; rw [hm]; rfl
  have HSA := Lib.hid hsa
  clear hm hsa
  go_enter Try.func6, Try.ntmps6
  go_wp2_with fail
  have G0 := Lib.hid (Geo.new w 23 D L V S)
  have HB0 := Lib.hid (Below.alloc (Below.refl w.heap.size w) (Nat.le_refl _) (.cells #[.int .i64 D, .int .i64 L, .int .i64 V, .int .i64 S] 23))
  with_reducible refine (May_any _ _ _ _ _ _ HM.out).mono ?_
  rintro e w1 ⟨rfl, hb⟩
  have G1 := Lib.hid (G0.out.up hb)
  have HB1 := Lib.hid (HB0.out.trans (hb.mono HB0.out.size))
  clear hb HB0 G0
  obtain ⟨c0, c1, c2, c3⟩ := G1.out
  go_wp2_with fail
  with_reducible refine (All_any _ _ _ _ _ HM.out).mono ?_
  rintro e w2 ⟨A, n, c, rfl, hn1, hn6, hnc, hcm, hrd, hb⟩
  have HN1 := Lib.hid hn1
  have HRD := Lib.hid hrd
  have G2 := Lib.hid (G1.out.up hb)
  have HB2 := Lib.hid (HB1.out.trans (hb.mono HB1.out.size))
  clear hb HB1 G1 c0 c1 c2 c3 hn1 hrd hcm
  go_wp2_with fail
  go_loopw [6] (fun i wr => ∃ k : Nat, k ≤ n ∧ i = .int .i64 (k : Int) ∧ Hid (Below w2.heap.size w2 wr)) (fun i _ => n - (intOf i).toNat)
  case atStart => exact ⟨0, Nat.zero_le _, rfl, Below.refl _ _⟩
  case round =>
    obtain ⟨k, hk, rfl, HB⟩ := hrel
    by_cases hlt : k < n
    · obtain ⟨b, o, rfl, hbl, hcell⟩ := HRD.out.plain (by rw [plcs_length]; omega)
      have ha2 : (k : Int) + 1 ≤ 16 * segsN D V S := by have := HN1.out; omega
      obtain ⟨hp, ha⟩ := place_of_addr HM.out (a := (k : Int) + 1) (by omega) ha2
      have hin := inB_mk (lo := 1) (hi := 16 * segsN D V S) (n := (k : Int) + 1) (by omega) ha2
      have HIN := Lib.hid hin
      obtain ⟨p0, hp0⟩ : ∃ p, volI D S (((k : Int) + 1 - 1) / 16) = p := ⟨_, rfl⟩
      obtain ⟨p1, hp1⟩ : ∃ p, segI D S (((k : Int) + 1 - 1) / 16) = p := ⟨_, rfl⟩
      obtain ⟨p2, hp2⟩ : ∃ p, ((k : Int) + 1 - 1) % 16 = p := ⟨_, rfl⟩
      have HP0 := Lib.hid hp0
      have HP1 := Lib.hid hp1
      have HP2 := Lib.hid hp2
      rw [hp0, hp1, hp2] at hp ha
      have HP := Lib.hid hp
      have HA := Lib.hid ha
      have hplc : plc D S k = [.int .i64 p0, .int .i64 p1, .int .i64 p2] := by
        unfold plc
        rw [show ((k / 16 : Nat) : Int) = ((k : Int) + 1 - 1) / 16 by omega, show ((k % 16 : Nat) : Int) = ((k : Int) + 1 - 1) % 16 by omega, hp0, hp1, hp2]
      have l0 := hcell (3 * k + 0) (.int .i64 p0) (by rw [plcs_at D S n k 0 hlt (by omega), hplc]; rfl)
      have l1 := hcell (3 * k + 1) (.int .i64 p1) (by rw [plcs_at D S n k 1 hlt (by omega), hplc]; rfl)
      have l2 := hcell (3 * k + 2) (.int .i64 p2) (by rw [plcs_at D S n k 2 hlt (by omega), hplc]; rfl)
      clear hcell hp ha hp0 hp1 hp2 hplc hin ha2
      go_wp2_with fail
      have l0' : w2.cell? ⟨b, o + k * 3, none⟩ = some (.int .i64 p0) := by rw [← l0]; congr 2; omega
      have l1' : w2.cell? ⟨b, o + k * 3 + 1, none⟩ = some (.int .i64 p1) := by rw [← l1]; congr 2; omega
      have l2' : w2.cell? ⟨b, o + k * 3 + 2, none⟩ = some (.int .i64 p2) := by rw [← l2]; congr 2; omega
      have HK : Hid (∀ w', Below w2.heap.size w2 w' → w'.cell? ⟨w.heap.size, 0, none⟩ = some (.int .i64 D) ∧ w'.cell? ⟨w.heap.size, 1, none⟩ = some (.int .i64 L) ∧ w'.cell? ⟨w.heap.size, 2, none⟩ = some (.int .i64 V) ∧ w'.cell? ⟨w.heap.size, 3, none⟩ = some (.int .i64 S)
          ∧ w'.cell? ⟨b, o + k * 3, none⟩ = some (.int .i64 p0) ∧ w'.cell? ⟨b, o + k * 3 + 1, none⟩ = some (.int .i64 p1) ∧ w'.cell? ⟨b, o + k * 3 + 2, none⟩ = some (.int .i64 p2)) := fun w' hb =>
        ⟨(G2.out.up hb).1, (G2.out.up hb).2.1, (G2.out.up hb).2.2.1, (G2.out.up hb).2.2.2, (hb.cell (p := ⟨b, o + k * 3, none⟩) hbl).trans l0', (hb.cell (p := ⟨b, o + k * 3 + 1, none⟩) hbl).trans l1', (hb.cell (p := ⟨b, o + k * 3 + 2, none⟩) hbl).trans l2'⟩
      have HC1 := lift_below w2 fun w' => Of_in D L V S p0 p1 p2 true w' HM.out HP.out
      simp only [if_true] at HC1
      rw [HA.out] at HC1
      have i0 : (0 : Int) ≤ (k : Int) := by omega
      have i1 : (k : Int) < (n : Int) := by omega
      clear l0 l1 l2 l0' l1' l2'
      go_region_held3 (fun w' => w'.cell? ⟨w.heap.size, 0, none⟩ = some (.int .i64 D) ∧ w'.cell? ⟨w.heap.size, 1, none⟩ = some (.int .i64 L) ∧ w'.cell? ⟨w.heap.size, 2, none⟩ = some (.int .i64 V) ∧ w'.cell? ⟨w.heap.size, 3, none⟩ = some (.int .i64 S)
          ∧ w'.cell? ⟨b, o + k * 3, none⟩ = some (.int .i64 p0) ∧ w'.cell? ⟨b, o + k * 3 + 1, none⟩ = some (.int .i64 p1) ∧ w'.cell? ⟨b, o + k * 3 + 2, none⟩ = some (.int .i64 p2))
        (first | exact HK.out _ HB.out.drew | exact HK.out _ (by assumption))
        (first
          | (go_at_call 15; (with_reducible refine (HC1.out _ (by first | exact HB.out.drew | assumption)).mono ?_); rintro e w6 ⟨rfl, hbw⟩))
      all_goals
        rename World => w6
        have HB6 : Hid (Below w2.heap.size w2 w6) := by show Below _ _ _; assumption
        have hsz6 := HB6.out.size
        obtain ⟨g0, g1, g2, g3, q0, q1, q2⟩ := HK.out _ HB6.out
        have hl6 := World.block_lt_of_cell? w6 _ g0
        have hb6 := World.block_lt_of_cell? w6 _ q0
        go_wp2_with fail
        with_reducible refine (Where_in _ _ _ _ _ _ _ HM.out HIN.out).mono ?_
        rintro e w7 ⟨rfl, hb⟩
        simp only [if_true]
        rw [HP0.out, HP1.out, HP2.out]
        have HB7 := Lib.hid (HB6.out.trans (hb.mono HB6.out.size))
        have hsz7 := HB7.out.size
        clear hb g0 g1 g2 g3 q0 q1 q2
        obtain ⟨g0, g1, g2, g3, q0, q1, q2⟩ := HK.out _ HB7.out
        have hl7 := World.block_lt_of_cell? w7 _ g0
        have hb7 := World.block_lt_of_cell? w7 _ q0
        go_wp2_with fail
        go_quiet (fail)
        go_wp2
        go_roundw
        case rel => exact ⟨k + 1, by omega, by go_num, by first | exact (HB7.out.alloc hsz7 _).drewN' _ | exact (HB7.out.alloc hsz7 _).drew⟩
        case measure => simp [intOf]; omega
    · obtain rfl : k = n := by omega
      have G3 := Lib.hid (G2.out.up HB.out)
      have HB3 := Lib.hid (HB2.out.trans (HB.out.mono HB2.out.size))
      obtain ⟨s, hs⟩ : ∃ s, segsN D V S = s := ⟨_, rfl⟩
      rw [hs] at nb1 nb2
      have HS := Lib.hid hs
      obtain ⟨r, hr⟩ : ∃ r, u % (16 * s) = r := ⟨_, rfl⟩
      have r0 : 0 ≤ r := by rw [← hr]; exact Int.emod_nonneg _ (by omega)
      have r1 : r < 16 * s := by rw [← hr]; exact Int.emod_lt_of_pos _ (by omega)
      have r3 : r ≤ 40000 := by omega
      have HR := Lib.hid hr
      have e0 : 0 ≤ u % (16 * s) := by rw [hr]; exact r0
      have e1 : u % (16 * s) ≤ 40000 := by rw [hr]; exact r3
      have hin : inB 1 (16 * segsN D V S) (1 + r) = true := by rw [hs]; exact inB_mk (by omega) (by omega)
      have HIN := Lib.hid hin
      have hout : inB 1 (16 * segsN D V S) (16 * s + 1) = false := by rw [hs]; exact inB_mkn (by omega)
      have HOUT := Lib.hid hout
      obtain ⟨hp, ha⟩ := place_of_addr HM.out (a := 1 + r) (by omega) (by rw [hs]; omega)
      obtain ⟨p0, hp0⟩ : ∃ p, volI D S ((1 + r - 1) / 16) = p := ⟨_, rfl⟩
      obtain ⟨p1, hp1⟩ : ∃ p, segI D S ((1 + r - 1) / 16) = p := ⟨_, rfl⟩
      obtain ⟨p2, hp2⟩ : ∃ p, (1 + r - 1) % 16 = p := ⟨_, rfl⟩
      have HP0 := Lib.hid hp0
      have HP1 := Lib.hid hp1
      have HP2 := Lib.hid hp2
      rw [hp0, hp1, hp2] at hp ha
      have HP := Lib.hid hp
      have HA := Lib.hid ha
      obtain ⟨c0, c1, c2, c3⟩ := G3.out
      clear hs hr r1 hin hout hp ha hp0 hp1 hp2
      go_wp2_with fail
      with_reducible refine (Blocks_any _ _ _ _ _).mono ?_
      rintro e w3 ⟨rfl, hb⟩
      rw [HSA.out, HS.out]
      have G4 := Lib.hid (G3.out.up hb)
      have HB4 := Lib.hid (HB3.out.trans (hb.mono HB3.out.size))
      clear hb c0 c1 c2 c3
      obtain ⟨c0, c1, c2, c3⟩ := G4.out
      go_wp2_with fail
      rw [HR.out]
      with_reducible refine (Where_in _ _ _ _ _ _ _ HM.out HIN.out).mono ?_
      rintro e w4 ⟨rfl, hb⟩
      simp only [if_true]
      rw [HP0.out, HP1.out, HP2.out]
      have G5 := Lib.hid (G4.out.up hb)
      have HB5 := Lib.hid (HB4.out.trans (hb.mono HB4.out.size))
      have hs5 := HB5.out.size
      clear hb c0 c1 c2 c3
      obtain ⟨c0, c1, c2, c3⟩ := G5.out
      have hl5 := World.block_lt_of_cell? w4 _ c0
      go_wp2_with fail
      with_reducible refine (Of_in _ _ _ _ _ _ _ _ _ HM.out HP.out).mono ?_
      rintro e w5 ⟨rfl, hb⟩
      simp only [if_true]
      rw [HA.out]
      have hb' : Below w4.heap.size w4 w5 := ((Below.refl _ w4).alloc (Nat.le_refl _) _).trans (hb.mono (by simp))
      have G6 := Lib.hid (G5.out.up hb')
      have HB6 := Lib.hid (HB5.out.trans (hb'.mono HB5.out.size))
      have hs6 := HB6.out.size
      clear hb hb' c0 c1 c2 c3
      obtain ⟨c0, c1, c2, c3⟩ := G6.out
      go_wp2_with fail
      with_reducible refine (Where_in _ _ _ _ _ _ _ HM.out HOUT.out).mono ?_
      rintro e w6 ⟨rfl, hb⟩
      simp only [Bool.false_eq_true, if_false]
      have HB7 := Lib.hid (HB6.out.trans (hb.mono HB6.out.size))
      have hs7 := HB7.out.size
      clear hb c0 c1 c2 c3
      go_wp2_with fail
      with_reducible refine (awake_any _).mono ?_
      rintro e w7 ⟨rfl, hb⟩
      have HB8 : Hid (Below w.heap.size w w7) := (HB7.out.alloc hs7 _).trans (hb.mono (by simp; omega))
      clear hb
      go_wp2
      go_ret
      exact ⟨rfl, HB8.out⟩

theorem walk (D L V S u : Int) (w : World) (u0 : 0 ≤ u) (u1 : u ≤ 65535) :
    Calls Try.prog 6 #[.agg #[.int .i64 D, .int .i64 L, .int .i64 V, .int .i64 S], .int .u16 u] w fun e w' => e = .returned (.bool true) ∧ Below w.heap.size w w' := by
  cases hm : mayB D L V S
  · exact walk_bad D L V S u w hm
  · exact walk_may D L V S u w u0 u1 hm

set_option maxRecDepth 100000 in
theorem lifted (os : Os) (started : os.Started) (H : Type) (enc : TypeId × Value → H) :
    ReturnsInHanded {} Try.checked os 6 .any (Rows.addrCountsSpec.pre6 enc Try.prog Try.f6 Rows.addrCountsRow.domain false) (Rows.addrCountsSpec.post enc Try.prog Try.f6 false true false false) := by
  refine returnsInHanded_of_change (C := Try.checked) own started (by kernel_rfl) Try.func6
    (ChangeSpec.witness6 (enc := enc) (C := Try.checked) false ⟨#[], #[.agg #[.int .i64 0, .int .i64 0, .int .i64 0, .int .i64 0], .int .u16 0], []⟩ 8 (by kernel_rfl) (by kernel_rfl) (by kernel_rfl) (by kernel_rfl)) ?_
  intro W base args ds gs before hval0 hW hcnd _
  have hval : ∀ (j : Nat) t v, Try.f6.params[j]? = some t → args[j]? = some v → Value.okWide Try.prog W .any base t v := hval0
  have hW' := hW
  obtain ⟨p, q, hA0, hV, rfl, hfz, hnd⟩ := hW
  have hA : DataW.TrodAll enc Try.prog W 0 (fun _ => true) true Try.f6.params.toList args.toList ds p := hA0
  rw [Try.params6] at hA hval
  obtain ⟨v0, vs0, d0, ds0, p0, q0, hargs, rfl, rfl, h0, r0⟩ := trodAll_cons hA
  obtain ⟨v1, vs1, d1, ds1, p1, q1, rfl, rfl, rfl, h1, r1⟩ := trodAll_cons r0
  obtain ⟨rfl, rfl, rfl⟩ := trodAll_nil r1
  obtain rfl : args = #[v0, v1] := by cases args; simp_all
  obtain ⟨rfl, rfl⟩ := trodVars_none hV
  have lt0 : ∀ x ∈ p0, x.block < W.heap.size := by obtain ⟨m, hm⟩ := h0; exact DataW.trod_lt m _ _ _ hm
  obtain ⟨y0_0, y0_1, y0_2, y0_3, rfl⟩ := geo_in (hval 0 23 v0 rfl rfl) h0
  obtain ⟨x1, rfl, rfl, rfl, wx1⟩ := open_int Try.underlying41 (hval 1 41 v1 rfl rfl) h1
  have hx1 := bounds_u16 wx1
  clear hA0 hval0
  refine (walk y0_0 y0_1 y0_2 y0_3 x1 W hx1.1 hx1.2).mono fun e W' ⟨he, bel⟩ => ?_
  subst he
  exact ⟨_, rfl, _, _, _, [], _, [], hW', trodAll_mk1 (shut_bool Try.underlying4 _), (trodAll_cons_mk (Below.trod laidOut (by kernel_rfl) (of_decide_eq_true (by kernel_rfl)) h0 bel lt0) (trodAll_cons_mk (shut_int Try.underlying41 wx1) trodAll_mk0)), rfl, bel.frame _, fun h => by cases h⟩

theorem over : Rows.addrCountsRow.holds Try.pinned (OpenSpec.ofChange Rows.addrCountsSpec) :=
  OpenClaim.holds_of_wide 6 Try.f6 rfl rfl rfl rfl rfl rfl rfl ⟨rfl, rfl, rfl, rfl, rfl⟩ rfl rfl rfl rfl rfl (by kernel_rfl) Try.func6 (by kernel_rfl)
    (of_decide_eq_true (by kernel_rfl)) (by unfold Func.isWrapper; first | (rw [if_pos (by decide +kernel)]; kernel_rfl) | (rw [if_neg (by decide +kernel)]; exact ⟨rfl, rfl⟩))
    (fun os started H enc _ => lifted os started H enc)

theorem proved : Rows.AddrCountsSaid := over
#print axioms proved
end Go.Proofs.Ytfjcclgambkieaa.addrCounts
