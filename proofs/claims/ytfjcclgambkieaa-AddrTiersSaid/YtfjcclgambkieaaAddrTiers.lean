/-
  As many addresses are of each tier as its segments have; the log's come first, then the lines', then the volumes'. Conditions: none.
-/
import Derived.Test.YtfjcclgambkieaaAddrLaw
import Derived.Test.YtfjcclgambkieaaAddrAwake
import Derived.Test.YtfjcclgambkieaaOpenAddr
import Derived.Test.YtfjcclgambkieaaRows
namespace Go.Proofs.Ytfjcclgambkieaa.addrTiers
open Go.ChangeShapes Go.WideShapes Go.ChangeAt Go.RowKit
set_option linter.unusedVariables false

/-- behind k addresses: how many are of each tier, and the last one's -/
def Inv (D L k c0 c1 c2 l : Int) : Prop := c0 = min k (16 * (D - L)) ∧ c1 = min k (16 * D) - min k (16 * (D - L)) ∧ c2 = k - min k (16 * D) ∧ (l = 0 ∨ l = 1 ∧ 16 * (D - L) < k ∨ l = 2 ∧ 16 * D < k)
theorem inv_start (D L : Int) (h : 8 ≤ D) (h' : L ≤ D - 6) : Inv D L 0 0 0 0 0 := by unfold Inv; omega
theorem inv_0 {D L k c0 c1 c2 l : Int} (h : Inv D L k c0 c1 c2 l) (hl : 1 ≤ L) (hk : k < 16 * (D - L)) : Inv D L (k + 1) (c0 + 1) c1 c2 0 ∧ l = 0 := by unfold Inv at *; omega
theorem inv_1 {D L k c0 c1 c2 l : Int} (h : Inv D L k c0 c1 c2 l) (hl : 1 ≤ L) (hk : 16 * (D - L) ≤ k) (hk' : k < 16 * D) : Inv D L (k + 1) c0 (c1 + 1) c2 1 ∧ 0 ≤ l ∧ l ≤ 1 := by unfold Inv at *; omega
theorem inv_2 {D L k c0 c1 c2 l : Int} (h : Inv D L k c0 c1 c2 l) (hl : 1 ≤ L) (hk' : 16 * D ≤ k) : Inv D L (k + 1) c0 c1 (c2 + 1) 2 ∧ 0 ≤ l ∧ l ≤ 2 := by unfold Inv at *; omega
theorem inv_bd {D L k c0 c1 c2 l : Int} (h : Inv D L k c0 c1 c2 l) (hD : 8 ≤ D) (hL : L ≤ D - 6) (hL1 : 1 ≤ L) (hk : 0 ≤ k) (hk' : k ≤ 40000) : 0 ≤ c0 ∧ c0 ≤ 40000 ∧ 0 ≤ c1 ∧ c1 ≤ 40000 ∧ 0 ≤ c2 ∧ c2 ≤ 40000 := by unfold Inv at *; omega
theorem tier_k {D L V S k : Int} (hk : 0 ≤ k) (hn : k < 16 * segsN D V S) : tierI D L V S (k + 1) = if k < 16 * (D - L) then 0 else if k < 16 * D then 1 else 2 := by
  unfold tierI
  rw [inB_mk (by omega) (by omega), if_pos rfl, show k + 1 - 1 = k by omega]
  by_cases h1 : k < 16 * (D - L)
  · rw [if_pos h1, if_pos (by omega)]
  · by_cases h2 : k < 16 * D
    · rw [if_neg h1, if_pos h2, if_neg (by omega), if_pos (by omega)]
    · rw [if_neg h1, if_neg h2, if_neg (by omega), if_neg (by omega)]

set_option maxRecDepth 100000 in
set_option maxHeartbeats 2000000 in
theorem walk_many (D L V S : Int) (w : World) (h : mayB D L V S = false ∨ mayB D L V S = true ∧ 40 < D ∨ mayB D L V S = true ∧ D ≤ 40 ∧ 40 < V * S) :
    Calls Try.prog 7 #[.agg #[.int .i64 D, .int .i64 L, .int .i64 V, .int .i64 S]] w fun e w' => e = .returned (.bool true) ∧ Below w.heap.size w w' := by
  obtain ⟨m, hm⟩ : ∃ m, mayB D L V S = m := ⟨_, rfl⟩
  have HM := Lib.hid hm
  have hc : m = false ∨ (m = true ∧ decide (40 < D) = true) ∨ (m = true ∧ decide (40 < D) = false ∧ decide (40 < V * S) = true ∧ 0 ≤ V * S ∧ V * S ≤ 2048) := by
    rw [hm] at h
    rcases h with h | ⟨h, h'⟩ | ⟨h, h', h''⟩
    · exact .inl h
    · exact .inr (.inl ⟨h, by simpa using h'⟩)
    · subst h
      obtain ⟨m1, m2, m3, m4, m5, m6, m7, m8⟩ := mayB_yes hm
      exact .inr (.inr ⟨rfl, by simp; omega, by simpa using h'', mul_bd m5 m6 (by omega) m8⟩)
  clear hm h
  rcases hc with rfl | ⟨rfl, h1⟩ | ⟨rfl, h1, h2, h3, h4⟩
  all_goals
    go_enter Try.func7, Try.ntmps7
    go_wp2_with fail
    have G0 := Lib.hid (Geo.new w 23 D L V S)
    have HB0 := Lib.hid (Below.alloc (Below.refl w.heap.size w) (Nat.le_refl _) (.cells #[.int .i64 D, .int .i64 L, .int .i64 V, .int .i64 S] 23))
    with_reducible refine (May_any _ _ _ _ _ _ HM.out).mono ?_
    rintro e w1 ⟨rfl, hb⟩
    have G1 := Lib.hid (G0.out.up hb)
    have HB1 := Lib.hid (HB0.out.trans (hb.mono HB0.out.size))
    clear hb HB0 G0
    obtain ⟨c0, c1, c2, c3⟩ := G1.out
    go_wp2_with fail
    with_reducible refine (awake_any _).mono ?_
    rintro e w2 ⟨rfl, hb⟩
    have HB2 := Lib.hid (HB1.out.trans (hb.mono HB1.out.size))
    clear hb
    go_wp2
    go_ret
    exact ⟨rfl, HB2.out⟩

set_option maxRecDepth 100000 in
set_option maxHeartbeats 4000000 in
theorem walk_few (D L V S : Int) (w : World) (hm : mayB D L V S = true) (hD : D ≤ 40) (hVS : V * S ≤ 40) :
    Calls Try.prog 7 #[.agg #[.int .i64 D, .int .i64 L, .int .i64 V, .int .i64 S]] w fun e w' => e = .returned (.bool true) ∧ Below w.heap.size w w' := by
  obtain ⟨m1, m2, m3, m4, m5, m6, m7, m8⟩ := mayB_yes hm
  have HM := Lib.hid hm
  have vs0 : 0 ≤ V * S := Int.mul_nonneg m5 (by omega)
  have hsn : segsA D L V S = segsN D V S := by unfold segsA; rw [hm]; rfl
  obtain ⟨n, hn⟩ : ∃ n : Nat, segsN D V S = n := ⟨(segsN D V S).toNat, by have := segsN_bd hm; omega⟩
  have hnb := segsN_bd hm
  have hnv : (n : Int) = D + V * S := by rw [← hn]; rfl
  have hp1 : 16 * V * S = 16 * (V * S) := Int.mul_assoc _ _ _
  rw [hn] at hnb hsn
  obtain ⟨n1, n2⟩ := hnb
  have HN := Lib.hid hn
  have HSN := Lib.hid hsn
  have HNV := Lib.hid hnv
  have HP1 := Lib.hid hp1
  clear hm hsn hn hnv hp1
  go_enter Try.func7, Try.ntmps7
  go_wp2_with fail
  have G0 := Lib.hid (Geo.new w 23 D L V S)
  have HB0 := Lib.hid (Below.alloc (Below.refl w.heap.size w) (Nat.le_refl _) (.cells #[.int .i64 D, .int .i64 L, .int .i64 V, .int .i64 S] 23))
  with_reducible refine (May_any _ _ _ _ _ _ HM.out).mono ?_
  rintro e w1 ⟨rfl, hb⟩
  have G1 := Lib.hid (G0.out.up hb)
  have HB1 := Lib.hid (HB0.out.trans (hb.mono HB0.out.size))
  clear hb HB0 G0
  obtain ⟨c0, c1, c2, c3⟩ := G1.out
  go_wp2_with fail
  have hb0 := HB1.out.size
  have HB2 := Lib.hid (HB1.out.alloc hb0 (.cells #[.int .i64 0, .int .i64 0, .int .i64 0] 45))
  have G2 := Lib.hid (G1.out.up (Below.alloc (Below.refl _ w1) (Nat.le_refl _) (.cells #[.int .i64 0, .int .i64 0, .int .i64 0] 45)))
  have K2 := Lib.hid (Bk.new w1 45 #[.int .i64 0, .int .i64 0, .int .i64 0])
  have hlt := World.block_lt_of_cell? w1 _ c0
  have hwl : w.heap.size < w1.heap.size := hlt
  clear c0 c1 c2 c3 G1 HB1 hb0 hlt
  go_loopw [4, 5] (fun l i wr => ∃ (k : Nat) (c0 c1 c2 z : Int), k ≤ 16 * n ∧ i = .int .i64 ((k : Int) + 1) ∧ l = .int .i64 z ∧ Hid (Inv D L k c0 c1 c2 z) ∧ Hid (Geo wr w.heap.size D L V S) ∧ Hid (Bk wr w1.heap.size 45 #[.int .i64 c0, .int .i64 c1, .int .i64 c2]) ∧ Hid (Below w.heap.size w wr)) (fun _ i _ => 16 * n + 1 - (intOf i).toNat)
  case atStart => exact ⟨0, 0, 0, 0, 0, Nat.zero_le _, rfl, rfl, inv_start D L m1 m4, G2, K2, HB2⟩
  case round =>
    obtain ⟨k, x0, x1, x2, z, hk, rfl, rfl, HI, G, K, HB⟩ := hrel
    obtain ⟨c0, c1, c2, c3⟩ := G.out
    have hkb : (k : Int) ≤ 40000 := by omega
    go_wp2_with fail
    with_reducible refine (Blocks_any _ _ _ _ _).mono ?_
    rintro e w3 ⟨rfl, hb⟩
    rw [HSN.out]
    have G3 := Lib.hid (G.out.up hb)
    have K3 := Lib.hid (K.out.below hb K.out.lt)
    have HB3 := Lib.hid (HB.out.trans (hb.mono HB.out.size))
    clear hb c0 c1 c2 c3 G K HB
    obtain ⟨c0, c1, c2, c3⟩ := G3.out
    by_cases hlt : k < 16 * n
    · have hlt' : (k : Int) + 1 ≤ 16 * (n : Int) := by omega
      have hlt2 : (k : Int) < 16 * segsN D V S := by rw [HN.out]; omega
      have HTK := Lib.hid (tier_k (D := D) (L := L) (V := V) (S := S) (k := (k : Int)) (by omega) hlt2)
      clear hlt2
      go_wp2_with fail
      with_reducible refine (Tier_in _ _ _ _ _ _ HM.out).mono ?_
      rintro e w4 ⟨rfl, hb⟩
      have G4 := Lib.hid (G3.out.up hb)
      have K4 := Lib.hid (K3.out.below hb K3.out.lt)
      have HB4 := Lib.hid (HB3.out.trans (hb.mono HB3.out.size))
      clear hb c0 c1 c2 c3 G3 K3 HB3
      obtain ⟨b0, b1, b2, b3, b4, b5⟩ := inv_bd HI.out m1 m4 m3 (by omega) hkb
      obtain ⟨d0, d1, d2, f0, f1, f2⟩ := place_cells K4.out
      by_cases h1 : (k : Int) < 16 * (D - L)
      · have ht : tierI D L V S ((k : Int) + 1) = 0 := by rw [HTK.out, if_pos h1]
        obtain ⟨hi, rfl⟩ := inv_0 HI.out m3 h1
        rw [ht]
        have HI2 := Lib.hid hi
        clear hi ht h1
        go_wp2_with fail
        go_roundw
        case rel => exact ⟨k + 1, x0 + 1, x1, x2, 0, by omega, by go_num, rfl, HI2, G4.out.below ((Below.refl w1.heap.size w4).setCell (Nat.le_refl _) _) hwl, K4.out.set_ 0 _, HB4.out.setCell (Nat.le_of_lt hwl) _⟩
        case measure => simp [intOf]; omega
      · by_cases h2 : (k : Int) < 16 * D
        · have ht : tierI D L V S ((k : Int) + 1) = 1 := by rw [HTK.out, if_neg h1, if_pos h2]
          obtain ⟨hi, z0, z1⟩ := inv_1 HI.out m3 (by omega) h2
          rw [ht]
          have HI2 := Lib.hid hi
          clear hi ht h1 h2
          go_wp2_with fail
          go_roundw
          case rel => exact ⟨k + 1, x0, x1 + 1, x2, 1, by omega, by go_num, rfl, HI2, G4.out.below ((Below.refl w1.heap.size w4).setCell (Nat.le_refl _) _) hwl, K4.out.set_ 1 _, HB4.out.setCell (Nat.le_of_lt hwl) _⟩
          case measure => simp [intOf]; omega
        · have ht : tierI D L V S ((k : Int) + 1) = 2 := by rw [HTK.out, if_neg h1, if_neg h2]
          obtain ⟨hi, z0, z1⟩ := inv_2 HI.out m3 (by omega)
          rw [ht]
          have HI2 := Lib.hid hi
          clear hi ht h1 h2
          go_wp2_with fail
          go_roundw
          case rel => exact ⟨k + 1, x0, x1, x2 + 1, 2, by omega, by go_num, rfl, HI2, G4.out.below ((Below.refl w1.heap.size w4).setCell (Nat.le_refl _) _) hwl, K4.out.set_ 2 _, HB4.out.setCell (Nat.le_of_lt hwl) _⟩
          case measure => simp [intOf]; omega
    · obtain rfl : k = 16 * n := by omega
      obtain ⟨e0, e1, e2⟩ : x0 = 16 * (D - L) ∧ x1 = 16 * L ∧ x2 = 16 * V * S := by
        have h1 := HI.out
        have h2 := HNV.out
        have h3 := HP1.out
        unfold Inv at h1
        push_cast at h1
        omega
      subst e0 e1 e2
      have p0 : 0 ≤ 16 * V * S := by rw [HP1.out]; omega
      have p1 : 16 * V * S ≤ 640 := by rw [HP1.out]; omega
      obtain ⟨d0, d1, d2, f0, f1, f2⟩ := place_cells K3.out
      go_wp2_with fail
      with_reducible refine (awake_any _).mono ?_
      rintro e w4 ⟨rfl, hb⟩
      have HB4 := Lib.hid (HB3.out.trans (hb.mono HB3.out.size))
      clear hb
      go_wp2
      go_ret
      exact ⟨rfl, HB4.out⟩

theorem walk (D L V S : Int) (w : World) :
    Calls Try.prog 7 #[.agg #[.int .i64 D, .int .i64 L, .int .i64 V, .int .i64 S]] w fun e w' => e = .returned (.bool true) ∧ Below w.heap.size w w' := by
  cases hm : mayB D L V S
  · exact walk_many D L V S w (.inl hm)
  · by_cases h1 : D ≤ 40
    · by_cases h2 : V * S ≤ 40
      · exact walk_few D L V S w hm h1 h2
      · exact walk_many D L V S w (.inr (.inr ⟨hm, h1, by omega⟩))
    · exact walk_many D L V S w (.inr (.inl ⟨hm, by omega⟩))

set_option maxRecDepth 100000 in
theorem lifted (os : Os) (started : os.Started) (H : Type) (enc : TypeId × Value → H) :
    ReturnsInHanded {} Try.checked os 7 .any (Rows.addrTiersSpec.pre6 enc Try.prog Try.f7 Rows.addrTiersRow.domain false) (Rows.addrTiersSpec.post enc Try.prog Try.f7 false true false false) := by
  refine returnsInHanded_of_change (C := Try.checked) own started (by kernel_rfl) Try.func7
    (ChangeSpec.witness6 (enc := enc) (C := Try.checked) false ⟨#[], #[.agg #[.int .i64 0, .int .i64 0, .int .i64 0, .int .i64 0]], []⟩ 8 (by kernel_rfl) (by kernel_rfl) (by kernel_rfl) (by kernel_rfl)) ?_
  intro W base args ds gs before hval0 hW hcnd _
  have hval : ∀ (j : Nat) t v, Try.f7.params[j]? = some t → args[j]? = some v → Value.okWide Try.prog W .any base t v := hval0
  have hW' := hW
  obtain ⟨p, q, hA0, hV, rfl, hfz, hnd⟩ := hW
  have hA : DataW.TrodAll enc Try.prog W 0 (fun _ => true) true Try.f7.params.toList args.toList ds p := hA0
  rw [Try.params7] at hA hval
  obtain ⟨v0, vs0, d0, ds0, p0, q0, hargs, rfl, rfl, h0, r0⟩ := trodAll_cons hA
  obtain ⟨rfl, rfl, rfl⟩ := trodAll_nil r0
  obtain rfl : args = #[v0] := by cases args; simp_all
  obtain ⟨rfl, rfl⟩ := trodVars_none hV
  have lt0 : ∀ x ∈ p0, x.block < W.heap.size := by obtain ⟨m, hm⟩ := h0; exact DataW.trod_lt m _ _ _ hm
  obtain ⟨y0_0, y0_1, y0_2, y0_3, rfl⟩ := geo_in (hval 0 23 v0 rfl rfl) h0
  clear hA0 hval0
  refine (walk y0_0 y0_1 y0_2 y0_3 W).mono fun e W' ⟨he, bel⟩ => ?_
  subst he
  exact ⟨_, rfl, _, _, _, [], _, [], hW', trodAll_mk1 (shut_bool Try.underlying4 _), (trodAll_cons_mk (Below.trod laidOut (by kernel_rfl) (of_decide_eq_true (by kernel_rfl)) h0 bel lt0) trodAll_mk0), rfl, bel.frame _, fun h => by cases h⟩

theorem over : Rows.addrTiersRow.holds Try.pinned (OpenSpec.ofChange Rows.addrTiersSpec) :=
  OpenClaim.holds_of_wide 7 Try.f7 rfl rfl rfl rfl rfl rfl rfl ⟨rfl, rfl, rfl, rfl, rfl⟩ rfl rfl rfl rfl rfl (by kernel_rfl) Try.func7 (by kernel_rfl)
    (of_decide_eq_true (by kernel_rfl)) (by unfold Func.isWrapper; first | (rw [if_pos (by decide +kernel)]; kernel_rfl) | (rw [if_neg (by decide +kernel)]; exact ⟨rfl, rfl⟩))
    (fun os started H enc _ => lifted os started H enc)

theorem proved : Rows.AddrTiersSaid := over
#print axioms proved
end Go.Proofs.Ytfjcclgambkieaa.addrTiers
