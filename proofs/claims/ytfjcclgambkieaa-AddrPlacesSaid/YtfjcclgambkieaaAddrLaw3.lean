/-
  What the document's Where and Tier of layer 3 are, one contract each.
-/
import Derived.Test.YtfjcclgambkieaaAddrLaw
namespace Go.Proofs.Ytfjcclgambkieaa
open Go.RowKit
set_option linter.unusedVariables false

theorem ret_placeb {a b c a' b' c' : Int} {t : Bool} (h : a' = a) (h' : b' = b) (h'' : c' = c) : Ending.returned (.tuple #[.agg #[.int .i64 a, .int .i64 b, .int .i64 c], .bool t]) = .returned (.tuple #[.agg #[.int .i64 a', .int .i64 b', .int .i64 c'], .bool t]) := by rw [h, h', h'']

set_option maxHeartbeats 2000000 in
theorem refWhere_any (D L V S a : Int) (t : Bool) (w : World) (h : mayB D L V S = true) (ht : inB 1 (16 * segsN D V S) a = t) :
    Calls Try.prog 18 #[.agg #[.int .i64 D, .int .i64 L, .int .i64 V, .int .i64 S], .int .i64 a] w fun e w' =>
      e = .returned (.tuple #[.agg #[.int .i64 (if t then volI D S ((a - 1) / 16) else 0), .int .i64 (if t then segI D S ((a - 1) / 16) else 0), .int .i64 (if t then (a - 1) % 16 else 0)], .bool t]) ∧ Below w.heap.size w w' := by
  obtain ⟨m1, m2, m3, m4, m5, m6, m7, m8⟩ := mayB_yes h
  have sb := segsN_bd h
  have H := Lib.hid h
  by_cases ha : a < 1
  · have ha' : decide (a < 1) = true := by simpa using ha
    obtain rfl : t = false := by rw [← ht]; exact inB_mkn (.inl ha)
    clear h ht ha
    go_enter Try.func18, Try.ntmps18
    go_wp2
    refine bodyPost_ret (v := .tuple #[.agg #[.int .i64 0, .int .i64 0, .int .i64 0], .bool false]) (by simp [results, Try.results18, go_sem]) rfl ⟨rfl, ?_⟩
    exact ((Below.refl _ _).alloc (Nat.le_refl _) _).alloc (by simp) _
  · have ha' : decide (a < 1) = false := by simpa using ha
    have a1 : 1 ≤ a := by omega
    have sb1 := sb.1
    have sb2 := sb.2
    obtain ⟨n, hn⟩ : ∃ n, segsN D V S = n := ⟨_, rfl⟩
    have HN := Lib.hid hn
    rw [hn] at ht sb1 sb2
    have HT := Lib.hid ht
    clear h ht ha sb hn
    go_enter Try.func18, Try.ntmps18
    go_wp2_with fail
    have HB0 := Lib.hid (Below.alloc (Below.alloc (Below.refl w.heap.size w) (Nat.le_refl _) (.cells #[.int .i64 D, .int .i64 L, .int .i64 V, .int .i64 S] 23)) (by simp) (.cells #[.int .i64 0, .int .i64 0, .int .i64 0] 28))
    have G0 := Lib.hid ((Geo.new w 23 D L V S).up (Below.alloc (Below.refl _ _) (Nat.le_refl _) (.cells #[.int .i64 0, .int .i64 0, .int .i64 0] 28)))
    have K0 := Lib.hid (Bk.new (w.alloc (.cells #[.int .i64 D, .int .i64 L, .int .i64 V, .int .i64 S] 23)) 28 #[.int .i64 0, .int .i64 0, .int .i64 0])
    rw [World.alloc_size'] at K0
    refine (Count_any _ _ _ _ _ H.out).mono ?_
    rintro e w1 ⟨rfl, hb1⟩
    rw [HN.out]
    have G1 := Lib.hid (G0.out.up hb1)
    have K1 := Lib.hid (K0.out.below hb1 K0.out.lt)
    have HB1 := Lib.hid (HB0.out.trans (hb1.mono HB0.out.size))
    clear hb1 HB0 G0 K0
    obtain ⟨c0, c1, c2, c3⟩ := G1.out
    obtain ⟨k0, k1, k2, f0, f1, f2⟩ := place_cells K1.out
    have hge : w.heap.size ≤ w.heap.size + 1 := by omega
    cases t
    · have a2 : 16 * n < a := by have := inB_no HT.out; omega
      obtain ⟨p0, p1, p2, _⟩ := place_puts K1.out (.int .i64 0) (.int .i64 0) (.int .i64 0)
      go_wp2
      refine bodyPost_ret (v := .tuple #[.agg #[.int .i64 0, .int .i64 0, .int .i64 0], .bool false]) (by simp [results, Try.results18, go_sem, p0, p1, p2]) rfl ⟨rfl, ?_⟩
      exact ((HB1.out.setCell (p := ⟨w.heap.size + 1, 0, none⟩) hge _).setCell (p := ⟨w.heap.size + 1, 1, none⟩) hge _).setCell (p := ⟨w.heap.size + 1, 2, none⟩) hge _
    · have a2 : ¬ 16 * n < a := by have := inB_yes HT.out; omega
      have a3 : a ≤ 40000 := by omega
      by_cases hD : a - 1 < 16 * D
      · have hs : (a - 1) / 16 < D := by omega
        have HV : Hid (volI D S ((a - 1) / 16) = -1) := by show _ = _; unfold volI; rw [if_pos hs]
        have HS : Hid (segI D S ((a - 1) / 16) = (a - 1) / 16) := by show _ = _; unfold segI; rw [if_pos hs]
        obtain ⟨p0, p1, p2, _⟩ := place_puts K1.out (.int .i64 (-1)) (.int .i64 ((a - 1) / 16)) (.int .i64 ((a - 1) % 16))
        clear hs
        go_wp2
        refine bodyPost_ret (v := .tuple #[.agg #[.int .i64 (-1), .int .i64 ((a - 1) / 16), .int .i64 ((a - 1) % 16)], .bool true]) (by simp [results, Try.results18, go_sem, p0, p1, p2]) rfl ⟨ret_placeb HV.out HS.out rfl, ?_⟩
        exact ((HB1.out.setCell (p := ⟨w.heap.size + 1, 0, none⟩) hge _).setCell (p := ⟨w.heap.size + 1, 1, none⟩) hge _).setCell (p := ⟨w.heap.size + 1, 2, none⟩) hge _
      · have HV : Hid (volI D S ((a - 1) / 16) = ((a - 1) / 16 - D) / S) := by show _ = _; unfold volI; rw [if_neg (by omega)]
        have HS : Hid (segI D S ((a - 1) / 16) = ((a - 1) / 16 - D) % S) := by show _ = _; unfold segI; rw [if_neg (by omega)]
        go_wp2
        go_loop [6, 7] (fun x i => ∃ (k : Nat) (r : Int), k ≤ 40000 ∧ i = .int .i64 k ∧ x = .int .i64 r ∧ 0 ≤ r ∧ r ≤ 40000 ∧ r + 16 * (k * S) = a - 1 - 16 * D) (fun x _ => (intOf x).toNat)
        case atStart => exact ⟨0, a - 1 - 16 * D, by omega, rfl, rfl, by omega, by omega, by simp⟩
        case round =>
          obtain ⟨k, r, hk, rfl, rfl, r1, r2, hr⟩ := hrel
          have kS : (k : Int) ≤ k * S := by
            have := Int.mul_le_mul (a := (k : Int)) (b := 1) (c := k) (d := S) (by omega) m7 (by omega) (by omega)
            omega
          have hk2 : k ≤ 2500 := by omega
          have HR := Lib.hid hr
          clear hr kS
          by_cases hlt : 16 * S ≤ r
          · go_wp2
            go_round
            case rel => exact ⟨k + 1, r - 16 * S, by omega, by go_num, rfl, by omega, by omega, by rw [← HR.out]; show _ + 16 * (((k : Int) + 1) * S) = _; rw [Int.add_mul]; omega⟩
            case measure => simp [intOf]; omega
          · obtain ⟨q, hq⟩ : ∃ q, r / 16 = q := ⟨_, rfl⟩
            have hS : (a - 1) / 16 - D = q + k * S := by have := HR.out; omega
            have hqS : q < S := by omega
            have q0 : 0 ≤ q := by omega
            have hV2 : ((a - 1) / 16 - D) / S = k := by rw [hS, Int.add_mul_ediv_right _ _ (by omega), Int.ediv_eq_zero_of_lt q0 hqS]; omega
            have hS2 : ((a - 1) / 16 - D) % S = r / 16 := by rw [hS, Int.add_mul_emod_self_right, Int.emod_eq_of_lt q0 hqS, hq]
            have hO : (a - 1) % 16 = r % 16 := by have := HR.out; omega
            have HV2 := Lib.hid (HV.out.trans hV2)
            have HS2 := Lib.hid (HS.out.trans hS2)
            have HO := Lib.hid hO
            clear hq hS hV2 hS2 hO
            obtain ⟨p0, p1, p2, _⟩ := place_puts K1.out (.int .i64 (k : Int)) (.int .i64 (r / 16)) (.int .i64 (r % 16))
            go_wp2
            refine bodyPost_ret (v := .tuple #[.agg #[.int .i64 (k : Int), .int .i64 (r / 16), .int .i64 (r % 16)], .bool true]) (by simp [results, Try.results18, go_sem, p0, p1, p2]) rfl ⟨ret_placeb HV2.out HS2.out HO.out, ?_⟩
            exact ((HB1.out.setCell (p := ⟨w.heap.size + 1, 0, none⟩) hge _).setCell (p := ⟨w.heap.size + 1, 1, none⟩) hge _).setCell (p := ⟨w.heap.size + 1, 2, none⟩) hge _
end Go.Proofs.Ytfjcclgambkieaa
