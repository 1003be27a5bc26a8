/-
  What the document's All of layer 3 is: the places in order, 600 at most.
-/
import Derived.Test.YtfjcclgambkieaaAddr4
import Derived.Deep.LoopGhost
import Derived.Deep.DeepCutAuto
import Derived.Deep.CutRange
namespace Go.Proofs.Ytfjcclgambkieaa
open Go.RowKit
set_option linter.unusedVariables false

/-- place number k, as cells; the first k places -/
def plc (D S : Int) (k : Nat) : List Value := [.int .i64 (volI D S ((k / 16 : Nat) : Int)), .int .i64 (segI D S ((k / 16 : Nat) : Int)), .int .i64 ((k % 16 : Nat) : Int)]
def plcs (D S : Int) : Nat → List Value
  | 0 => []
  | k + 1 => plcs D S k ++ plc D S k
theorem plcs_length (D S : Int) (k : Nat) : (plcs D S k).length = 3 * k := by
  induction k with
  | zero => rfl
  | succ k ih => rw [plcs, List.length_append, ih]; simp [plc]; omega
theorem plcs_at (D S : Int) (k i j : Nat) (hi : i < k) (hj : j < 3) : (plcs D S k)[3 * i + j]? = (plc D S i)[j]? := by
  induction k with
  | zero => omega
  | succ k ih =>
    rw [plcs]
    by_cases h : i < k
    · rw [List.getElem?_append_left (by rw [plcs_length]; omega)]; exact ih h
    · obtain rfl : i = k := by omega
      rw [List.getElem?_append_right (by rw [plcs_length]; omega), plcs_length, show 3 * i + j - 3 * i = j by omega]
/-- the place that stands next -/
theorem plc_next {D L V S v : Int} {k i q : Nat} (hm : mayB D L V S = true) (hv : -1 ≤ v) (hv' : v ≤ V - 1) (hi : (i : Int) < segsOfI D S v) (hq : q < 16) (hk : (k : Int) = 16 * (firstI D S v + i) + q) :
    plc D S k = [.int .i64 v, .int .i64 (i : Int), .int .i64 (q : Int)] ∧ (k : Int) < 16 * segsN D V S := by
  obtain ⟨m1, m2, m3, m4, m5, m6, m7, m8⟩ := mayB_yes hm
  have h1 := inB_mk (lo := -1) (hi := V - 1) (n := v) hv hv'
  have h2 := inB_mk (lo := 0) (hi := segsOfI D S v - 1) (n := (i : Int)) (by omega) (by omega)
  obtain ⟨h3, h4⟩ := vol_first m7 h1 h2
  have h5 := first_lt hm h1 h2
  have e : ((k / 16 : Nat) : Int) = firstI D S v + i := by omega
  have e2 : k % 16 = q := by omega
  refine ⟨?_, by omega⟩
  unfold plc
  rw [e, h3, h4, e2]
theorem first_succ {D S v : Int} (hv : -1 ≤ v) : firstI D S (v + 1) = firstI D S v + segsOfI D S v := by
  unfold firstI segsOfI
  by_cases h : v = -1
  · subst h; simp
  · rw [if_neg (by omega), if_neg h, if_neg h, Int.add_mul]; omega

theorem info_place : (Try.prog.info? 28).map (fun i => (i.zero, i.size, i.bytes)) = some (some (.agg #[.int .i64 0, .int .i64 0, .int .i64 0]), 3, 24) := by kernel_rfl

/-- what All leaves -/
def AllIs (D V S : Int) (w : World) (e : Ending) (w' : World) : Prop := ∃ (A : Option Addr) (n c : Nat), e = .returned (.slice A n c) ∧ (n : Int) ≤ 16 * segsN D V S ∧ n ≤ 600 ∧ n ≤ c ∧ c ≤ maxLen ∧ Rd w' w'.heap.size A (plcs D S n) ∧ Below w.heap.size w w'

set_option maxRecDepth 100000 in
set_option maxHeartbeats 4000000 in
theorem All_any (D L V S : Int) (w : World) (hm : mayB D L V S = true) :
    Calls Try.prog 23 #[.agg #[.int .i64 D, .int .i64 L, .int .i64 V, .int .i64 S], .int .i64 600] w (AllIs D V S w) := by
  obtain ⟨m1, m2, m3, m4, m5, m6, m7, m8⟩ := mayB_yes hm
  have HM := Lib.hid hm
  obtain ⟨nv, rfl⟩ : ∃ nv : Nat, V = nv := ⟨V.toNat, by omega⟩
  obtain ⟨i0, hi', hz0', hz1', hz2'⟩ := info_parts info_place
  have hi := Lib.hid hi'
  have hz0 := Lib.hid hz0'
  have hz1 := Lib.hid hz1'
  have hz2 := Lib.hid hz2'
  clear hm hi' hz0' hz1' hz2'
  go_enter Try.func23, Try.ntmps23
  go_wp2_with fail
  obtain ⟨w0, hw0⟩ : ∃ w0, w.alloc (.cells #[.int .i64 D, .int .i64 L, .int .i64 nv, .int .i64 S] 23) = w0 := ⟨_, rfl⟩
  have hsz0 : w0.heap.size = w.heap.size + 1 := by rw [← hw0]; simp
  have HSZ0 := Lib.hid hsz0
  have HB0 : Hid (Below w.heap.size w w0) := by rw [← hw0]; exact Below.alloc (Below.refl _ _) (Nat.le_refl _) _
  have G0 : Hid (Geo w0 w.heap.size D L nv S) := by rw [← hw0]; exact Geo.new _ _ _ _ _ _
  have HO0 : Hid (w0.ownsRow w0.heap.size 28 3 (.slice none 0 0) 0 (plcs D S 0)) := by simpa [Hid, plcs] using World.ownsRow_nil w0 w0.heap.size _ 3
  rw [hw0]
  clear hw0 hsz0
  go_loopw [5, 6] (fun l x wr => ∃ (j k : Nat), (j : Int) ≤ nv + 1 ∧ k ≤ 600 ∧ x = .int .i64 ((j : Int) - 1) ∧ Hid ((k : Int) = 16 * firstI D S ((j : Int) - 1)) ∧ Hid (wr.ownsRow w0.heap.size 28 3 l k (plcs D S k)) ∧ Hid (Below w0.heap.size w0 wr)) (fun _ x _ => (nv - intOf x).toNat)
  case atStart => exact ⟨0, 0, by omega, by omega, rfl, rfl, HO0, Below.refl _ _⟩
  case round =>
    obtain ⟨j, k, hj, hk6, rfl, HK, HO, HB⟩ := hrel
    have hg0 : w.heap.size < w0.heap.size := by rw [HSZ0.out]; omega
    have G1 := Lib.hid (G0.out.below HB.out hg0)
    obtain ⟨c0, c1, c2, c3⟩ := G1.out
    obtain ⟨v, hv⟩ : ∃ v : Int, (j : Int) - 1 = v := ⟨_, rfl⟩
    rw [hv] at HK ⊢
    have v1 : -1 ≤ v := by omega
    have v2 : v ≤ nv := by omega
    obtain rfl : j = (v + 1).toNat := by omega
    clear hg0 hv hj
    by_cases hlt : v < nv
    · obtain ⟨sg, hsg⟩ : ∃ sg : Nat, segsOfI D S v = sg := ⟨(segsOfI D S v).toNat, by unfold segsOfI; split <;> omega⟩
      have HSG := Lib.hid hsg
      have sg1 : sg ≤ 256 := by unfold segsOfI at hsg; split at hsg <;> omega
      have hvc : (v < 0 ∧ D = sg) ∨ (¬ v < 0 ∧ S = sg) := by unfold segsOfI at hsg; split at hsg <;> omega
      have HVC := Lib.hid hvc
      clear hsg hvc
      go_upto_if 19 with fail
      go_cut [7] from 10 to 42 (fun s7 wc => wr = wc ∧ s7 = .int .i64 (sg : Int))
      case first =>
        rcases HVC.out with ⟨h1, rfl⟩ | ⟨h1, rfl⟩
        all_goals
          go_wp2_with fail
          go_meet
          exact ⟨rfl, rfl⟩
      case rest =>
        obtain ⟨rfl, rfl⟩ := hcut
        go_wp2_with fail
        obtain ⟨wo, hwo⟩ : ∃ wo : World, wo = wr := ⟨_, rfl⟩
        subst hwo
        have hst : Hid ((k : Int) = 16 * (firstI D S v + ((0 : Nat) : Int))) := by show _ = _; rw [HK.out]; omega
        go_loopw [5, 8] (fun l x wr => ∃ (i k : Nat), i ≤ sg ∧ k ≤ 600 ∧ x = .int .i64 (i : Int) ∧ Hid ((k : Int) = 16 * (firstI D S v + (i : Int))) ∧ Hid (wr.ownsRow w0.heap.size 28 3 l k (plcs D S k)) ∧ Hid (Below w0.heap.size w0 wr)) (fun _ x _ => sg - (intOf x).toNat)
        case atStart => exact ⟨0, k, by omega, hk6, rfl, hst, HO, HB⟩
        case round =>
          clear c0 c1 c2 c3 G1 HO HB hk6 hst HK
          obtain ⟨i, k, hi2, hk6, rfl, HK, HO, HB⟩ := hrel
          by_cases hil : i < sg
          · go_wp2_with fail
            obtain ⟨wo2, hwo⟩ : ∃ wo : World, wo = wr := ⟨_, rfl⟩
            subst hwo
            have hst : Hid ((k : Int) = 16 * (firstI D S v + (i : Int)) + ((0 : Nat) : Int)) := by show _ = _; rw [HK.out]; omega
            go_loopw [5, 9] (fun l x wr => ∃ (q k : Nat), q ≤ 16 ∧ k ≤ 600 ∧ x = .int .i64 (q : Int) ∧ Hid ((k : Int) = 16 * (firstI D S v + (i : Int)) + (q : Int)) ∧ Hid (wr.ownsRow w0.heap.size 28 3 l k (plcs D S k)) ∧ Hid (Below w0.heap.size w0 wr)) (fun _ x _ => 16 - (intOf x).toNat)
            case atStart => exact ⟨0, k, by omega, hk6, rfl, hst, HO, HB⟩
            case round =>
              clear HO HB hk6 hst HK
              obtain ⟨q, k, hq, hk6, rfl, HK, HO, HB⟩ := hrel
              by_cases hql : q < 16
              · obtain ⟨hnx, hkn⟩ := plc_next HM.out v1 (by omega) (by rw [HSG.out]; omega) hql HK.out
                obtain ⟨A, cap, rfl, hkc, hcm⟩ := own_len HO.out
                unfold maxLen at hcm
                have HNX := Lib.hid hnx
                have HKN := Lib.hid hkn
                have hcm' : k ≤ 9223372036854775807 := by omega
                clear hnx hkn
                by_cases hk600 : k = 600
                · subst hk600
                  go_wp2_with fail
                  go_ret
                  exact ⟨A, 600, cap, rfl, by have := HKN.out; omega, by omega, hkc, by unfold maxLen; exact hcm, Rd.own HO.out, HB0.out.trans (HB.out.mono (by rw [HSZ0.out]; omega))⟩
                · have hk' : ¬ (600 : Int) ≤ (k : Int) := by omega
                  have hszr := HB.out.size
                  go_wp2_with (at_builtin; refine wpList_append_own _ rfl _ _ 42 rfl w0.heap.size 28 i0 (.agg #[.int .i64 0, .int .i64 0, .int .i64 0]) 3 24 Try.underlying42 hi.out hz0.out hz1.out hz2.out rfl (by decide) _ _ _ rfl (HO.out.alloc _) ⟨wr.heap.size, 0, none⟩ 1 1 [.int .i64 v, .int .i64 (i : Int), .int .i64 (q : Int)] rfl rfl ?g1 ?g2 ?g3 ?g4 ?g5 ?_)
                  case g2 => exact ⟨rfl, rfl, rfl⟩
                  case g3 => unfold maxLen; omega
                  case g4 => omega
                  case g5 => omega
                  intro v11 wc hown hg _
                  have hbc : Hid (Below w0.heap.size w0 wc) := ((HB.out.alloc hszr _).grown hg (by simp; omega) (fun g hg => (HO.out.lt g hg).1))
                  have HO2 : Hid (wc.ownsRow w0.heap.size 28 3 v11 (k + 1) (plcs D S (k + 1))) := by
                    show _
                    rw [plcs, HNX.out]
                    exact hown
                  have HK2 : Hid (((k + 1 : Nat) : Int) = 16 * (firstI D S v + (i : Int)) + ((q + 1 : Nat) : Int)) := by show _ = _; push_cast; rw [HK.out]; omega
                  clear hown hg
                  go_wp2_with fail
                  go_roundw
                  case rel => exact ⟨q + 1, k + 1, by omega, by omega, by go_num, HK2, HO2, hbc⟩
                  case measure => simp [intOf]; omega
              · obtain rfl : q = 16 := by omega
                go_wp2_with fail
                go_roundw
                case rel => exact ⟨i + 1, k, by omega, by omega, by go_num, (by show _ = _; rw [HK.out]; push_cast; omega), HO, HB⟩
                case measure => simp [intOf]; omega
          · obtain rfl : i = sg := by omega
            go_wp2_with fail
            go_roundw
            case rel => exact ⟨(v + 1 + 1).toNat, k, by omega, by omega, congrArg (Value.int .i64) (by omega), (by show _ = _; rw [HK.out, show (((v + 1 + 1).toNat : Nat) : Int) - 1 = v + 1 by omega, first_succ v1, HSG.out]), HO, HB⟩
            case measure => simp [intOf]; omega
    · obtain rfl : v = nv := by omega
      obtain ⟨A, cap, rfl, hkc, hcm⟩ := own_len HO.out
      have hkn : (k : Int) ≤ 16 * segsN D nv S := by rw [HK.out, firstI_all m5]; omega
      have HKN := Lib.hid hkn
      clear hkn
      go_wp2_with fail
      go_ret
      exact ⟨A, k, cap, rfl, HKN.out, hk6, hkc, hcm, Rd.own HO.out, HB0.out.trans (HB.out.mono (by rw [HSZ0.out]; omega))⟩
end Go.Proofs.Ytfjcclgambkieaa
