/-
  What the document's Tier of layer 3 is: a contract.
-/
import Derived.Test.YtfjcclgambkieaaAddrLaw3
namespace Go.Proofs.Ytfjcclgambkieaa
open Go.RowKit
set_option linter.unusedVariables false

set_option maxHeartbeats 1000000 in
theorem refTier_any (D L V S a : Int) (w : World) (h : mayB D L V S = true) :
    Calls Try.prog 22 #[.agg #[.int .i64 D, .int .i64 L, .int .i64 V, .int .i64 S], .int .i64 a] w fun e w' => e = .returned (.int .i64 (tierI D L V S a)) ∧ Below w.heap.size w w' := by
  obtain ⟨m1, m2, m3, m4, m5, m6, m7, m8⟩ := mayB_yes h
  have H := Lib.hid h
  clear h
  obtain ⟨t, ht⟩ : ∃ t, inB 1 (16 * segsN D V S) a = t := ⟨_, rfl⟩
  obtain ⟨s, hs⟩ : ∃ s, (a - 1) / 16 = s := ⟨_, rfl⟩
  obtain ⟨v, hv⟩ : ∃ v, volI D S s = v := ⟨_, rfl⟩
  obtain ⟨g, hg⟩ : ∃ g, segI D S s = g := ⟨_, rfl⟩
  have HE : Hid (tierI D L V S a = if t then (if s < D - L then 0 else if s < D then 1 else 2) else -1) := by show _ = _; unfold tierI; rw [ht, hs]
  have hcase : (s < D - L ∧ v = -1 ∧ g = s) ∨ (¬ s < D - L ∧ s < D ∧ v = -1 ∧ g = s) ∨ (¬ s < D - L ∧ ¬ s < D ∧ 0 ≤ v) := by
    rw [← hv, ← hg]
    unfold volI segI
    by_cases h1 : s < D
    · rw [if_pos h1, if_pos h1]; omega
    · rw [if_neg (by omega), if_neg (by omega)]
      have := Int.ediv_nonneg (a := s - D) (b := S) (by omega) (by omega)
      omega
  have HT := Lib.hid ht
  have HS := Lib.hid hs
  have HV := Lib.hid hv
  have HG := Lib.hid hg
  clear ht hs hv hg
  go_enter Try.func22, Try.ntmps22
  go_wp2_with fail
  have G0 := Lib.hid (Geo.new w 23 D L V S)
  have HB0 := Lib.hid (Below.alloc (Below.refl w.heap.size w) (Nat.le_refl _) (.cells #[.int .i64 D, .int .i64 L, .int .i64 V, .int .i64 S] 23))
  with_reducible refine (refWhere_any _ _ _ _ _ _ _ H.out HT.out).mono ?_
  rintro e w1 ⟨rfl, hb1⟩
  rw [HS.out, HV.out, HG.out]
  have G1 := Lib.hid (G0.out.up hb1)
  have HB1 := Lib.hid (HB0.out.trans (hb1.mono HB0.out.size))
  have hs1 := HB1.out.size
  clear hb1 HB0 G0
  obtain ⟨c0, c1, c2, c3⟩ := G1.out
  have hlt := World.block_lt_of_cell? w1 _ c0
  cases t
  · go_wp2
    go_ret
    exact ⟨ret_int HE.out.symm, HB1.out.alloc hs1 _⟩
  · simp only [if_true]
    rcases hcase with ⟨h1, rfl, rfl⟩ | ⟨h1, h2, rfl, rfl⟩ | ⟨h1, h2, h3⟩
    · have HE2 : Hid (tierI D L V S a = 0) := by rw [HE.out, if_pos rfl, if_pos (by omega)]; rfl
      go_wp2
      go_ret
      exact ⟨ret_int HE2.out.symm, HB1.out.alloc hs1 _⟩
    · have HE2 : Hid (tierI D L V S a = 1) := by rw [HE.out, if_pos rfl, if_neg (by omega), if_pos (by omega)]; rfl
      go_wp2
      go_ret
      exact ⟨ret_int HE2.out.symm, HB1.out.alloc hs1 _⟩
    · have HE2 : Hid (tierI D L V S a = 2) := by rw [HE.out, if_pos rfl, if_neg (by omega), if_neg (by omega)]; rfl
      go_wp2
      go_ret
      exact ⟨ret_int HE2.out.symm, HB1.out.alloc hs1 _⟩
end Go.Proofs.Ytfjcclgambkieaa
