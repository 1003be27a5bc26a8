/-
  The statements' own examples of layer 6: they come out true; the blocks that are looked at.
-/
import Derived.Test.YtjibjojnkieliaaDoorSumLaw
import Derived.Test.YtjibjojnkieliaaDoorCrcAwake
namespace Go.Proofs.YtjibjojnkieliaaDoor
open Go.RowKit
set_option linter.unusedVariables false

theorem blocks_any (A : Option Addr) (n c : Nat) (ps : List Part) (w : World) (hl : ps.length = n) (hc : n ≤ c) (hcm : c ≤ maxLen) (hr : PartsIn w w.heap.size A ps) :
    Calls Tryd.prog 17 #[.slice A n c] w fun e w' => ∃ A1 A2 c1 c2, e = .returned (.tuple #[.slice A1 (cutL ps).length c1, .slice A2 (cutL ps).length c2]) ∧ PartsIn w' w'.heap.size A1 (cutL ps) ∧ Rd w' w'.heap.size A2 (strsV (octs (cutL ps))) ∧ Below w.heap.size w w' := by
  have hlen : (cutL ps).length = (ps.take 20).length := by simp [cutL]
  have hR : PartsIn w w.heap.size A (ps.take 20) := ⟨by rw [List.map_take]; exact hr.1.take 20, fun p hp => hr.2 p (List.mem_of_mem_take hp)⟩
  rw [hlen]
  refine blocks_cut A n (ps.take 20).length c (ps.take 20) w rfl (by rw [List.length_take]; omega) hR (by rw [List.length_take]; omega) ?_ hcm
  by_cases h : n ≤ 20
  · exact .inl ⟨h, by rw [List.length_take]; omega⟩
  · obtain ⟨b, o, rfl, _, _⟩ := hr.1.plain (by simp; omega)
    exact .inr ⟨by omega, by rw [List.length_take]; omega, ⟨b, o, rfl⟩, hc⟩

theorem noughts128' : cells128.toList = (List.replicate 128 (0 : UInt8)).map bv := by simp [cells128, zeroV, bv]
def z128 : List UInt8 := List.replicate 128 0
theorem z128_len : z128.length = 128 := by simp [z128]
def oneE : List En := [⟨1, 3, 0, 0⟩]
theorem one_ok : ptOk ⟨1, 0, true, oneE⟩ = true := by decide
theorem none_ok : ptOk ⟨1, 0, false, []⟩ = false := by decide
theorem held_z : heldB z128 = false := held_noughts
set_option maxRecDepth 100000 in
set_option maxHeartbeats 2000000 in
theorem awake_any (w : World) (ht : Tab w) : Calls Tryd.prog 12 #[] w fun e w' => e = .returned (.bool true) ∧ Below w.heap.size w w' := by
  have HT := Lib.hid ht
  have hmk := make128 w
  have K1 := Rd.new w 5 cells128 (0, 0)
  rw [noughts128'] at K1
  obtain ⟨ps, hps⟩ : ∃ ps : List Part, [((some ⟨w.heap.size, 0, none⟩, 128, z128) : Part)] = ps := ⟨_, rfl⟩
  have hpl : ps.length = 1 := by rw [← hps]; rfl
  have hpv : ps.map partV = [.slice (some ⟨w.heap.size, 0, none⟩) 128 128] := by rw [← hps]; simp [partV, z128]
  obtain ⟨w1, hw1⟩ : ∃ w1, w.alloc (.cells cells128 5) = w1 := ⟨_, rfl⟩
  have hz1 : w1.heap.size = w.heap.size + 1 := by rw [← hw1]; simp
  have HB1 : Hid (Below w.heap.size w w1) := by rw [← hw1]; exact (Below.refl _ _).alloc (Nat.le_refl _) _
  have HZ1 := Lib.hid hz1
  have HW1 := Lib.hid hw1
  rw [hw1] at hmk K1
  have HK1 := Lib.hid K1
  obtain ⟨w2, hw2⟩ : ∃ w2, w1.alloc (.cells #[.slice (some ⟨w.heap.size, 0, none⟩) 128 128] 26) = w2 := ⟨_, rfl⟩
  have HW2 := Lib.hid hw2
  have HB12 : Hid (Below w1.heap.size w1 w2) := by rw [← hw2]; exact (Below.refl _ _).alloc (Nat.le_refl _) _
  have HR2 : Hid (Rd w2 w2.heap.size (some ⟨w1.heap.size, 0, none⟩) (ps.map partV)) := by
    show Rd _ _ _ _
    rw [hpv, ← hw2, World.alloc_size']
    exact Rd.new w1 _ #[.slice (some ⟨w.heap.size, 0, none⟩) 128 128] (0, 0)
  have HD2 : Hid (∀ p ∈ ps, Rd w2 w2.heap.size p.1 (p.2.2.map bv) ∧ p.2.2.length ≤ p.2.1 ∧ p.2.1 ≤ maxLen) := by
    intro p hp
    rw [← hps] at hp
    simp at hp
    subst hp
    exact ⟨((K1.below (HB12.out.mono (by omega))).mono (by have := HB12.out.size; omega)), by simp [z128], by simp [maxLen]⟩
  have HPS := Lib.hid hps
  have HPL := Lib.hid hpl
  clear ht hps hpl hpv hz1 K1 hw1 hw2
  go_enter Tryd.func12, Tryd.ntmps12
  go_wp2_with fail
  rw [HW2.out]
  obtain ⟨w3, hw3⟩ : ∃ w3, w2.alloc (.cells #[.int .i64 1, .int .i64 3, .int .i64 0, .int .u32 0] 60) = w3 := ⟨_, rfl⟩
  have hz2 : w2.heap.size = w1.heap.size + 1 := by rw [← HW2.out]; simp
  have HB23 : Hid (Below w2.heap.size w2 w3) := by rw [← hw3]; exact (Below.refl _ _).alloc (Nat.le_refl _) _
  have HRE : Hid (Rd w3 w3.heap.size (some ⟨w1.heap.size + 1, 0, none⟩) (ensV oneE)) := by
    show Rd _ _ _ _
    rw [← hw3, World.alloc_size', ← hz2]
    exact Rd.new w2 _ #[.int .i64 1, .int .i64 3, .int .i64 0, .int .u32 0] (0, 0)
  have HP3 : Hid (PartsIn w3 w3.heap.size (some ⟨w1.heap.size, 0, none⟩) ps) := ⟨(HR2.out.below HB23.out).mono HB23.out.size, fun p hp => ⟨((HD2.out p hp).1.below HB23.out).mono HB23.out.size, (HD2.out p hp).2⟩⟩
  have HB3 : Hid (Below w.heap.size w w3) := HB1.out.trans ((HB12.out.mono (by have := HZ1.out; omega)).trans (HB23.out.mono (by have := HB12.out.size; have := HZ1.out; omega)))
  have hofk : ofOk 1 0 true oneE ps = true := by rw [ofOk, one_ok, HPL.out, ← HPS.out]; simp [all128, z128, oneE]
  have HQ0 : Hid (ofQ 1 0 true oneE ps = 0) := by show _ = _; rw [ofQ, hofk]; rfl
  obtain ⟨P, hP⟩ : ∃ P, ofP 1 0 true oneE ps = P := ⟨_, rfl⟩
  have HWP : Hid (WholeP P (octs ps)) := by
    show WholeP _ _
    rw [← hP, ofP, hofk, if_pos rfl]
    exact whole_of 1 0 true oneE (octs ps) one_ok ⟨by simp [octs, HPL.out, oneE], fun b hb => by
      rw [← HPS.out] at hb
      simp [octs] at hb
      subst hb
      exact z128_len⟩
  have HOF := Lib.hid (sumOf_any 1 0 true (some ⟨w1.heap.size + 1, 0, none⟩) (some ⟨w1.heap.size, 0, none⟩) 1 1 1 1 oneE ps w3 rfl HPL.out (by omega) (by omega) HRE.out HP3.out (HT.out.up HB3.out))
  rw [hP, HQ0.out] at HOF
  rw [hw3]
  clear hw3 hz2 hofk hP hmk
  refine HOF.out.mono ?_
  rintro e w4 ⟨v, rfl, hpt, hb4⟩
  obtain ⟨PA, PC, rfl, hpc, hpm, hprd⟩ := hpt
  have HB4 := Lib.hid (HB3.out.trans (hb4.mono HB3.out.size))
  have HP4 : Hid (PartsIn w4 w4.heap.size (some ⟨w1.heap.size, 0, none⟩) ps) := ⟨(HP3.out.1.below hb4).mono hb4.size, fun p hp => ⟨((HP3.out.2 p hp).1.below hb4).mono hb4.size, (HP3.out.2 p hp).2⟩⟩
  have HPR := Lib.hid hprd
  have HPC := Lib.hid (And.intro hpc hpm)
  clear hb4 hprd hpc hpm HOF
  obtain ⟨⟨Ps, Px, Pf, Pl⟩, hPd⟩ : ∃ Q, P = Q := ⟨_, rfl⟩
  subst hPd
  unfold ptV
  simp only
  have HBX := Lib.hid ((Below.refl w4.heap.size w4).alloc (Nat.le_refl _) (.cells #[.int .i64 Ps, .int .i64 Px, .bool Pf, .slice PA Pl.length PC] 24))
  have KX := Lib.hid (Bk.new w4 24 #[.int .i64 Ps, .int .i64 Px, .bool Pf, .slice PA Pl.length PC])
  have HEN := Lib.hid (fun w' => sumEncode_no 1 0 false 0 none 0 0 [] w' rfl (by omega) Rd.nil_ (Nat.zero_le _) none_ok)
  unfold ptV at HEN
  go_wp2_with fail
  refine (HEN.out _).mono ?_
  rintro e w5 ⟨rfl, hb5⟩
  have HB45 : Hid (Below w4.heap.size w4 w5) := HBX.out.trans (hb5.mono HBX.out.size)
  have KX := Lib.hid (KX.out.below hb5 KX.out.lt)
  have hmk5 := make128 w5
  have K6 := Rd.new w5 5 cells128 (0, 0)
  rw [noughts128'] at K6
  obtain ⟨w6, hw6⟩ : ∃ w6, w5.alloc (.cells cells128 5) = w6 := ⟨_, rfl⟩
  have hz6 : w6.heap.size = w5.heap.size + 1 := by rw [← hw6]; simp
  have HB56 : Hid (Below w5.heap.size w5 w6) := by rw [← hw6]; exact (Below.refl _ _).alloc (Nat.le_refl _) _
  have KX := Lib.hid (KX.out.below HB56.out KX.out.lt)
  have HB46 : Hid (Below w4.heap.size w4 w6) := HB45.out.trans (HB56.out.mono HB45.out.size)
  rw [hw6] at hmk5 K6
  have HDE := Lib.hid (sumDecode_any (w5.heap.size + 1) (some ⟨w5.heap.size, 0, none⟩) 128 128 z128 w6 z128_len K6 (by omega) (by omega) (by unfold maxLen; omega) (HT.out.up (HB4.out.trans (HB46.out.mono HB4.out.size))))
  rw [decQ_short held_z] at HDE
  clear hb5 K6 hw6 hz6 HB45 HBX
  go_wp2_with fail
  refine HDE.out.mono ?_
  rintro e w7 ⟨v7, rfl, hpt7, hb7⟩
  obtain ⟨A7, c7, rfl, -, -, -⟩ := hpt7
  have HB47 := Lib.hid (HB46.out.trans (hb7.mono HB46.out.size))
  have KX := Lib.hid (KX.out.below hb7 KX.out.lt)
  clear hb7 HDE hmk5
  unfold ptV
  have HBY := Lib.hid ((Below.refl w7.heap.size w7).alloc (Nat.le_refl _) (.cells #[.int .i64 (decR z128).seq, .int .i64 (decR z128).next, .bool (decR z128).fin, .slice A7 (decR z128).l.length c7] 24))
  have KX := Lib.hid (KX.out.alloc (.cells #[.int .i64 (decR z128).seq, .int .i64 (decR z128).next, .bool (decR z128).fin, .slice A7 (decR z128).l.length c7] 24))
  have HB48 : Hid (Below w4.heap.size w4 _) := HB47.out.trans (HBY.out.mono HB47.out.size)
  obtain ⟨d0, d1, d2, d3, -⟩ := ent_cells KX.out
  go_wp2_with fail
  have HWH := sumWhole_any Ps Px Pf PA (some ⟨w1.heap.size, 0, none⟩) Pl.length PC 1 1 Pl ps true _ rfl HPL.out (by have h1 : Pl.length ≤ PC := HPC.out.1; have h2 : PC ≤ maxLen := HPC.out.2; unfold maxLen at h2; omega) (by omega) ((HPR.out.below HB48.out).mono HB48.out.size) ⟨(HP4.out.1.below HB48.out).mono HB48.out.size, fun p hp => ⟨((HP4.out.2 p hp).1.below HB48.out).mono HB48.out.size, (HP4.out.2 p hp).2⟩⟩ (HT.out.up (HB4.out.trans (HB48.out.mono HB4.out.size))) ⟨fun _ => HWP.out, fun _ => rfl⟩
  unfold ptV at HWH
  refine HWH.mono ?_
  rintro e w9 ⟨rfl, hb9⟩
  have HB9 := Lib.hid ((HB4.out.trans (HB48.out.mono HB4.out.size)).trans (hb9.mono (by have := HB4.out.size; have := HB48.out.size; omega)))
  clear hb9 HWH
  go_wp2
  go_ret
  exact ⟨rfl, HB9.out⟩
end Go.Proofs.YtjibjojnkieliaaDoor
