/-
  What the functions of package dev do that read a device, or write one field of it: one contract each.
-/
import Derived.Test.YtpjdnbmeedcafaaDevMem
import Derived.Outline
import Derived.BigQuiet
import Derived.IntWalk
import Derived.Deep.RegionHeld3
import Derived.StillTailTactics
namespace Go.Proofs.Ytpjdnbmeedcafaa
open Go.RowKit Go.Maps
set_option linter.unusedVariables false

def inN (n : Nat) (i : Int) : Bool := decide (0 ≤ i ∧ i < n)
theorem inN_yes {n : Nat} {i : Int} (h : inN n i = true) : 0 ≤ i ∧ i < n := by simpa [inN] using h
theorem inN_no {n : Nat} {i : Int} (h : inN n i = false) : i < 0 ∨ n ≤ i := by
  have : ¬ (0 ≤ i ∧ i < n) := by simpa [inN] using h
  omega

section
variable {w : World} {base sb bb mb : Nat} {pv : Value} {D : Dv}
theorem DevAt.c0 (h : DevAt w base sb bb mb pv D) : w.cell? ⟨sb, 0, none⟩ = some (.slice (some ⟨bb, 0, none⟩) D.n D.n) := h.str.cell 0
theorem DevAt.c1 (h : DevAt w base sb bb mb pv D) : w.cell? ⟨sb, 1, none⟩ = some pv := h.str.cell 1
theorem DevAt.c2 (h : DevAt w base sb bb mb pv D) : w.cell? ⟨sb, 2, none⟩ = some (.map (some mb)) := h.str.cell 2
theorem DevAt.c3 (h : DevAt w base sb bb mb pv D) : w.cell? ⟨sb, 3, none⟩ = some (.int .i64 D.bud) := h.str.cell 3
theorem DevAt.c4 (h : DevAt w base sb bb mb pv D) : w.cell? ⟨sb, 4, none⟩ = some (.bool D.pow) := h.str.cell 4
theorem DevAt.c5 (h : DevAt w base sb bb mb pv D) : w.cell? ⟨sb, 5, none⟩ = some (.bool D.mnt) := h.str.cell 5
theorem DevAt.fz (h : DevAt w base sb bb mb pv D) (i : Nat) : w.frozen? ⟨sb, i, none⟩ = false := h.str.free i

/-- one plain field is written -/
theorem DevAt.put (h : DevAt w base sb bb mb pv D) {D' : Dv} (i : Nat) (u : Value) (hi : 3 ≤ i) (hok : D'.Ok) (hn : D'.n = D.n) (hh : D'.has = D.has) (hp : D'.pend = D.pend) (hf : D'.flt = D.flt) (hc : D'.cnt = D.cnt)
    (hcells : (dcells bb mb pv D).setIfInBounds i u = dcells bb mb pv D') : Turn base sb bb mb w pv (w.setCell ⟨sb, i, none⟩ u) pv D' := by
  obtain ⟨a1, a2, a3, a4, a5, a6⟩ := h.apart
  obtain ⟨C, hC, hC'⟩ := h.blk
  obtain ⟨E, hE, hE'⟩ := h.flt
  refine ⟨⟨hok, ?_, ⟨C, hC.far (Ne.symm a1) _, by rw [hn, hh]; exact hC'⟩, ?_, ⟨E, ?_, by rw [hf]; exact hE'⟩, h.bsb, h.bbb, h.bmb⟩, (Fr.refl _ _).setCell (.inl (.inl rfl)) _, fun k hk => .inl hk⟩
  · rw [← hcells]; exact h.str.set_ i u
  · rw [hp]
    exact own_keep h.pen fun k hk => Below.heap_setCell _ _ _ _ (fun e => by subst e; exact a4 hk)
  · rw [hc]
    exact map_keep hE (Below.heap_setCell _ _ _ _ (Ne.symm a2))
end

theorem isBlock_any {base sb bb mb : Nat} {pv : Value} {D : Dv} (i : Int) (t : Bool) (w : World) (h : DevAt w base sb bb mb pv D) (ht : inN D.n i = t) :
    Calls Try.prog 33 #[.pointer (some ⟨sb, 0, none⟩), .int .i64 i] w fun e w' => e = .returned (.bool t) ∧ w = w' := by
  have h0 := h.c0
  clear h
  cases t
  · rcases inN_no ht with h3 | h3
    · have hd : decide (0 ≤ i) = false := by simpa using h3
      clear ht
      go_enter Try.func33, Try.ntmps33
      go_wp2
      go_ret
      exact ⟨rfl, rfl⟩
    · have hd : decide (i < (D.n : Int)) = false := by simpa using h3
      have hd2 : decide (0 ≤ i) = true := by simp; omega
      clear ht
      go_enter Try.func33, Try.ntmps33
      go_wp2
      go_ret
      exact ⟨rfl, rfl⟩
  · obtain ⟨h3, h4⟩ := inN_yes ht
    clear ht
    go_enter Try.func33, Try.ntmps33
    go_wp2
    go_ret
    exact ⟨rfl, rfl⟩

theorem Size_any {base sb bb mb : Nat} {pv : Value} {D : Dv} (w : World) (h : DevAt w base sb bb mb pv D) :
    Calls Try.prog 42 #[.pointer (some ⟨sb, 0, none⟩)] w fun e w' => e = .returned (.int .i64 D.n) ∧ w = w' := by
  have h0 := h.c0
  clear h
  go_enter Try.func42, Try.ntmps42
  go_wp2
  go_ret
  exact ⟨rfl, rfl⟩
theorem Power_any {base sb bb mb : Nat} {pv : Value} {D : Dv} (w : World) (h : DevAt w base sb bb mb pv D) :
    Calls Try.prog 30 #[.pointer (some ⟨sb, 0, none⟩)] w fun e w' => e = .returned (.bool D.pow) ∧ w = w' := by
  have h4 := h.c4
  clear h
  go_enter Try.func30, Try.ntmps30
  go_wp2
  go_ret
  exact ⟨rfl, rfl⟩
theorem Mounted_any {base sb bb mb : Nat} {pv : Value} {D : Dv} (w : World) (h : DevAt w base sb bb mb pv D) :
    Calls Try.prog 43 #[.pointer (some ⟨sb, 0, none⟩)] w fun e w' => e = .returned (.bool D.mnt) ∧ w = w' := by
  have h5 := h.c5
  clear h
  go_enter Try.func43, Try.ntmps43
  go_wp2
  go_ret
  exact ⟨rfl, rfl⟩
theorem Mount_any {base sb bb mb : Nat} {pv : Value} {D : Dv} (t : Bool) (w : World) (h : DevAt w base sb bb mb pv D) :
    Calls Try.prog 24 #[.pointer (some ⟨sb, 0, none⟩), .bool t] w fun e w' => e = .returned (.tuple #[]) ∧ Turn base sb bb mb w pv w' pv { D with mnt := t } := by
  have HD := Lib.hid h
  have h5 := h.c5
  have f5 := h.fz 5
  clear h
  go_enter Try.func24, Try.ntmps24
  go_wp2
  refine bodyPost_end (results_none rfl _ _ _) rfl ?_
  exact ⟨rfl, HD.out.put 5 _ (by omega) ⟨HD.out.ok.n1, HD.out.ok.n2, HD.out.ok.has, HD.out.ok.pend, HD.out.ok.flt, HD.out.ok.bud⟩ rfl rfl rfl rfl rfl rfl⟩

/-- may the budget be that? -/
theorem Budget_yes {base sb bb mb : Nat} {pv : Value} {D : Dv} (n : Int) (w : World) (h : DevAt w base sb bb mb pv D) (h0 : -1 ≤ n) (h1 : n ≤ 9223372036854775807) :
    Calls Try.prog 18 #[.pointer (some ⟨sb, 0, none⟩), .int .i64 n] w fun e w' => e = .returned (.int .i64 0) ∧ Turn base sb bb mb w pv w' pv { D with bud := n } := by
  have HD := Lib.hid h
  have h3 := h.c3
  have f3 := h.fz 3
  have hd : decide (n < -1) = false := by simpa using h0
  clear h
  go_enter Try.func18, Try.ntmps18
  go_wp2
  go_ret
  exact ⟨rfl, HD.out.put 3 _ (by omega) ⟨HD.out.ok.n1, HD.out.ok.n2, HD.out.ok.has, HD.out.ok.pend, HD.out.ok.flt, ⟨h0, h1⟩⟩ rfl rfl rfl rfl rfl rfl⟩
theorem Budget_no {base sb bb mb : Nat} {pv : Value} {D : Dv} (n : Int) (w : World) (h : DevAt w base sb bb mb pv D) (h0 : n < -1) :
    Calls Try.prog 18 #[.pointer (some ⟨sb, 0, none⟩), .int .i64 n] w fun e w' => e = .returned (.int .i64 1) ∧ w = w' := by
  have hd : decide (n < -1) = true := by simpa using h0
  clear h
  go_enter Try.func18, Try.ntmps18
  go_wp2
  go_ret
  exact ⟨rfl, rfl⟩

/-! ### the budget is spent -/
def startE (D : Dv) : Int := if D.bud = 0 ∨ D.pow = false then 10 else if D.mnt = false then 9 else 0
def startD (D : Dv) : Dv := if D.bud = 0 then { D with pow := false } else if D.pow = true ∧ 0 < D.bud then { D with bud := D.bud - 1 } else D
theorem startD_ok {D : Dv} (h : D.Ok) : (startD D).Ok := by
  obtain ⟨h1, h2, h3, h4, h5, h6⟩ := h
  unfold startD
  split
  · exact ⟨h1, h2, h3, h4, h5, h6⟩
  · split
    · exact ⟨h1, h2, h3, h4, h5, by show -1 ≤ D.bud - 1 ∧ D.bud - 1 ≤ _; omega⟩
    · exact ⟨h1, h2, h3, h4, h5, h6⟩

theorem start_any {base sb bb mb : Nat} {pv : Value} {D : Dv} (w : World) (h : DevAt w base sb bb mb pv D) :
    Calls Try.prog 37 #[.pointer (some ⟨sb, 0, none⟩)] w fun e w' => e = .returned (.int .i64 (startE D)) ∧ Turn base sb bb mb w pv w' pv (startD D) := by
  have HD := Lib.hid h
  have HOK := Lib.hid (startD_ok h.ok)
  have h3 := h.c3
  have h4 := h.c4
  have h5 := h.c5
  have f3 := h.fz 3
  have f4 := h.fz 4
  obtain ⟨b1, b2⟩ := h.ok.bud
  clear h
  obtain ⟨b, hb⟩ : ∃ b, D.bud = b := ⟨_, rfl⟩
  obtain ⟨p, hp⟩ : ∃ p, D.pow = p := ⟨_, rfl⟩
  obtain ⟨m, hm⟩ : ∃ m, D.mnt = m := ⟨_, rfl⟩
  rw [hb] at h3 b1 b2
  rw [hp] at h4
  rw [hm] at h5
  have HB := Lib.hid hb
  have HP := Lib.hid hp
  have HM := Lib.hid hm
  clear hb hp hm
  by_cases e0 : b = 0
  · subst e0
    go_enter Try.func37, Try.ntmps37
    go_wp2
    go_ret
    have e1 : startE D = 10 := by unfold startE; rw [if_pos (.inl HB.out)]
    have e2 : startD D = { D with pow := false } := by unfold startD; rw [if_pos HB.out]
    rw [e1, e2]
    refine ⟨rfl, HD.out.put 4 _ (by omega) (e2 ▸ HOK.out) rfl rfl rfl rfl rfl rfl⟩
  · have g0 : (b == 0) = false := by simpa using e0
    cases p
    · go_enter Try.func37, Try.ntmps37
      go_wp2
      go_ret
      have e1 : startE D = 10 := by unfold startE; rw [if_pos (.inr HP.out)]
      have e2 : startD D = D := by unfold startD; rw [if_neg (by rw [HB.out]; exact e0), if_neg (by rw [HP.out]; simp)]
      rw [e1, e2]
      exact ⟨rfl, Turn.refl HD.out⟩
    · by_cases e3 : 0 < b
      · have g3 : decide (b > 0) = true := by simpa using e3
        cases m
        all_goals
          go_enter Try.func37, Try.ntmps37
          go_wp2
          go_ret
          have e2 : startD D = { D with bud := b - 1 } := by unfold startD; rw [if_neg (by rw [HB.out]; exact e0), if_pos ⟨HP.out, by rw [HB.out]; exact e3⟩, HB.out]
          have e1 : startE D = if D.mnt = false then 9 else 0 := by unfold startE; rw [if_neg (by rw [HB.out, HP.out]; simp [e0])]
          rw [e1, e2]
          exact ⟨by rw [HM.out]; rfl, HD.out.put 3 _ (by omega) (e2 ▸ HOK.out) rfl rfl rfl rfl rfl rfl⟩
      · have g3 : decide (b > 0) = false := by simpa using e3
        cases m
        all_goals
          go_enter Try.func37, Try.ntmps37
          go_wp2
          go_ret
          have e2 : startD D = D := by unfold startD; rw [if_neg (by rw [HB.out]; exact e0), if_neg (by rw [HB.out]; simp [e3])]
          have e1 : startE D = if D.mnt = false then 9 else 0 := by unfold startE; rw [if_neg (by rw [HB.out, HP.out]; simp [e0])]
          rw [e1, e2]
          exact ⟨by rw [HM.out]; rfl, Turn.refl HD.out⟩
end Go.Proofs.Ytpjdnbmeedcafaa
