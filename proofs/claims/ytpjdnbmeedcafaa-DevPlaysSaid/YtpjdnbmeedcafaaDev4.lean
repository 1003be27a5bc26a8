/-
  On, Fault, Spoil, Write and Erase.
-/
import Derived.Test.YtpjdnbmeedcafaaDev3
import Derived.Maps.AppendAt
namespace Go.Proofs.Ytpjdnbmeedcafaa
open Go.RowKit Go.Maps
set_option linter.unusedVariables false

theorem Dv.Ok.pends {D : Dv} (h : D.Ok) {l : List (Nat × List UInt8)} (hl : ∀ p ∈ l, p.1 < D.n ∧ p.2.length = 128) : ({ D with pend := l } : Dv).Ok := ⟨h.n1, h.n2, h.has, hl, h.flt, h.bud⟩
/-- nothing is pending any more -/
theorem DevAt.drop {w : World} {base sb bb mb : Nat} {pv : Value} {D : Dv} (h : DevAt w base sb bb mb pv D) : Turn base sb bb mb w pv (w.setCell ⟨sb, 1, none⟩ (.slice none 0 0)) (.slice none 0 0) { D with pend := [] } := by
  obtain ⟨a1, a2, a3, a4, a5, a6⟩ := h.apart
  obtain ⟨C, hC, hC'⟩ := h.blk
  obtain ⟨E, hE, hE'⟩ := h.flt
  refine ⟨⟨h.ok.pends (fun p hp => by cases hp), h.str.set_ 1 _, ⟨C, hC.far (Ne.symm a1) _, hC'⟩, ?_, ⟨E, map_keep hE (Below.heap_setCell _ _ _ _ (Ne.symm a2)), hE'⟩, h.bsb, h.bbb, h.bmb⟩, (Fr.refl _ _).setCell (.inl (.inl rfl)) _, fun k hk => by simp [Value.ownBlock] at hk⟩
  exact World.ownsRow_nil _ _ _ _
theorem Dv.Ok.pows {D : Dv} (h : D.Ok) (p : Bool) : ({ D with pow := p } : Dv).Ok := ⟨h.n1, h.n2, h.has, h.pend, h.flt, h.bud⟩
theorem Dv.Ok.buds {D : Dv} (h : D.Ok) (b : Int) (hb : -1 ≤ b ∧ b ≤ 9223372036854775807) : ({ D with bud := b } : Dv).Ok := ⟨h.n1, h.n2, h.has, h.pend, h.flt, hb⟩

theorem On_any {base sb bb mb : Nat} {pv : Value} {D : Dv} (w : World) (h : DevAt w base sb bb mb pv D) :
    Calls Try.prog 21 #[.pointer (some ⟨sb, 0, none⟩)] w fun e w' => e = .returned (.tuple #[]) ∧ Turn base sb bb mb w pv w' (.slice none 0 0) { D with pow := true, bud := -1, pend := [] } := by
  have HD := Lib.hid h
  have h1 := h.c1
  have h3 := h.c3
  have h4 := h.c4
  have f1 := h.fz 1
  have f3 := h.fz 3
  have f4 := h.fz 4
  clear h
  go_enter Try.func21, Try.ntmps21
  go_wp2
  go_end0
  have t1 := HD.out.put (D' := { D with pow := true }) 4 (.bool true) (by omega) (HD.out.ok.pows _) rfl rfl rfl rfl rfl rfl
  have t2 := t1.dev.put (D' := { D with pow := true, bud := -1 }) 3 (.int .i64 (-1)) (by omega) (t1.dev.ok.buds _ (by omega)) rfl rfl rfl rfl rfl rfl
  exact ⟨rfl, (t1.trans t2).trans t2.dev.drop⟩

/-! ### Fault -/
def setF (f : Int → Int) (i k : Int) : Int → Int := fun j => if j = i then k else f j
def faultD (D : Dv) (i k : Int) : Dv := { D with flt := setF D.flt i k, cnt := D.cnt + 1 }
theorem setF_ok {D : Dv} (h : D.Ok) (i k : Int) (hk : 0 ≤ k ∧ k ≤ 3) (c : Nat) : ({ D with flt := setF D.flt i k, cnt := c } : Dv).Ok := ⟨h.n1, h.n2, h.has, h.pend, fun j => by
  show 0 ≤ setF D.flt i k j ∧ setF D.flt i k j ≤ 3
  unfold setF
  split
  · exact hk
  · exact h.flt j, h.bud⟩
theorem DevAt.map {w : World} {base sb bb mb : Nat} {pv : Value} {D : Dv} (h : DevAt w base sb bb mb pv D) {w' : World} (hg : w.grownBy w' (some mb)) {f : Int → Int} {c : Nat} (hok : ({ D with flt := f, cnt := c } : Dv).Ok)
    {C : DataW Unit} (hC : w'.ownsMap Try.prog 3 (plainElem Try.prog 3) mb c C) (hat : ∀ i : Int, C.atKey (.int .i64 i) (.lit (.int .i64 0)) = .lit (.int .i64 (f i))) :
    Turn base sb bb mb w pv w' pv { D with flt := f, cnt := c } := by
  obtain ⟨a1, a2, a3, a4, a5, a6⟩ := h.apart
  obtain ⟨B, hB, hB'⟩ := h.blk
  refine ⟨⟨hok, (hg.block sb h.str.lt (by simpa using a2)).trans h.str, ⟨B, (hg.block bb hB.lt (by simpa using a3)).trans hB, hB'⟩, own_keep h.pen fun k hk => hg.block k (own_lt h.pen hk).2.1 (fun e => by injection e with e; subst e; exact a6 hk), ⟨C, hC, hat⟩, h.bsb, h.bbb, h.bmb⟩, (Fr.refl _ _).grown hg fun k hk => by injection hk with hk; subst hk; exact .inl (.inr (.inr (.inl rfl))), fun k hk => .inl hk⟩

theorem Fault_no {base sb bb mb : Nat} {pv : Value} {D : Dv} (i k : Int) (w : World) (h : DevAt w base sb bb mb pv D) (hi : inN D.n i = false) :
    Calls Try.prog 23 #[.pointer (some ⟨sb, 0, none⟩), .int .i64 i, .int .i64 k] w fun e w' => e = .returned (.int .i64 4) ∧ w = w' := by
  have HD := Lib.hid h
  have HT := Lib.hid hi
  clear h hi
  go_enter Try.func23, Try.ntmps23
  go_wp2_with fail
  refine (isBlock_any i false _ HD.out HT.out).mono ?_
  rintro e w1 ⟨rfl, rfl⟩
  go_wp2
  go_ret
  exact ⟨rfl, rfl⟩
theorem Fault_kind {base sb bb mb : Nat} {pv : Value} {D : Dv} (i k : Int) (w : World) (h : DevAt w base sb bb mb pv D) (hi : inN D.n i = true) (hk : k < 0 ∨ 3 < k) :
    Calls Try.prog 23 #[.pointer (some ⟨sb, 0, none⟩), .int .i64 i, .int .i64 k] w fun e w' => e = .returned (.int .i64 1) ∧ w = w' := by
  have HD := Lib.hid h
  have HT := Lib.hid hi
  clear h hi
  by_cases h0 : k < 0
  · clear hk
    have hd : decide (k < 0) = true := by simpa using h0
    go_enter Try.func23, Try.ntmps23
    go_wp2_with fail
    refine (isBlock_any i true _ HD.out HT.out).mono ?_
    rintro e w1 ⟨rfl, rfl⟩
    go_wp2
    go_ret
    exact ⟨rfl, rfl⟩
  · have h3 : 3 < k := by omega
    have hd : decide (k < 0) = false := by simpa using h0
    clear hk
    go_enter Try.func23, Try.ntmps23
    go_wp2_with fail
    refine (isBlock_any i true _ HD.out HT.out).mono ?_
    rintro e w1 ⟨rfl, rfl⟩
    go_wp2
    go_ret
    exact ⟨rfl, rfl⟩
theorem Fault_yes {base sb bb mb : Nat} {pv : Value} {D : Dv} (i : Nat) (k : Int) (w : World) (h : DevAt w base sb bb mb pv D) (hi : i < D.n) (hk : 0 ≤ k ∧ k ≤ 3) (hc : D.cnt ≤ 1000) :
    Calls Try.prog 23 #[.pointer (some ⟨sb, 0, none⟩), .int .i64 i, .int .i64 k] w fun e w' => e = .returned (.int .i64 0) ∧ Turn base sb bb mb w pv w' pv (faultD D i k) := by
  have HD := Lib.hid h
  have HT := Lib.hid (show inN D.n i = true by simp [inN]; omega)
  have HOK := Lib.hid (setF_ok h.ok i k hk (D.cnt + 1))
  have h2 := h.c2
  have hn := h.ok.n2
  obtain ⟨C, hown, hat⟩ := h.flt
  have HAT := Lib.hid hat
  have HOWN := Lib.hid hown
  have HC := Lib.hid hc
  have hwf : (Lit.int .i64 (i : Int)).wf = true := WalkArith.wf_i64 (by omega)
  have hwk : (Lit.int .i64 k).wf = true := WalkArith.wf_i64 (by omega)
  have hkey := keyOf_int_mk (P := Try.prog) Try.underlying3 hwf
  have HK := Lib.hid hkey
  obtain ⟨k0, k3⟩ := hk
  clear h hat hown hc hkey
  by_cases hz : k = 0
  · subst hz
    go_enter Try.func23, Try.ntmps23
    go_wp2_with fail
    refine (isBlock_any _ true _ HD.out HT.out).mono ?_
    rintro e w1 ⟨rfl, rfl⟩
    go_wp2_with (at_delete; refine wpList_delete_own _ rfl _ _ 59 3 rfl 3 keyed_int under_map _ mb _ _ rfl HOWN.out _ _ rfl HK.out ?_)
    intro w1 hown1 hturn1
    have HO1 := Lib.hid hown1
    have HT1 := Lib.hid hturn1
    clear hown1 hturn1
    go_wp2
    go_ret
    refine ⟨rfl, HD.out.map HT1.out.grown HOK.out (HO1.out.mono (Nat.le_succ _)) fun j => ?_⟩
    unfold setF
    by_cases e : j = (i : Int)
    · subst e
      rw [if_pos rfl]
      exact atKey_del_same _
    · rw [if_neg e, ← HAT.out j]
      exact atKey_del_other (fun e' => e (by injection e')) _
  · have hzd : (k == 0) = false := by simpa using hz
    have hwe : Hid (plainElem (H := Unit) Try.prog 3 (.int .i64 k) = some (.lit (.int .i64 k), [])) := plainElem_int Try.underlying3 hwk
    have hd1 : decide (k < 0) = false := by simpa using k0
    have hd2 : decide (3 < k) = false := by simpa using k3
    clear hwk
    go_enter Try.func23, Try.ntmps23
    go_wp2_with fail
    refine (isBlock_any _ true _ HD.out HT.out).mono ?_
    rintro e w1 ⟨rfl, rfl⟩
    go_wp2_with (at_mapUpdate; refine wpList_mapUpdate_own _ rfl _ _ _ 59 rfl 3 3 keyed_int under_map _ mb _ _ rfl HOWN.out (by have := HC.out; unfold maxLen; omega) _ _ _ rfl rfl HK.out _ _ hwe.out ?_)
    intro w1 hown1 hturn1
    have HO1 := Lib.hid hown1
    have HT1 := Lib.hid hturn1
    clear hown1 hturn1
    go_wp2
    go_ret
    refine ⟨rfl, HD.out.map HT1.out HOK.out HO1.out fun j => ?_⟩
    unfold setF
    by_cases e : j = (i : Int)
    · subst e
      rw [if_pos rfl]
      exact atKey_put_same (k := .int .i64 (i : Int)) HOWN.out.isMap trivial _ _
    · rw [if_neg e, ← HAT.out j]
      exact atKey_put_other (fun e' => e (by injection e')) _ _
end Go.Proofs.Ytpjdnbmeedcafaa
