/-
  What the document's own device does that reads, or writes one field.
-/
import Derived.Test.YtpjdnbmeedcafaaRefMem
import Derived.BigQuiet
namespace Go.Proofs.Ytpjdnbmeedcafaa
open Go.RowKit
set_option linter.unusedVariables false

section
variable {w : World} {base rb : Nat} {hv fv lv : Value} {D : Dv}
theorem RefAt.c0 (h : RefAt w base rb hv fv lv D) : w.cell? ⟨rb, 0, none⟩ = some hv := h.cel.cell 0
theorem RefAt.c1 (h : RefAt w base rb hv fv lv D) : w.cell? ⟨rb, 1, none⟩ = some fv := h.cel.cell 1
theorem RefAt.c2 (h : RefAt w base rb hv fv lv D) : w.cell? ⟨rb, 2, none⟩ = some lv := h.cel.cell 2
theorem RefAt.c3 (h : RefAt w base rb hv fv lv D) : w.cell? ⟨rb, 3, none⟩ = some (.int .i64 D.bud) := h.cel.cell 3
theorem RefAt.c4 (h : RefAt w base rb hv fv lv D) : w.cell? ⟨rb, 4, none⟩ = some (.bool (!D.pow)) := h.cel.cell 4
theorem RefAt.c5 (h : RefAt w base rb hv fv lv D) : w.cell? ⟨rb, 5, none⟩ = some (.bool (!D.mnt)) := h.cel.cell 5
theorem RefAt.fz (h : RefAt w base rb hv fv lv D) (i : Nat) : w.frozen? ⟨rb, i, none⟩ = false := h.cel.free i
end

def failB (D : Dv) : Bool := decide (D.bud = 0 ∨ D.pow = false)
theorem fails_any {base rb : Nat} {hv fv lv : Value} {D : Dv} (w : World) (h : RefAt w base rb hv fv lv D) :
    Calls Try.prog 38 #[.pointer (some ⟨rb, 0, none⟩)] w fun e w' => e = .returned (.bool (failB D)) ∧ RefAt w' base rb hv fv lv (startD D) ∧ Fr (FootR rb hv fv lv) w w' := by
  have HD := Lib.hid h
  have HOK := Lib.hid (startD_ok h.ok)
  have h3 := h.c3
  have h4 := h.c4
  have f3 := h.fz 3
  have f4 := h.fz 4
  obtain ⟨b1, b2⟩ := h.ok.bud
  obtain ⟨b, hb⟩ : ∃ b, D.bud = b := ⟨_, rfl⟩
  obtain ⟨p, hp⟩ : ∃ p, D.pow = p := ⟨_, rfl⟩
  rw [hb] at h3 b1 b2
  rw [hp] at h4
  have HB := Lib.hid hb
  have HP := Lib.hid hp
  clear h hb hp
  by_cases e0 : b = 0
  · subst e0
    have e1 : failB D = true := by unfold failB; rw [HB.out]; simp
    have e2 : startD D = { D with pow := false } := by unfold startD; rw [if_pos HB.out]
    have HE2 := Lib.hid e2
    rw [e1]
    clear e1 e2
    cases p
    all_goals
      go_enter Try.func38, Try.ntmps38
      go_wp2
      go_ret
      refine ⟨rfl, ?_⟩
      rw [HE2.out]
      exact HD.out.put (D' := { D with pow := false }) 4 _ (HE2.out ▸ HOK.out) rfl rfl rfl rfl rfl
  · have g0 : (b == 0) = false := by simpa using e0
    cases p
    · have e1 : failB D = true := by unfold failB; rw [HP.out]; simp
      have e2 : startD D = { D with pow := false } := by
        unfold startD
        rw [if_neg (by rw [HB.out]; exact e0), if_neg (by rw [HP.out]; simp)]
        have := HP.out
        cases D
        simp at this ⊢
        exact this
      have HE2 := Lib.hid e2
      rw [e1]
      clear e1 e2
      go_enter Try.func38, Try.ntmps38
      go_wp2
      go_ret
      refine ⟨rfl, ?_⟩
      rw [HE2.out]
      exact HD.out.put (D' := { D with pow := false }) 4 _ (HE2.out ▸ HOK.out) rfl rfl rfl rfl rfl
    · have e1 : failB D = false := by unfold failB; rw [HB.out, HP.out]; simpa using e0
      rw [e1]
      clear e1
      by_cases e3 : 0 < b
      · have g3 : decide (b > 0) = true := by simpa using e3
        have e2 : startD D = { D with bud := b - 1 } := by unfold startD; rw [if_neg (by rw [HB.out]; exact e0), if_pos ⟨HP.out, by rw [HB.out]; exact e3⟩, HB.out]
        have HE2 := Lib.hid e2
        clear e2
        go_enter Try.func38, Try.ntmps38
        go_wp2
        go_ret
        refine ⟨rfl, ?_⟩
        rw [HE2.out]
        exact HD.out.put (D' := { D with bud := b - 1 }) 3 _ (HE2.out ▸ HOK.out) rfl rfl rfl rfl rfl
      · have g3 : decide (b > 0) = false := by simpa using e3
        have e2 : startD D = D := by unfold startD; rw [if_neg (by rw [HB.out]; exact e0), if_neg (by rw [HB.out]; simp [e3])]
        have HE2 := Lib.hid e2
        clear e2
        go_enter Try.func38, Try.ntmps38
        go_wp2
        go_ret
        exact ⟨rfl, by rw [HE2.out]; exact HD.out, Fr.refl _ _⟩

theorem refOn_any {base rb : Nat} {hv fv lv : Value} {D : Dv} (w : World) (h : RefAt w base rb hv fv lv D) :
    Calls Try.prog 22 #[.pointer (some ⟨rb, 0, none⟩)] w fun e w' => e = .returned (.tuple #[]) ∧ TurnR base rb w hv fv lv w' { D with pow := true, bud := -1, pend := [] } := by
  have HD := Lib.hid h
  have h2 := h.c2
  have h3 := h.c3
  have h4 := h.c4
  have f2 := h.fz 2
  have f3 := h.fz 3
  have f4 := h.fz 4
  have HOK := Lib.hid h.ok
  clear h
  go_enter Try.func22, Try.ntmps22
  go_wp2
  go_end0
  have t1 := HD.out.drop
  have t2 := t1.1.put (D' := { D with bud := -1, pend := [] }) 3 (.int .i64 (-1)) (t1.1.ok.buds _ (by omega)) rfl rfl rfl rfl rfl
  have t3 := t2.1.put (D' := { D with pow := true, bud := -1, pend := [] }) 4 (.bool false) (t2.1.ok.pows _) rfl rfl rfl rfl rfl
  have hf : ∀ k, FootR rb hv fv (.slice none 0 0) k → FootR rb hv fv lv k := fun k hk => by
    rcases hk with hk | hk | hk | hk
    · exact .inl hk
    · exact .inr (.inl hk)
    · exact .inr (.inr (.inl hk))
    · simp [Value.ownBlock] at hk
  exact ⟨rfl, ⟨_, _, _, t3.1⟩, (t1.2.trans t2.2 fun k hk => .inl (hf k hk)).trans t3.2 fun k hk => .inl (hf k hk)⟩

theorem Noughts_any (w : World) : Calls Try.prog 32 #[] w fun e w' => e = .returned (.string (str (List.replicate 128 0))) ∧ w' = w.alloc (.cells cells128 5) := by
  have hmk := make128 w
  have hcv : (convert 33 9 (.slice (some ⟨w.heap.size, 0, none⟩) 128 128)).run Try.prog (w.alloc (.cells cells128 5)) = .ok (.string (str (List.replicate 128 0))) (w.alloc (.cells cells128 5)) :=
    run_conv (P := Try.prog) 33 5 9 Try.underlying33 Try.underlying5 (by kernel_rfl) (bs := List.replicate 128 0) 128 128 (by simp) (by
      have := Rd.bk (Bk.new w 5 cells128)
      have e : cells128.toList = (List.replicate 128 (0 : UInt8)).map bv := by simp [cells128, bv]
      rw [e] at this; exact this)
  obtain ⟨S, hS⟩ : ∃ S, str (List.replicate 128 0) = S := ⟨_, rfl⟩
  rw [hS] at hcv ⊢
  clear hS
  go_enter Try.func32, Try.ntmps32
  go_wp2
  go_ret
  exact ⟨rfl, rfl⟩

/-! ### Read -/
theorem refRead_no {base rb : Nat} {hv fv lv : Value} {D : Dv} (i : Int) (w : World) (h : RefAt w base rb hv fv lv D) (hi : inN D.n i = false) :
    Calls Try.prog 13 #[.pointer (some ⟨rb, 0, none⟩), .int .i64 i] w fun e w' => e = .returned (.tuple #[.string ⟨#[]⟩, .int .i64 4]) ∧ w = w' := by
  obtain ⟨hg, hc, rfl, _, _⟩ := own_addr h.has h.ok.n1
  have h0 := h.c0
  have hn := h.ok.n2
  clear h
  rcases inN_no hi with h1 | h1
  · have hd : decide (i < 0) = true := by simpa using h1
    clear hi
    go_enter Try.func13, Try.ntmps13
    go_wp2
    go_ret2
    exact ⟨rfl, rfl⟩
  · have hd : decide (i < 0) = false := by simp; omega
    clear hi
    go_enter Try.func13, Try.ntmps13
    go_wp2
    go_ret2
    exact ⟨rfl, rfl⟩
theorem refRead_off {base rb : Nat} {hv fv lv : Value} {D : Dv} (i : Nat) (w : World) (h : RefAt w base rb hv fv lv D) (hi : i < D.n) (he : readE D i ≠ 0) :
    Calls Try.prog 13 #[.pointer (some ⟨rb, 0, none⟩), .int .i64 i] w fun e w' => e = .returned (.tuple #[.string ⟨#[]⟩, .int .i64 (readE D i)]) ∧ w = w' := by
  obtain ⟨hg, hc, rfl, _, _⟩ := own_addr h.has h.ok.n1
  obtain ⟨fg, fc, rfl, _, _⟩ := own_addr h.flt h.ok.n1
  have h0 := h.c0
  have h1 := h.c1
  have h4 := h.c4
  have h5 := h.c5
  have hn := h.ok.n2
  have hin : (i : Int) < (D.n : Int) := by omega
  have hf := (h.flt.cellAt i (by omega)).trans (flts_at _ _ _ hi)
  obtain ⟨f1, f2⟩ := h.ok.flt i
  obtain ⟨p, hp⟩ : ∃ p, D.pow = p := ⟨_, rfl⟩
  obtain ⟨m, hm⟩ : ∃ m, D.mnt = m := ⟨_, rfl⟩
  obtain ⟨f, hff⟩ : ∃ f, D.flt i = f := ⟨_, rfl⟩
  unfold readE at he ⊢
  rw [hp] at h4 he ⊢
  rw [hm] at h5 he ⊢
  rw [hff] at he hf f1 f2 ⊢
  clear h hp hm hff
  cases p
  · clear he
    go_enter Try.func13, Try.ntmps13
    go_wp2
    go_ret2
    exact ⟨rfl, rfl⟩
  · cases m
    · clear he
      go_enter Try.func13, Try.ntmps13
      go_wp2
      go_ret2
      exact ⟨rfl, rfl⟩
    · have hf4 : f = 0 ∨ f = 1 ∨ f = 2 ∨ f = 3 := by omega
      clear f1 f2
      rcases hf4 with rfl | rfl | rfl | rfl
      · simp [incl] at he
      · clear he
        go_enter Try.func13, Try.ntmps13
        go_wp2
        go_ret2
        exact ⟨rfl, rfl⟩
      · simp [incl] at he
      · clear he
        go_enter Try.func13, Try.ntmps13
        go_wp2
        go_ret2
        exact ⟨rfl, rfl⟩
theorem refRead_yes {base rb : Nat} {hv fv lv : Value} {D : Dv} (i : Nat) (w : World) (h : RefAt w base rb hv fv lv D) (hi : i < D.n) (he : readE D i = 0) (hpl : D.pend.length ≤ 1000) :
    Calls Try.prog 13 #[.pointer (some ⟨rb, 0, none⟩), .int .i64 i] w fun e w' => e = .returned (.tuple #[.string (str (rdOf D i)), .int .i64 0]) ∧ w = w' := by
  obtain ⟨hg, hc, rfl, _, _⟩ := own_addr h.has h.ok.n1
  obtain ⟨fg, fc, rfl, _, _⟩ := own_addr h.flt h.ok.n1
  obtain ⟨A, cp, hlv, _, _⟩ := own_len h.pen
  have h0 := h.c0
  have h1 := h.c1
  have h2 := h.c2
  have h4 := h.c4
  have h5 := h.c5
  have hn := h.ok.n2
  have hin : (i : Int) < (D.n : Int) := by omega
  have hf := (h.flt.cellAt i (by omega)).trans (flts_at _ _ _ hi)
  have hh := (h.has.cellAt i (by omega)).trans (strs_at _ _ _ hi)
  rw [hlv] at h2
  have HRD := Lib.hid (Rd.own (hlv ▸ h.pen))
  obtain ⟨f1, f2⟩ := h.ok.flt i
  obtain ⟨p, hp⟩ : ∃ p, D.pow = p := ⟨_, rfl⟩
  obtain ⟨m, hm⟩ : ∃ m, D.mnt = m := ⟨_, rfl⟩
  obtain ⟨f, hff⟩ : ∃ f, D.flt i = f := ⟨_, rfl⟩
  unfold readE at he
  rw [hp] at h4 he
  rw [hm] at h5 he
  rw [hff] at he hf f1 f2
  obtain rfl : p = true := by cases p <;> simp at he ⊢
  obtain rfl : m = true := by cases m <;> simp at he ⊢
  have hf2 : f = 0 ∨ f = 2 := by
    have hf4 : f = 0 ∨ f = 1 ∨ f = 2 ∨ f = 3 := by omega
    rcases hf4 with rfl | rfl | rfl | rfl
    · exact .inl rfl
    · simp [incl] at he
    · exact .inr rfl
    · simp [incl] at he
  obtain ⟨n, hnn⟩ : ∃ n, D.pend.length = n := ⟨_, rfl⟩
  rw [hnn] at h2 hpl
  have HN := Lib.hid hnn
  obtain ⟨S, hS⟩ : ∃ S, str (D.has i) = S := ⟨_, rfl⟩
  rw [hS] at hh
  have HS := Lib.hid hS
  clear h hp hm hff hlv he f1 f2 hnn hS
  rcases hf2 with rfl | rfl
  all_goals
    go_enter Try.func13, Try.ntmps13
    go_wp2_with fail
    go_loopw [6, 7] (fun s x wr => ∃ k : Nat, k ≤ n ∧ x = .int .i64 (k : Int) ∧ s = .string (str ((lastAt (D.pend.take k) i).getD (D.has i))) ∧ wr = w) (fun _ x _ => n - (intOf x).toNat)
    case atStart => exact ⟨0, Nat.zero_le _, rfl, by rw [← HS.out]; rfl, rfl⟩
    case round =>
      obtain ⟨k, hk, rfl, rfl, rfl⟩ := hrel
      obtain ⟨T, hT⟩ : ∃ T, str ((lastAt (D.pend.take k) i).getD (D.has i)) = T := ⟨_, rfl⟩
      rw [hT]
      have HT := Lib.hid hT
      clear hT
      by_cases hlt : k < n
      · obtain ⟨q, hq⟩ : ∃ q, D.pend[k]? = some q := ⟨_, List.getElem?_eq_getElem (by rw [HN.out]; exact hlt)⟩
        have hlast : lastAt (D.pend.take (k + 1)) i = if q.1 = i then some q.2 else lastAt (D.pend.take k) i := by rw [List.take_add_one, hq, Option.toList_some, lastAt_snoc]
        obtain ⟨pb, po, rfl, _, hcell⟩ := HRD.out.plain (by rw [wcells_length, HN.out]; omega)
        obtain ⟨w1, w2⟩ := wcells_at _ _ _ hq
        have q1 := hcell _ _ w1
        have q2 := hcell _ _ w2
        rw [← Nat.add_assoc] at q2
        have HL := Lib.hid hlast
        obtain ⟨a, b⟩ := q
        simp only at q1 q2
        obtain ⟨U, hU⟩ : ∃ U, str b = U := ⟨_, rfl⟩
        rw [hU] at q2
        have HU := Lib.hid hU
        clear hcell w1 w2 hq hlast HRD hU
        by_cases hai : a = i
        · have heq : ((a : Int) == (i : Int)) = true := by rw [hai]; simp
          have HR2 : Hid (Value.string U = .string (str ((lastAt (D.pend.take (k + 1)) i).getD (D.has i)))) := by show _ = _; rw [HL.out, if_pos hai, ← HU.out]; rfl
          clear hai
          go_wp2_with fail
          go_roundw
          case rel => exact ⟨k + 1, by omega, by go_num, HR2.out, trivial⟩
          case measure => simp [intOf]; omega
        · have hne : ((a : Int) == (i : Int)) = false := by simpa using fun e => hai (by omega)
          have HR2 : Hid (Value.string T = .string (str ((lastAt (D.pend.take (k + 1)) i).getD (D.has i)))) := by show _ = _; rw [HL.out, if_neg hai, ← HT.out]
          clear hai
          go_wp2_with fail
          go_roundw
          case rel => exact ⟨k + 1, by omega, by go_num, HR2.out, trivial⟩
          case measure => simp [intOf]; omega
      · obtain rfl : k = n := by omega
        go_wp2
        go_ret2
        refine ⟨?_, rfl⟩
        have e : (lastAt (D.pend.take k) i).getD (D.has i) = rdOf D i := by rw [List.take_of_length_le (by rw [HN.out]; exact Nat.le_refl _)]; rfl
        rw [← e, HT.out]; rfl
end Go.Proofs.Ytpjdnbmeedcafaa
