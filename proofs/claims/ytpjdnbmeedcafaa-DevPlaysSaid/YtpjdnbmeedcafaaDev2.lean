/-
  What the functions of package dev do that look at blocks, faults, and what is pending: one contract each.
-/
import Derived.Test.YtpjdnbmeedcafaaDev
namespace Go.Proofs.Ytpjdnbmeedcafaa
open Go.RowKit Go.Maps
set_option linter.unusedVariables false

theorem takes_any {base sb bb mb : Nat} {pv : Value} {D : Dv} (i : Int) (A : Option Addr) (n c : Nat) (t : Bool) (w : World) (h : DevAt w base sb bb mb pv D) (ht : inN D.n i = t) (hn : n ≤ 1000) :
    Calls Try.prog 36 #[.pointer (some ⟨sb, 0, none⟩), .int .i64 i, .slice A n c] w fun e w' => e = .returned (.int .i64 (if t = false then 4 else if n = 128 then 0 else 1)) ∧ w = w' := by
  have HD := Lib.hid h
  have HT := Lib.hid ht
  clear h ht
  cases t
  · go_enter Try.func36, Try.ntmps36
    go_wp2_with fail
    refine (isBlock_any i false _ HD.out HT.out).mono ?_
    rintro e w1 ⟨rfl, rfl⟩
    go_wp2
    go_ret
    exact ⟨rfl, rfl⟩
  · by_cases h1 : n = 128
    · subst h1
      go_enter Try.func36, Try.ntmps36
      go_wp2_with fail
      refine (isBlock_any i true _ HD.out HT.out).mono ?_
      rintro e w1 ⟨rfl, rfl⟩
      go_wp2
      go_ret
      exact ⟨rfl, rfl⟩
    · have hd : ((n : Int) == 128) = false := by simpa using fun e => h1 (by omega)
      have hd2 : ((n : Int) != 128) = true := by simpa using fun e => h1 (by omega)
      rw [if_neg (by simp), if_neg h1]
      clear h1
      go_enter Try.func36, Try.ntmps36
      go_wp2_with fail
      refine (isBlock_any i true _ HD.out HT.out).mono ?_
      rintro e w1 ⟨rfl, rfl⟩
      go_wp2
      go_ret
      exact ⟨rfl, rfl⟩

/-! ### faults -/
/-- does the fault f include this one (1 or 2)? -/
def incl (f k : Int) : Bool := if k = 1 then decide (f % 2 = 1) else decide (1 < f)
theorem keyed_int : Keyed Try.prog 3 := int_keyed Try.underlying3
theorem zero_int (w : World) : (zeroValue 3).run Try.prog w = .ok (.int .i64 0) w := by kernel_rfl
theorem under_map : Try.prog.underlying 59 = some (.map 3 3) := by kernel_rfl
theorem faulty_any {base sb bb mb : Nat} {pv : Value} {D : Dv} (i k : Int) (w : World) (h : DevAt w base sb bb mb pv D) (hk : k = 1 ∨ k = 2) (h0 : 0 ≤ i) (h1 : i ≤ 100000) :
    Calls Try.prog 34 #[.pointer (some ⟨sb, 0, none⟩), .int .i64 i, .int .i64 k] w fun e w' => e = .returned (.bool (incl (D.flt i) k)) ∧ w = w' := by
  have h2 := h.c2
  obtain ⟨f1, f2⟩ := h.ok.flt i
  obtain ⟨C, hC, hat⟩ := h.flt
  have hati := hat i
  obtain ⟨f, hf⟩ : ∃ f, D.flt i = f := ⟨_, rfl⟩
  rw [hf] at f1 f2 hati ⊢
  have hwf : (Lit.int .i64 i).wf = true := WalkArith.wf_i64 (by omega)
  clear h hat hf
  obtain ⟨c, hrun, hcat, _⟩ := hC.lookup_int keyed_int under_map Try.underlying3 (zero_int _) (keyOf_int_mk Try.underlying3 hwf)
  obtain rfl : f = c := by rw [hcat] at hati; injection hati with e; injection e with _ e; exact e.symm
  clear hcat hati hC
  have hf : f = 0 ∨ f = 1 ∨ f = 2 ∨ f = 3 := by omega
  clear f1 f2
  rcases hk with rfl | rfl
  all_goals rcases hf with rfl | rfl | rfl | rfl
  all_goals
    go_enter Try.func34, Try.ntmps34
    go_wp2
    go_ret
    exact ⟨rfl, rfl⟩

/-! ### octets are handed out -/
/-- what Has and Read hand out: nothing, or a new block -/
theorem bytes_any (c : Array Value) (hc : c.size = 128) (w : World) :
    Calls Try.prog 35 #[.agg c] w fun e w' => e = .returned (.slice (some ⟨w.heap.size, 0, none⟩) 128 128) ∧ w' = w.alloc (.cells c 67) := by
  go_enter Try.func35, Try.ntmps35
  go_wp2
  go_ret
  exact ⟨rfl, rfl⟩
theorem info_block : (Try.prog.info? 67).map (·.size) = some 128 := by kernel_rfl
theorem info_write : (Try.prog.info? 69).map (·.size) = some 129 := by kernel_rfl
theorem info_dev : (Try.prog.info? 62).map (·.size) = some 6 := by kernel_rfl
end Go.Proofs.Ytpjdnbmeedcafaa
