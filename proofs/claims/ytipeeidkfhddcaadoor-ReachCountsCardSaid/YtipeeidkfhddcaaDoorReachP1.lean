/-
  The landed reach: its tables loaded and indexed; parts, way, which, Size.
-/
import Derived.Test.YtipeeidkfhddcaaDoorReachT
import Derived.Test.YtipeeidkfhddcaaDoorRef08
import Derived.Laws.Rows
import Derived.Laws.Tables
import Derived.Deep.MidRow
import Derived.DeepKeys
import Derived.ChangeKeysEq
namespace Go.Proofs.YtipeeidkfhddcaaDoor
open Go.RowKit
set_option maxRecDepth 100000
set_option linter.unusedVariables false

theorem inf_rch : (Tryd.prog.info? 45).map (·.size) = some 9 := by kernel_rfl
theorem inf_grp : (Tryd.prog.info? 51).map (·.size) = some 12 := by kernel_rfl
theorem und_rch : ∃ d, Tryd.prog.underlying 45 = some d ∧ d.isRow = true := ⟨_, Tryd.underlying45, rfl⟩
theorem und_grp : ∃ d, Tryd.prog.underlying 51 = some d ∧ d.isRow = true := ⟨_, Tryd.underlying51, rfl⟩
section
variable {ops : Array Oper} {rest : List Oper} {o : Oper} {a : Act} {w : World} {Q : Exit → Act → World → Prop}
theorem wpList_load_rch (hw : Region.wanted o (yielded ops a.tmps) = true) (y : Operand) (ho : o.op = .load 45 y) (hy : a.eval y = .pointer (some ⟨0, 0, none⟩)) (ht : RTab w)
    (h : wpList Tryd.prog ops Q rest (a.put o.dst (.agg rchA)) w) : wpList Tryd.prog ops Q (o :: rest) a w :=
  BigFrame.wpList_want hw fun K hK => by
    obtain ⟨d, hu, hd⟩ := und_rch
    exact wp_load_mid 45 y ho 0 0 hy rchV d (fun j v hv => by rw [Nat.zero_add]; exact ht.rch j v hv) hu hd (by rw [inf_rch]; rfl) (hK _ _ h)
theorem wpList_load_grp (hw : Region.wanted o (yielded ops a.tmps) = true) (y : Operand) (ho : o.op = .load 51 y) (hy : a.eval y = .pointer (some ⟨1, 0, none⟩)) (ht : RTab w)
    (h : wpList Tryd.prog ops Q rest (a.put o.dst (.agg grpA)) w) : wpList Tryd.prog ops Q (o :: rest) a w :=
  BigFrame.wpList_want hw fun K hK => by
    obtain ⟨d, hu, hd⟩ := und_grp
    exact wp_load_mid 51 y ho 1 0 hy grpV d (fun j v hv => by rw [Nat.zero_add]; exact ht.grp j v hv) hu hd (by rw [inf_grp]; rfl) (hK _ _ h)
end
theorem index_rch (k s : Nat) (hk : k < 9) (hs : 15 ^ kR k = s) (w : World) : (Instr.index 45 (.agg rchA) (.int .i64 (k : Int))).run Tryd.prog w = .ok (.int .i64 (s : Int)) w := by
  subst hs
  refine nine (p := fun k => (Instr.index 45 (.agg rchA) (.int .i64 (k : Int))).run Tryd.prog w = .ok (.int .i64 ((15 ^ kR k : Nat) : Int)) w) ⟨?_, ?_, ?_, ?_, ?_, ?_, ?_, ?_, ?_⟩ k hk <;> kernel_rfl
theorem index_grp (k f s : Nat) (hk : k < 6) (hf : fG k = f) (hs : 15 ^ kG k = s) (w : World) : (Instr.index 51 (.agg grpA) (.int .i64 (k : Int))).run Tryd.prog w = .ok (.agg #[.int .i64 (f : Int), .int .i64 (s : Int)]) w := by
  subst hs
  subst hf
  refine six (p := fun k => (Instr.index 51 (.agg grpA) (.int .i64 (k : Int))).run Tryd.prog w = .ok (.agg #[.int .i64 ((fG k : Nat) : Int), .int .i64 ((15 ^ kG k : Nat) : Int)]) w) ⟨?_, ?_, ?_, ?_, ?_, ?_⟩ k hk <;> kernel_rfl

set_option maxHeartbeats 1000000 in
theorem parts_any (n s c : Nat) (w : World) (hn : n ≤ 9223372036854775807) (hs : 1 ≤ s) (hs2 : s ≤ 9223372036854775807) (hc : ceilN n s = c) :
    Calls Tryd.prog 29 #[.int .i64 (n : Int), .int .i64 (s : Int)] w fun e w' => e = .returned (.int .i64 (c : Int)) ∧ w = w' := by
  have hq1 : (n : Int).tdiv (s : Int) = ((n / s : Nat) : Int) := by rw [Int.tdiv_eq_ediv_of_nonneg (by omega)]; rfl
  have hr1 : (n : Int).tmod (s : Int) = ((n % s : Nat) : Int) := by rw [Int.tmod_eq_emod_of_nonneg (by omega)]; rfl
  have hq2 : n / s ≤ n := Nat.div_le_self _ _
  have hr2 : n % s < s := Nat.mod_lt _ hs
  have hdm := Nat.div_add_mod n s
  obtain ⟨q, hq⟩ : ∃ q, n / s = q := ⟨_, rfl⟩
  obtain ⟨r, hr⟩ : ∃ r, n % s = r := ⟨_, rfl⟩
  rw [hq] at hq1 hq2 hdm
  rw [hr] at hr1 hr2 hdm
  have key : (0 < r ∧ c = q + 1 ∧ q + 1 ≤ 9223372036854775807) ∨ (r = 0 ∧ c = q) := by
    unfold ceilN at hc
    by_cases h : 0 < r
    · refine .inl ⟨h, ?_, ?_⟩
      · rw [← hc, show n + s - 1 = r - 1 + s * (q + 1) from by rw [Nat.mul_add]; omega, Nat.add_mul_div_left _ _ (by omega), Nat.div_eq_of_lt (by omega)]; omega
      · rcases Nat.lt_or_ge s 2 with h2 | h2
        · omega
        · have : 2 * q ≤ s * q := Nat.mul_le_mul_right _ h2
          omega
    · obtain rfl : r = 0 := by omega
      refine .inr ⟨rfl, ?_⟩
      rw [← hc, show n + s - 1 = s - 1 + s * q from by omega, Nat.add_mul_div_left _ _ (by omega), Nat.div_eq_of_lt (by omega)]; omega
  have hs0 : ((s : Int) == 0) = false := by simp; omega
  have hs1 : ¬ (s : Int) = 0 := by omega
  clear hq hr hdm hc
  rcases key with ⟨h0, rfl, h1⟩ | ⟨rfl, rfl⟩
  · have h0' : (0 : Int) < (r : Int) := by omega
    go_enter Tryd.func29, Tryd.ntmps29
    go_wp2
    go_ret
    exact ⟨ret_int (by omega), rfl⟩
  · go_enter Tryd.func29, Tryd.ntmps29
    go_wp2
    go_ret
    exact ⟨rfl, rfl⟩
end Go.Proofs.YtipeeidkfhddcaaDoor
