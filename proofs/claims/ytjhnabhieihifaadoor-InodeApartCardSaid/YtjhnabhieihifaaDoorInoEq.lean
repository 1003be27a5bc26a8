/-
  Two inodes compared, as the walk meets it.
-/
import Derived.Test.YtjhnabhieihifaaDoorInoAwake
namespace Go.Proofs.YtjhnabhieihifaaDoor
open Go.RowKit
set_option maxRecDepth 100000
set_option linter.unusedVariables false

theorem guard_ino : Tryd.prog.eqGuardType Tryd.prog.depth 27 = false := by kernel_rfl
section
variable {ops : Array Oper} {rest : List Oper} {o : Oper} {a : Act} {w : World} {Q : Exit → Act → World → Prop} {K : Act → World → Prop}
theorem wp_eql_ino (x y : Operand) (n : TypeId) (ho : o.op = .binOp .eql 27 x y n) (p q : Ino) (r : Bool) (hx : a.eval x = .agg (inoC p)) (hy : a.eval y = .agg (inoC q)) (hp : p.p.length = 9) (hq : q.p.length = 9) (ip : inoI p) (iq : inoI q) (hr : r = true ↔ p = q)
    (h : K (a.put o.dst (.bool r)) w) : o.wp Tryd.prog a w K Q := by
  unfold Oper.wp execOp
  simp only [ho, hx, hy, Sem.run_bind, run_eqGuard_agg w .eql 27 x y (inoC p) (inoC q) guard_ino, Result.andThen_ok, ino_eql hp hq ip iq hr, Sem.run_pure]
  exact h
theorem wp_neq_ino (x y : Operand) (n : TypeId) (ho : o.op = .binOp .neq 27 x y n) (p q : Ino) (r : Bool) (hx : a.eval x = .agg (inoC p)) (hy : a.eval y = .agg (inoC q)) (hp : p.p.length = 9) (hq : q.p.length = 9) (ip : inoI p) (iq : inoI q) (hr : r = true ↔ p = q)
    (h : K (a.put o.dst (.bool (!r))) w) : o.wp Tryd.prog a w K Q := by
  unfold Oper.wp execOp
  simp only [ho, hx, hy, Sem.run_bind, run_eqGuard_agg w .neq 27 x y (inoC p) (inoC q) guard_ino, Result.andThen_ok, ino_neq hp hq ip iq hr, Sem.run_pure]
  exact h
theorem wpList_eql_ino (hw : Region.wanted o (yielded ops a.tmps) = true) (x y : Operand) (n : TypeId) (ho : o.op = .binOp .eql 27 x y n) (p q : Ino) (r : Bool) (hx : a.eval x = .agg (inoC p)) (hy : a.eval y = .agg (inoC q)) (hp : p.p.length = 9) (hq : q.p.length = 9) (ip : inoI p) (iq : inoI q) (hr : r = true ↔ p = q)
    (h : wpList Tryd.prog ops Q rest (a.put o.dst (.bool r)) w) : wpList Tryd.prog ops Q (o :: rest) a w :=
  BigFrame.wpList_want hw fun K hK => wp_eql_ino x y n ho p q r hx hy hp hq ip iq hr (hK _ _ h)
theorem wpList_neq_ino (hw : Region.wanted o (yielded ops a.tmps) = true) (x y : Operand) (n : TypeId) (ho : o.op = .binOp .neq 27 x y n) (p q : Ino) (r : Bool) (hx : a.eval x = .agg (inoC p)) (hy : a.eval y = .agg (inoC q)) (hp : p.p.length = 9) (hq : q.p.length = 9) (ip : inoI p) (iq : inoI q) (hr : r = true ↔ p = q)
    (h : wpList Tryd.prog ops Q rest (a.put o.dst (.bool (!r))) w) : wpList Tryd.prog ops Q (o :: rest) a w :=
  BigFrame.wpList_want hw fun K hK => wp_neq_ino x y n ho p q r hx hy hp hq ip iq hr (hK _ _ h)
end
theorem Bk.layI {w : World} {g : Nat} {t : TypeId} {cs : Array Value} (h : Bk w g t cs) (x : Ino) : Bk (layI w x) g t cs := (h.alloc _).setRow_far (Nat.ne_of_gt h.lt) _
theorem fit200 {bs0 bs : List UInt8} {n k : Nat} (hn : bs0.length = n) (hbs : bs0.take 200 = bs) (hk : bs.length = k) : k ≤ n ∧ k ≤ 200 := by
  subst hn hbs hk
  rw [List.length_take]
  omega
end Go.Proofs.YtjhnabhieihifaaDoor
