/-
  Pointers and inodes on memory: their cells; a block of many cells loaded, stored whole; two inodes compared.
-/
import Derived.Test.YtnipfonglheofaaDoorSumMem
import Derived.Test.YtnipfonglheofaaDoorInoMath
import Derived.Laws.Rows
import Derived.Laws.Tables
import Derived.Deep.MidRow
import Derived.DeepKeys
namespace Go.Proofs.YtnipfonglheofaaDoor
open Go.RowKit
set_option linter.unusedVariables false

def prV (q : Pr) : List Value := [.int .i64 q.at_, .int .u32 (q.sum : Int)]
def prsV (l : List Pr) : List Value := l.flatMap prV
theorem prsV_cons (q : Pr) (l : List Pr) : prsV (q :: l) = .int .i64 q.at_ :: .int .u32 (q.sum : Int) :: prsV l := rfl
theorem prsV_append (a b : List Pr) : prsV (a ++ b) = prsV a ++ prsV b := by simp [prsV]
theorem prsV_length : ∀ l, (prsV l).length = 2 * l.length
  | [] => rfl
  | x :: l => by
    have := prsV_length l
    simp only [prsV_cons, List.length_cons, this]
    omega
theorem prsV_get : ∀ (l : List Pr) (k : Nat) (q : Pr), l[k]? = some q → (prsV l)[k * 2]? = some (.int .i64 q.at_) ∧ (prsV l)[k * 2 + 1]? = some (.int .u32 (q.sum : Int))
  | [], k, q, h => by simp at h
  | y :: l, 0, q, h => by
    simp at h; subst h
    exact ⟨rfl, rfl⟩
  | y :: l, k + 1, q, h => by
    have ih := prsV_get l k q (by simpa using h)
    rw [prsV_cons, show (k + 1) * 2 = k * 2 + 2 from by omega, show k * 2 + 2 + 1 = k * 2 + 1 + 2 from by omega]
    simpa using ih
theorem prsV_take (l : List Pr) (k : Nat) : prsV (l.take k) = (prsV l).take (k * 2) := by
  induction l generalizing k with
  | nil => simp [prsV]
  | cons x l ih =>
    cases k with
    | zero => simp [prsV]
    | succ k =>
      rw [List.take_succ_cons, prsV_cons, prsV_cons, ih, show (k + 1) * 2 = k * 2 + 1 + 1 from by omega]
      simp
theorem prsV_take_succ (l : List Pr) (k : Nat) (q : Pr) (h : l[k]? = some q) : prsV (l.take (k + 1)) = prsV (l.take k) ++ prV q := by
  rw [List.take_add_one, h, prsV_append]; simp [prsV]
theorem prsV_one (l : List Pr) : ∀ u ∈ prsV l, u.oneCell' = true := by
  intro u hu
  obtain ⟨q, _, hq⟩ := List.mem_flatMap.1 hu
  simp [prV] at hq
  rcases hq with rfl | rfl <;> rfl
def inoV (x : Ino) : List Value := [.int .i64 x.ty, .int .i64 x.links, .int .i64 x.ver, .int .i64 x.size, .int .i64 x.tick] ++ prsV x.p
def inoC (x : Ino) : Array Value := (inoV x).toArray
theorem inoC_size (x : Ino) (h : x.p.length = 9) : (inoC x).size = 23 := by simp [inoC, inoV, prsV_length, h]
theorem inoC_one (x : Ino) : (inoC x).all (·.oneCell') = true := all_oneCell_toArray fun v hv => by
  rcases List.mem_append.1 hv with hv | hv
  · simp at hv
    rcases hv with rfl | rfl | rfl | rfl | rfl <;> rfl
  · exact prsV_one _ v hv
def prsC (l : List Pr) : Array Value := (prsV l).toArray
theorem prsC_size (l : List Pr) : (prsC l).size = 2 * l.length := by simp [prsC, prsV_length]
theorem prsC_one (l : List Pr) : (prsC l).all (·.oneCell') = true := all_oneCell_toArray fun v hv => prsV_one _ v hv
theorem noI_cells : inoC noI = #[.int .i64 0, .int .i64 0, .int .i64 0, .int .i64 0, .int .i64 0, .int .i64 0, .int .u32 0, .int .i64 0, .int .u32 0, .int .i64 0, .int .u32 0, .int .i64 0, .int .u32 0, .int .i64 0, .int .u32 0, .int .i64 0, .int .u32 0, .int .i64 0, .int .u32 0, .int .i64 0, .int .u32 0, .int .i64 0, .int .u32 0] := rfl

/-! A whole block -/
theorem Bk.setRow {w : World} {g : Nat} {t : TypeId} {cs : Array Value} (h : Bk w g t cs) (ds : Array Value) : Bk (w.setRow g ds) g t ds := setRow_heap w g cs ds t (0, 0) h
theorem below_setRow {B : Nat} (w : World) (g : Nat) (hB : B ≤ g) (ds : Array Value) : Below B w (w.setRow g ds) :=
  ⟨rfl, rfl, rfl, by simp, fun k hk => by simp [World.setRow, Array.getElem?_modify]; intro e; omega⟩
theorem _root_.Go.RowKit.Below.setRow' {B : Nat} {w w' : World} (h : Below B w w') {g : Nat} (hB : B ≤ g) (ds : Array Value) : Below B w (w'.setRow g ds) := h.trans (below_setRow w' g hB ds)
theorem Bk.setRow_far {w : World} {g g' : Nat} {t : TypeId} {cs : Array Value} (h : Bk w g t cs) (hne : g' ≠ g) (ds : Array Value) : Bk (w.setRow g' ds) g t cs := by
  unfold Bk at h ⊢
  simp [World.setRow, Array.getElem?_modify, h, hne]
theorem setRow_heap_size (w : World) (g : Nat) (ds : Array Value) : (w.setRow g ds).heap.size = w.heap.size := by simp

theorem inoC_get (x : Ino) : (inoC x)[0]? = some (.int .i64 x.ty) ∧ (inoC x)[1]? = some (.int .i64 x.links) ∧ (inoC x)[2]? = some (.int .i64 x.ver) ∧ (inoC x)[3]? = some (.int .i64 x.size) ∧ (inoC x)[4]? = some (.int .i64 x.tick) := ⟨by simp [inoC, inoV], by simp [inoC, inoV], by simp [inoC, inoV], by simp [inoC, inoV], by simp [inoC, inoV]⟩
theorem ino_cells {w : World} {g : Nat} {t : TypeId} {x : Ino} (h : Bk w g t (inoC x)) : w.cell? ⟨g, 0, none⟩ = some (.int .i64 x.ty) ∧ w.cell? ⟨g, 1, none⟩ = some (.int .i64 x.links) ∧ w.cell? ⟨g, 2, none⟩ = some (.int .i64 x.ver) ∧ w.cell? ⟨g, 3, none⟩ = some (.int .i64 x.size) ∧ w.cell? ⟨g, 4, none⟩ = some (.int .i64 x.tick) := by
  obtain ⟨h0, h1, h2, h3, h4⟩ := inoC_get x
  exact ⟨(h.cell 0).trans h0, (h.cell 1).trans h1, (h.cell 2).trans h2, (h.cell 3).trans h3, (h.cell 4).trans h4⟩
theorem ino_prs {w : World} {g : Nat} {t : TypeId} {x : Ino} (h : Bk w g t (inoC x)) : Rd w w.heap.size (some ⟨g, 5, none⟩) (prsV x.p) := Rd.part h 5 _ fun j u hu => by
  rw [show 5 + j = j + 5 from by omega]
  simpa [inoC, inoV] using hu
theorem prs_bk {w : World} {g : Nat} {t : TypeId} {l : List Pr} (h : Bk w g t (prsC l)) : Rd w w.heap.size (some ⟨g, 0, none⟩) (prsV l) := by simpa [prsC] using Rd.bk h

/-! As the walk meets them -/
section
variable {ops : Array Oper} {rest : List Oper} {o : Oper} {a : Act} {w : World} {Q : Exit → Act → World → Prop}
end

/-! Two inodes compared -/
def prL (q : Pr) : List Lit := [.int .i64 q.at_, .int .u32 (q.sum : Int)]
def prsL (l : List Pr) : List Lit := l.flatMap prL
def inoL (x : Ino) : List Lit := [.int .i64 x.ty, .int .i64 x.links, .int .i64 x.ver, .int .i64 x.size, .int .i64 x.tick] ++ prsL x.p
theorem prsL_inj : ∀ {l m : List Pr}, prsL l = prsL m → l = m
  | [], [], _ => rfl
  | [], _ :: _, e => by simp [prsL, prL] at e
  | _ :: _, [], e => by simp [prsL, prL] at e
  | x :: l, y :: m, e => by
    simp only [prsL, List.flatMap_cons, prL, List.cons_append, List.nil_append, List.cons.injEq, Lit.int.injEq, true_and] at e
    rw [Pr.ext' (x := x) (y := y) e.1 (by omega), prsL_inj e.2.2]
theorem inoL_inj {x y : Ino} : inoL x = inoL y ↔ x = y := by
  constructor
  · intro e
    simp only [inoL, List.cons_append, List.nil_append, List.cons.injEq, Lit.int.injEq, true_and] at e
    exact Ino.ext' e.1 e.2.1 e.2.2.1 e.2.2.2.1 e.2.2.2.2.1 (prsL_inj e.2.2.2.2.2)
  · rintro rfl; rfl
/-- the numbers are words -/
def i64W (a : Int) : Prop := -9223372036854775808 ≤ a ∧ a ≤ 9223372036854775807
def prI (q : Pr) : Prop := i64W q.at_ ∧ q.sum < 4294967296
def inoI (x : Ino) : Prop := i64W x.ty ∧ i64W x.links ∧ i64W x.ver ∧ i64W x.size ∧ i64W x.tick ∧ ∀ q ∈ x.p, prI q
theorem min64 : IntKind.i64.min = -9223372036854775808 := by decide
theorem max64 : IntKind.i64.max = 9223372036854775807 := by decide
theorem min32u : IntKind.u32.min = 0 := by decide
theorem max32u : IntKind.u32.max = 4294967295 := by decide
theorem wf64 {a : Int} (h : i64W a) : (Lit.int .i64 a).wf = true := by
  show (decide (IntKind.i64.min ≤ a) && decide (a ≤ IntKind.i64.max)) = true
  rw [Bool.and_eq_true, decide_eq_true_iff, decide_eq_true_iff, min64, max64]
  exact h
theorem wf32 {a : Nat} (h : a < 4294967296) : (Lit.int .u32 (a : Int)).wf = true := by
  show (decide (IntKind.u32.min ≤ (a : Int)) && decide ((a : Int) ≤ IntKind.u32.max)) = true
  rw [Bool.and_eq_true, decide_eq_true_iff, decide_eq_true_iff, min32u, max32u]
  omega
theorem key_int {d : Nat} {a : Int} (h : i64W a) : Tryd.prog.keyLits (d + 1) 3 [.int .i64 a] = some [.int .i64 a] := by
  unfold Program.keyLits
  rw [Tryd.underlying3]
  simp only [wf64 h, and_self, if_true]
theorem key_u32 {d : Nat} {a : Nat} (h : a < 4294967296) : Tryd.prog.keyLits (d + 1) 27 [.int .u32 (a : Int)] = some [.int .u32 (a : Int)] := by
  unfold Program.keyLits
  rw [Tryd.underlying27]
  simp only [wf32 h, and_self, if_true]
theorem cells_int7 : Tryd.prog.cellsOf 3 = 1 := by kernel_rfl
theorem cells_u327 : Tryd.prog.cellsOf 27 = 1 := by kernel_rfl
theorem cells_ptr7 : Tryd.prog.cellsOf 29 = 2 := by kernel_rfl
theorem key_ptr {d : Nat} {q : Pr} (h : prI q) : Tryd.prog.keyLits (d + 2) 29 (prV q) = some (prL q) := by
  unfold Program.keyLits
  rw [Tryd.underlying29]
  simp only [prV, List.mapM_cons, List.mapM_nil, cells_int7, cells_u327, cells_ptr7, List.drop_zero, List.take_succ_cons, List.take_zero, List.drop_succ_cons, key_int h.1, key_u32 h.2]
  rw [if_pos ⟨rfl, by decide +kernel⟩]
  rfl
theorem i64W_zero : i64W 0 := ⟨by decide, by decide⟩
theorem noI_inoI : inoI noI := ⟨i64W_zero, i64W_zero, i64W_zero, i64W_zero, i64W_zero, fun q hq => by
  obtain rfl := List.eq_of_mem_replicate hq
  exact ⟨i64W_zero, by decide⟩⟩
theorem inoI_ok {x : Ino} (h : inoOk x = true) (hs : prSums x.p) : inoI x := by
  obtain ⟨hh, hq⟩ := inoOk_yes h
  obtain ⟨h1, h2, h3, h4, h5, h6, h7, h8, h9, h10⟩ := headIOk_yes hh
  refine ⟨⟨by omega, by omega⟩, ⟨by omega, by omega⟩, ⟨by omega, by omega⟩, ⟨by omega, by omega⟩, ⟨by omega, by omega⟩, fun q hqm => ?_⟩
  obtain ⟨k1, k2, _⟩ := prOk_yes (hq q hqm)
  exact ⟨⟨by omega, by omega⟩, hs q hqm⟩
theorem inoI_dec (b : List UInt8) : inoI (decI b) := by
  have := tyN_lt b; have := lkN_lt b; have := vrN_lt b; have := szN_lt b; have := tkN_lt b
  refine ⟨⟨?_, ?_⟩, ⟨?_, ?_⟩, ⟨?_, ?_⟩, ⟨?_, ?_⟩, ⟨?_, ?_⟩, fun q hq => ?_⟩
  all_goals first
    | (simp only [decI]; omega)
    | (obtain ⟨k1, k2, k3⟩ := prsAt_words b 21 9 q hq; exact ⟨⟨by omega, by omega⟩, k3⟩)
theorem inoI_decR (n : Int) (b : List UInt8) : inoI (decIR n b) := by
  unfold decIR; split
  · exact inoI_dec b
  · exact noI_inoI
end Go.Proofs.YtnipfonglheofaaDoor
