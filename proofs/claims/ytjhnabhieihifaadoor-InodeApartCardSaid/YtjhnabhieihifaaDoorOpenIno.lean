/-
  An argument that is a pointer, a slice of pointers, an inode, or two of each, by value.
-/
import Derived.Test.YtjhnabhieihifaaDoorOpenAddr
import Derived.Test.YtjhnabhieihifaaDoorOpenRows
import Derived.Test.YtjhnabhieihifaaDoorInoMem
import Derived.Deep.Slices
import Derived.Deep.Fields
namespace Go.Proofs.YtjhnabhieihifaaDoor
open Go.Joins Go.ChangeShapes Go.WideShapes Go.ChangeAt Go.RowKit Go.Deep
set_option maxRecDepth 100000
set_option linter.unusedVariables false

theorem prsV_inv (l : List Pr) (j : Nat) (hj : j < 2 * l.length) : ∃ q, l[j / 2]? = some q ∧ (prsV l)[j]? = (prV q)[j % 2]? := by
  have hk : j / 2 < l.length := by omega
  refine ⟨l[j / 2], List.getElem?_eq_getElem hk, ?_⟩
  obtain ⟨n0, n1⟩ := prsV_get l (j / 2) _ (List.getElem?_eq_getElem hk)
  rcases (show j % 2 = 0 ∨ j % 2 = 1 by omega) with e | e
  · rw [e, show (prV l[j / 2])[0]? = some (.int .i64 l[j / 2].at_) from rfl, ← n0]; congr 1; omega
  · rw [e, show (prV l[j / 2])[1]? = some (.int .u32 (l[j / 2].sum : Int)) from rfl, ← n1]; congr 1; omega
theorem gatherI {α : Type} (p : Nat → α → Prop) : ∀ m : Nat, (∀ i, i < m → ∃ a, p i a) → ∃ l : List α, l.length = m ∧ ∀ i a, l[i]? = some a → p i a
  | 0, _ => ⟨[], rfl, fun i p h => by simp at h⟩
  | m + 1, h => by
    obtain ⟨l, hl, hc⟩ := gatherI p m fun i hi => h i (by omega)
    obtain ⟨a, ha⟩ := h m (by omega)
    refine ⟨l ++ [a], by simp [hl], fun i q hq => ?_⟩
    rcases Nat.lt_or_ge i l.length with hi | hi
    · rw [List.getElem?_append_left hi] at hq; exact hc i q hq
    · rw [List.getElem?_append_right hi] at hq
      have h0 : i - l.length = 0 := by
        rcases Nat.eq_zero_or_pos (i - l.length) with h | h
        · exact h
        · rw [List.getElem?_eq_none (by simp; omega)] at hq; cases hq
      rw [h0] at hq
      simp at hq
      subst hq
      obtain rfl : i = m := by omega
      exact ha
section
variable {H : Type} {enc : TypeId × Value → H} {w : World} {hd : Bool} {sp : Nat → Bool}
theorem ptr_cells {n : Nat} {cs : List Value} {y : DataW H × List MemPlace} (h : DataW.trod enc Tryd.prog w 0 sp hd n 24 cs = some y) : ∃ q : Pr, prI q ∧ cs = prV q := by
  obtain ⟨xs, m, _, _, hlen, hxl, hfs⟩ := DataW.trod_struct Tryd.underlying24 h
  rw [cells_ptr7] at hlen
  match cs, hlen with
  | [u0, u1], _ =>
    have h0 : DataW.trod enc Tryd.prog w 0 sp hd m 3 (List.take (Tryd.prog.cellsOf 3) [u0, u1]) = xs[0]? := hfs 0 _ rfl
    have h1 : DataW.trod enc Tryd.prog w 0 sp hd m 22 (List.take (Tryd.prog.cellsOf 22) [u1]) = xs[1]? := hfs 1 _ rfl
    rw [cells_int7] at h0
    rw [cells_u327] at h1
    simp only [List.take_succ_cons, List.take_zero] at h0 h1
    have hxl' : xs.length = 2 := hxl
    rw [List.getElem?_eq_getElem (by omega)] at h0 h1
    obtain ⟨q0, e0, _, w0⟩ := DataW.trod_int Tryd.underlying3 h0
    obtain ⟨q1, e1, _, w1⟩ := DataW.trod_int Tryd.underlying22 h1
    simp only [List.cons.injEq, and_true] at e0 e1
    subst e0 e1
    have b0 := bounds_i64 w0
    have b1 := bounds_u32 w1
    obtain ⟨q1, rfl⟩ := Int.eq_ofNat_of_zero_le b1.1
    exact ⟨⟨q0, q1⟩, ⟨⟨by simp only; omega, by simp only; omega⟩, by simp only; omega⟩, rfl⟩
theorem ptrs_cells {n : Nat} {cs : List Value} {y : DataW H × List MemPlace} (h : DataW.trod enc Tryd.prog w 0 sp hd n 25 cs = some y) : ∃ l : List Pr, l.length = 9 ∧ (∀ q ∈ l, prI q) ∧ cs = prsV l := by
  obtain ⟨xs, m, _, _, hlen, hn, hel⟩ := DataW.trod_array Tryd.underlying25 h
  rw [cells_ptr7] at hel
  rw [cells_pr97] at hlen
  obtain ⟨L, hL, hc⟩ := gatherI (fun i q => prI q ∧ (cs.drop (i * 2)).take 2 = prV q) 9 fun i hi => by
    have e := hel i hi
    rw [List.getElem?_eq_getElem (by omega)] at e
    obtain ⟨q, a, b⟩ := ptr_cells e
    exact ⟨q, a, b⟩
  refine ⟨L, hL, fun q hq => ?_, List.ext_getElem? fun j => ?_⟩
  · obtain ⟨i, hi', rfl⟩ := List.mem_iff_getElem.1 hq
    exact (hc i _ (List.getElem?_eq_getElem hi')).1
  · by_cases hj : j < 18
    · obtain ⟨q, hq, e⟩ := prsV_inv L j (by omega)
      rw [e, ← (hc _ q hq).2, List.getElem?_take_of_lt (Nat.mod_lt _ (by omega)), List.getElem?_drop]
      congr 1
      omega
    · rw [List.getElem?_eq_none (by omega), List.getElem?_eq_none (by rw [prsV_length]; omega)]
theorem ino_cellsIn {n : Nat} {cs : List Value} {y : DataW H × List MemPlace} (h : DataW.trod enc Tryd.prog w 0 sp hd n 27 cs = some y) : ∃ x : Ino, x.p.length = 9 ∧ inoI x ∧ cs = inoV x := by
  obtain ⟨xs, m, _, _, hlen, hxl, hfs⟩ := DataW.trod_struct Tryd.underlying27 h
  rw [cells_ino7] at hlen
  match cs, hlen with
  | u0 :: u1 :: u2 :: u3 :: u4 :: r, hlen =>
    have hr : r.length = 18 := by simpa using hlen
    have h0 : DataW.trod enc Tryd.prog w 0 sp hd m 3 (List.take (Tryd.prog.cellsOf 3) (u0 :: u1 :: u2 :: u3 :: u4 :: r)) = xs[0]? := hfs 0 _ rfl
    have h1 : DataW.trod enc Tryd.prog w 0 sp hd m 3 (List.take (Tryd.prog.cellsOf 3) (u1 :: u2 :: u3 :: u4 :: r)) = xs[1]? := hfs 1 _ rfl
    have h2 : DataW.trod enc Tryd.prog w 0 sp hd m 3 (List.take (Tryd.prog.cellsOf 3) (u2 :: u3 :: u4 :: r)) = xs[2]? := hfs 2 _ rfl
    have h3 : DataW.trod enc Tryd.prog w 0 sp hd m 3 (List.take (Tryd.prog.cellsOf 3) (u3 :: u4 :: r)) = xs[3]? := hfs 3 _ rfl
    have h4 : DataW.trod enc Tryd.prog w 0 sp hd m 3 (List.take (Tryd.prog.cellsOf 3) (u4 :: r)) = xs[4]? := hfs 4 _ rfl
    have h5 : DataW.trod enc Tryd.prog w 0 sp hd m 25 (List.take (Tryd.prog.cellsOf 25) r) = xs[5]? := hfs 5 _ rfl
    rw [cells_int7] at h0 h1 h2 h3 h4
    rw [cells_pr97, List.take_of_length_le (by omega)] at h5
    simp only [List.take_succ_cons, List.take_zero] at h0 h1 h2 h3 h4
    have hxl' : xs.length = 6 := hxl
    rw [List.getElem?_eq_getElem (by omega)] at h0 h1 h2 h3 h4 h5
    obtain ⟨q0, e0, _, w0⟩ := DataW.trod_int Tryd.underlying3 h0
    obtain ⟨q1, e1, _, w1⟩ := DataW.trod_int Tryd.underlying3 h1
    obtain ⟨q2, e2, _, w2⟩ := DataW.trod_int Tryd.underlying3 h2
    obtain ⟨q3, e3, _, w3⟩ := DataW.trod_int Tryd.underlying3 h3
    obtain ⟨q4, e4, _, w4⟩ := DataW.trod_int Tryd.underlying3 h4
    obtain ⟨l, hl, hI, rfl⟩ := ptrs_cells h5
    simp only [List.cons.injEq, and_true] at e0 e1 e2 e3 e4
    subst e0 e1 e2 e3 e4
    exact ⟨⟨q0, q1, q2, q3, q4, l⟩, hl, ⟨bounds_i64 w0, bounds_i64 w1, bounds_i64 w2, bounds_i64 w3, bounds_i64 w4, hI⟩, rfl⟩
theorem ino_in {r : Reach} {b0 : Nat} {v : Value} {d : DataW H} {p : List MemPlace} (hv : Value.okWide Tryd.prog w r b0 27 v) (h : DataW.Trod enc Tryd.prog w 0 sp hd 27 v d p) :
    ∃ x : Ino, x.p.length = 9 ∧ inoI x ∧ v = .agg (inoC x) := by
  obtain ⟨cs, rfl, hsz⟩ := okWide_struct Tryd.underlying27 hv
  obtain ⟨fuel, hf⟩ := h
  obtain ⟨x, hx, hI, e⟩ := ino_cellsIn hf
  exact ⟨x, hx, hI, by congr 1; apply Array.toList_inj.1; simpa [inoC, Value.cells] using e⟩
theorem ptr_in {r : Reach} {b0 : Nat} {v : Value} {d : DataW H} {p : List MemPlace} (hv : Value.okWide Tryd.prog w r b0 24 v) (h : DataW.Trod enc Tryd.prog w 0 sp hd 24 v d p) :
    ∃ q : Pr, prI q ∧ v = .agg #[.int .i64 q.at_, .int .u32 (q.sum : Int)] := by
  obtain ⟨cs, rfl, hsz⟩ := okWide_struct Tryd.underlying24 hv
  obtain ⟨fuel, hf⟩ := h
  obtain ⟨q, hI, e⟩ := ptr_cells hf
  exact ⟨q, hI, by congr 1; apply Array.toList_inj.1; simpa [prV, Value.cells] using e⟩
theorem ptrs_in {a : Option Addr} {len cap : Nat} {d : DataW H} {p : List MemPlace} (h : DataW.Trod enc Tryd.prog w 0 sp hd 42 (.slice a len cap) d p) :
    ∃ l : List Pr, l.length = len ∧ len ≤ cap ∧ cap ≤ maxLen ∧ Rd w w.heap.size a (prsV l) ∧ prSums l := by
  obtain ⟨fuel, hf⟩ := h
  rcases open_slice Tryd.underlying42 hf with ⟨hcs, _⟩ | ⟨x, l, c, m, n, D, Pl, hcs, hb, hl, hm, hmm, hx, hi⟩
  · simp [Value.cells] at hcs
    obtain ⟨rfl, rfl, rfl⟩ := hcs
    exact ⟨[], rfl, Nat.le_refl _, by simp, Rd.nil_, fun n hn => by simp at hn⟩
  · simp [Value.cells] at hcs
    obtain ⟨rfl, rfl, rfl⟩ := hcs
    have hlm : len ≤ m := by rw [hmm]; split <;> omega
    obtain ⟨L, hL, hc⟩ := gatherI (fun i q => (∀ y, y < 2 → w.cell? (x.add (i * 2 + y)) = (prV q)[y]?) ∧ prI q) len fun i hil => by
      obtain ⟨cs', hcells, ht⟩ := hi i (by omega)
      rw [cells_ptr7] at hcells
      obtain ⟨q, hq, rfl⟩ := ptr_cells ht
      obtain ⟨_, hcl, hat⟩ := World.cells?_some hcells
      refine ⟨q, fun y hy => ?_, hq⟩
      have := hat y (by simpa [prV] using hy)
      rw [add_add'] at this
      rw [this]
    refine ⟨L, hL, by omega, hm, fun j u hu => ?_, fun q hq => ?_⟩
    · have hj : j < (prsV L).length := (List.getElem?_eq_some_iff.1 hu).1
      rw [prsV_length] at hj
      obtain ⟨q, hq, hu'⟩ := prsV_inv L j hj
      have h3 := (hc _ q hq).1 (j % 2) (Nat.mod_lt _ (by omega))
      rw [show j / 2 * 2 + j % 2 = j from by omega, ← hu', hu] at h3
      exact ⟨x, rfl, by have := World.block_lt_of_cell? w _ h3; rwa [block_add] at this, h3⟩
    · obtain ⟨i, hi', rfl⟩ := List.mem_iff_getElem.1 hq
      exact (hc i _ (List.getElem?_eq_getElem hi')).2.2
theorem ptrs_field {n : Nat} {v : Value} {y : DataW H × List MemPlace} (h : DataW.trod enc Tryd.prog w 0 sp hd n 42 [v] = some y) :
    ∃ (A : Option Addr) (len c : Nat) (l : List Pr), v = .slice A len c ∧ l.length = len ∧ len ≤ c ∧ c ≤ maxLen ∧ Rd w w.heap.size A (prsV l) ∧ prSums l := by
  have hf : ∃ a len cap, v = .slice a len cap := by
    rcases open_slice Tryd.underlying42 h with ⟨hcs, _⟩ | ⟨x, l, c, m, n, D, Pl, hcs, _⟩
    · simp only [List.cons.injEq, and_true] at hcs
      exact ⟨_, _, _, hcs⟩
    · simp only [List.cons.injEq, and_true] at hcs
      exact ⟨_, _, _, hcs⟩
  obtain ⟨a, len, cap, rfl⟩ := hf
  obtain ⟨l, h1, h2, h3, h4, h5⟩ := ptrs_in (a := a) (len := len) (cap := cap) (d := y.1) (p := y.2) ⟨n, h⟩
  exact ⟨a, len, cap, l, rfl, h1, h2, h3, h4, h5⟩
theorem cells_iapart : Tryd.prog.cellsOf 58 = 49 := by kernel_rfl
theorem cells_u8I : Tryd.prog.cellsOf 5 = 1 := by kernel_rfl
theorem cells_ptrsI : Tryd.prog.cellsOf 42 = 1 := by kernel_rfl
/-- the cells of two inodes and two nodes -/
def apV (a : Int) (x y : Ino) (u v : Value) : List Value := .int .u8 a :: (inoV x ++ (inoV y ++ [u, v]))
theorem iapart_in {r : Reach} {b0 : Nat} {v : Value} {d : DataW H} {p : List MemPlace} (hv : Value.okWide Tryd.prog w r b0 58 v) (h : DataW.Trod enc Tryd.prog w 0 sp hd 58 v d p) :
    ∃ (a : Int) (x y : Ino) (A : Option Addr) (n c : Nat) (l : List Pr) (A' : Option Addr) (n' c' : Nat) (m : List Pr), ((0 ≤ a ∧ a ≤ 255) ∧ x.p.length = 9 ∧ inoI x ∧ y.p.length = 9 ∧ inoI y ∧ (l.length = n ∧ n ≤ c ∧ c ≤ maxLen ∧ Rd w w.heap.size A (prsV l) ∧ prSums l) ∧ (m.length = n' ∧ n' ≤ c' ∧ c' ≤ maxLen ∧ Rd w w.heap.size A' (prsV m) ∧ prSums m))
      ∧ v = .agg (apV a x y (.slice A n c) (.slice A' n' c')).toArray := by
  obtain ⟨cs, rfl, hsz⟩ := okWide_struct Tryd.underlying58 hv
  obtain ⟨fuel, hf⟩ := h
  obtain ⟨L⟩ := cs
  have hf : DataW.trod enc Tryd.prog w 0 sp hd fuel 58 L = some (d, p) := hf
  obtain ⟨xs, m, _, _, hlen, hxl, hfs⟩ := DataW.trod_struct Tryd.underlying58 hf
  rw [cells_iapart] at hlen
  have h0 : DataW.trod enc Tryd.prog w 0 sp hd m 5 (List.take (Tryd.prog.cellsOf 5) (L.drop 0)) = xs[0]? := hfs 0 _ rfl
  have h1 : DataW.trod enc Tryd.prog w 0 sp hd m 27 (List.take (Tryd.prog.cellsOf 27) (L.drop 1)) = xs[1]? := hfs 1 _ rfl
  have h2 : DataW.trod enc Tryd.prog w 0 sp hd m 27 (List.take (Tryd.prog.cellsOf 27) (L.drop 24)) = xs[2]? := hfs 2 _ rfl
  have h3 : DataW.trod enc Tryd.prog w 0 sp hd m 42 (List.take (Tryd.prog.cellsOf 42) (L.drop 47)) = xs[3]? := hfs 3 _ rfl
  have h4 : DataW.trod enc Tryd.prog w 0 sp hd m 42 (List.take (Tryd.prog.cellsOf 42) (L.drop 48)) = xs[4]? := hfs 4 _ rfl
  have hxl' : xs.length = 5 := hxl
  rw [cells_u8I] at h0
  rw [cells_ino7] at h1 h2
  rw [cells_ptrsI] at h3 h4
  rw [List.getElem?_eq_getElem (by omega)] at h0 h1 h2 h3 h4
  obtain ⟨a, e0, _, w0⟩ := DataW.trod_int Tryd.underlying5 h0
  obtain ⟨x, hx, ix, e1⟩ := ino_cellsIn h1
  obtain ⟨y, hy, iy, e2⟩ := ino_cellsIn h2
  have s3 : (L.drop 47).take 1 = [L[47]'(by omega)] := by rw [List.drop_eq_getElem_cons (by omega), List.take_succ_cons, List.take_zero]
  have s4 : (L.drop 48).take 1 = [L[48]'(by omega)] := by rw [List.drop_eq_getElem_cons (by omega), List.take_succ_cons, List.take_zero]
  rw [s3] at h3
  rw [s4] at h4
  obtain ⟨A, n, c, l, e3, hl⟩ := ptrs_field h3
  obtain ⟨A', n', c', l', e4, hl'⟩ := ptrs_field h4
  refine ⟨a, x, y, A, n, c, l, A', n', c', l', ⟨bounds_u8 w0, hx, ix, hy, iy, hl, hl'⟩, ?_⟩
  have e : L = apV a x y (.slice A n c) (.slice A' n' c') := by
    rw [apV, ← e1, ← e2, ← e3, ← e4]
    have p0 : L = L.take 1 ++ L.drop 1 := (List.take_append_drop 1 L).symm
    have p1 : L.drop 1 = (L.drop 1).take 23 ++ L.drop 24 := by
      have := (List.take_append_drop 23 (L.drop 1)).symm
      rwa [List.drop_drop] at this
    have p2 : L.drop 24 = (L.drop 24).take 23 ++ L.drop 47 := by
      have := (List.take_append_drop 23 (L.drop 24)).symm
      rwa [List.drop_drop] at this
    have p3 : L.drop 47 = [L[47]'(by omega), L[48]'(by omega)] := by
      rw [List.drop_eq_getElem_cons (by omega), List.drop_eq_getElem_cons (by omega), List.drop_of_length_le (by omega)]
    have p4 : L.take 1 = [.int .u8 a] := by simpa using e0
    conv => lhs; rw [p0, p1, p2, p3, p4]
    rfl
  rw [e]
end
end Go.Proofs.YtjhnabhieihifaaDoor
