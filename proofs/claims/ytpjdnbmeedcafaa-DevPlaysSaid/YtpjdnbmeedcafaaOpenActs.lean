/-
  An argument that is a slice of what is done with a device, as a list; whatever its address.
-/
import Derived.Test.YtpjdnbmeedcafaaOpen
import Derived.Test.YtpjdnbmeedcafaaMem2
import Derived.Deep.Slices
import Derived.Deep.Fields
namespace Go.Proofs.Ytpjdnbmeedcafaa
open Go.ChangeShapes Go.WideShapes Go.ChangeAt Go.RowKit Go.Deep
set_option linter.unusedVariables false

structure Act' where
  dO : Int
  i : Int
  k : Int
  c : UInt8
  short : Bool
  fA : Option Addr
  fcap : Nat
  far : List Int
def actV (a : Act') : List Value := [.int .i64 a.dO, .int .i64 a.i, .int .i64 a.k, .int .u8 (a.c.toNat : Int), .bool a.short, .slice a.fA a.far.length a.fcap]
def actsV : List Act' → List Value
  | [] => []
  | a :: l => actV a ++ actsV l
/-- what is known of each beside its cells -/
structure ActOk (w : World) (B : Nat) (a : Act') : Prop where
  far : Rd w B a.fA (a.far.map iv)
  cap : a.far.length ≤ a.fcap
  max : a.fcap ≤ maxLen
  dO : -9223372036854775808 ≤ a.dO ∧ a.dO ≤ 9223372036854775807
  i : -9223372036854775808 ≤ a.i ∧ a.i ≤ 9223372036854775807
  k : -9223372036854775808 ≤ a.k ∧ a.k ≤ 9223372036854775807
structure ActsIn (w : World) (B : Nat) (A : Option Addr) (l : List Act') : Prop where
  cells : Rd w B A (actsV l)
  each : ∀ a ∈ l, ActOk w B a
theorem ActOk.below {w w' : World} {B : Nat} {a : Act'} (h : ActOk w B a) (hb : Below B w w') : ActOk w' B a := ⟨h.far.below hb, h.cap, h.max, h.dO, h.i, h.k⟩
theorem ActsIn.below {w w' : World} {B : Nat} {A : Option Addr} {l : List Act'} (h : ActsIn w B A l) (hb : Below B w w') : ActsIn w' B A l := ⟨h.cells.below hb, fun a ha => (h.each a ha).below hb⟩
theorem actsV_length (l : List Act') : (actsV l).length = l.length * 6 := by
  induction l with
  | nil => rfl
  | cons a l ih => simp [actsV, actV, ih]; omega
theorem actsV_at : ∀ (l : List Act') (k : Nat) (a : Act'), l[k]? = some a → ∀ x, x < 6 → (actsV l)[k * 6 + x]? = (actV a)[x]?
  | [], k, a, h, x, hx => by simp at h
  | b :: l, 0, a, h, x, hx => by
    simp at h
    subst h
    rw [actsV, List.getElem?_append_left (by simp [actV]; omega)]
    simp
  | b :: l, k + 1, a, h, x, hx => by
    rw [actsV, List.getElem?_append_right (by simp [actV]; omega)]
    rw [← actsV_at l k a (by simpa using h) x hx]
    congr 1
    simp [actV]; omega
theorem actsV_inv (l : List Act') (j : Nat) (u : Value) (h : (actsV l)[j]? = some u) : ∃ a, l[j / 6]? = some a ∧ (actV a)[j % 6]? = some u := by
  have hj : j < (actsV l).length := (List.getElem?_eq_some_iff.1 h).1
  rw [actsV_length] at hj
  have hk : j / 6 < l.length := by omega
  refine ⟨l[j / 6], List.getElem?_eq_getElem hk, ?_⟩
  rw [← actsV_at l (j / 6) _ (List.getElem?_eq_getElem hk) (j % 6) (Nat.mod_lt _ (by omega)), ← h]
  congr 1
  omega

theorem gather_ {α : Type} (p : Nat → α → Prop) : ∀ m : Nat, (∀ i, i < m → ∃ a, p i a) → ∃ l : List α, l.length = m ∧ ∀ i a, l[i]? = some a → p i a
  | 0, _ => ⟨[], rfl, fun i p h => by simp at h⟩
  | m + 1, h => by
    obtain ⟨l, hl, hc⟩ := gather_ p m fun i hi => h i (by omega)
    obtain ⟨a, ha⟩ := h m (by omega)
    refine ⟨l ++ [a], by simp [hl], fun i q hq => ?_⟩
    rcases Nat.lt_or_ge i l.length with hi | hi
    · rw [List.getElem?_append_left hi] at hq; exact hc i q hq
    · rw [List.getElem?_append_right hi] at hq
      have h0 : i - l.length = 0 := by
        rcases Nat.eq_zero_or_pos (i - l.length) with h | h
        · exact h
        · rw [List.getElem?_eq_none (by simp; omega)] at hq; cases hq
      rw [h0] at hq
      simp at hq
      subst hq
      obtain rfl : i = m := by omega
      exact ha

section
variable {H : Type} {enc : TypeId × Value → H} {w : World} {hd : Bool} {sp : Nat → Bool}
theorem far_in {n : Nat} {v : Value} {y : DataW H × List MemPlace} (h : DataW.trod enc Try.prog w 0 sp hd n 30 [v] = some y) :
    ∃ (a : Option Addr) (cap : Nat) (xs : List Int), v = .slice a xs.length cap ∧ xs.length ≤ cap ∧ cap ≤ maxLen ∧ Rd w w.heap.size a (xs.map iv) := by
  have hf : ∃ a len cap, v = .slice a len cap := by
    rcases open_slice Try.underlying30 h with ⟨hcs, _⟩ | ⟨x, l, c, m, n, D, Pl, hcs, _⟩
    · simp only [List.cons.injEq, and_true] at hcs
      exact ⟨_, _, _, hcs⟩
    · simp only [List.cons.injEq, and_true] at hcs
      exact ⟨_, _, _, hcs⟩
  obtain ⟨a, len, cap, rfl⟩ := hf
  obtain ⟨xs, rfl, h2, h3, h4⟩ := ints_in Try.underlying30 Try.underlying3 (by kernel_rfl) (a := a) (len := len) (cap := cap) (d := y.1) (p := y.2) ⟨n, h⟩
  exact ⟨a, cap, xs, rfl, h2, h3, h4⟩
theorem acts_in {a : Option Addr} {len cap : Nat} {d : DataW H} {p : List MemPlace} (h : DataW.Trod enc Try.prog w 0 sp hd 22 (.slice a len cap) d p) :
    ∃ l : List Act', l.length = len ∧ len ≤ cap ∧ cap ≤ maxLen ∧ ActsIn w w.heap.size a l := by
  obtain ⟨fuel, hf⟩ := h
  have hC : Try.prog.cellsOf 32 = 6 := by kernel_rfl
  have c3 : Try.prog.cellsOf 3 = 1 := by kernel_rfl
  have c5 : Try.prog.cellsOf 5 = 1 := by kernel_rfl
  have c4 : Try.prog.cellsOf 4 = 1 := by kernel_rfl
  have c30 : Try.prog.cellsOf 30 = 1 := by kernel_rfl
  rcases open_slice Try.underlying22 hf with ⟨hcs, _⟩ | ⟨x, l, c, m, n, D, Pl, hcs, hb, hl, hm, hmm, hx, hi⟩
  · simp [Value.cells] at hcs
    obtain ⟨rfl, rfl, rfl⟩ := hcs
    exact ⟨[], rfl, Nat.le_refl _, by simp, ⟨Rd.nil_, fun n hn => by simp at hn⟩⟩
  · simp [Value.cells] at hcs
    obtain ⟨rfl, rfl, rfl⟩ := hcs
    have hlm : len ≤ m := by rw [hmm]; split <;> omega
    obtain ⟨L, hL, hc⟩ := gather_ (fun i q => (∀ y, y < 6 → w.cell? (x.add (i * 6 + y)) = (actV q)[y]?) ∧ ActOk w w.heap.size q) len fun i hil => by
      obtain ⟨cs', hcells, ht⟩ := hi i (by omega)
      rw [hC] at hcells
      obtain ⟨xs, n', _, _, hlen, hxl, hfs⟩ := DataW.trod_struct Try.underlying32 ht
      obtain ⟨_, hcl, hat⟩ := World.cells?_some hcells
      match cs', hcl with
      | [u0, u1, u2, u3, u4, u5], _ =>
        have h0 : DataW.trod enc Try.prog w 0 sp hd n' 3 (List.take (Try.prog.cellsOf 3) [u0, u1, u2, u3, u4, u5]) = xs[0]? := hfs 0 _ rfl
        have h1 : DataW.trod enc Try.prog w 0 sp hd n' 3 (List.take (Try.prog.cellsOf 3) [u1, u2, u3, u4, u5]) = xs[1]? := hfs 1 _ rfl
        have h2 : DataW.trod enc Try.prog w 0 sp hd n' 3 (List.take (Try.prog.cellsOf 3) [u2, u3, u4, u5]) = xs[2]? := hfs 2 _ rfl
        have h3 : DataW.trod enc Try.prog w 0 sp hd n' 5 (List.take (Try.prog.cellsOf 5) [u3, u4, u5]) = xs[3]? := hfs 3 _ rfl
        have h4 : DataW.trod enc Try.prog w 0 sp hd n' 4 (List.take (Try.prog.cellsOf 4) [u4, u5]) = xs[4]? := hfs 4 _ rfl
        have h5 : DataW.trod enc Try.prog w 0 sp hd n' 30 (List.take (Try.prog.cellsOf 30) [u5]) = xs[5]? := hfs 5 _ rfl
        rw [c3] at h0 h1 h2
        rw [c5] at h3
        rw [c4] at h4
        rw [c30] at h5
        simp only [List.take_succ_cons, List.take_zero] at h0 h1 h2 h3 h4 h5
        have hxl' : xs.length = 6 := hxl
        rw [List.getElem?_eq_getElem (by omega)] at h0 h1 h2 h3 h4 h5
        obtain ⟨q0, e0, _, w0⟩ := DataW.trod_int Try.underlying3 h0
        obtain ⟨q1, e1, _, w1⟩ := DataW.trod_int Try.underlying3 h1
        obtain ⟨q2, e2, _, w2⟩ := DataW.trod_int Try.underlying3 h2
        obtain ⟨q3, e3, _, w3⟩ := DataW.trod_int Try.underlying5 h3
        obtain ⟨q4, e4, _⟩ := DataW.trod_bool Try.underlying4 h4
        obtain ⟨fa, fcap, far, rfl, f1, f2, f3⟩ := far_in h5
        simp only [List.cons.injEq, and_true] at e0 e1 e2 e3 e4
        subst e0 e1 e2 e3 e4
        have hb3 := bounds_u8 w3
        refine ⟨⟨q0, q1, q2, UInt8.ofNat q3.toNat, q4, fa, fcap, far⟩, fun y hy => ?_, ⟨f3, f1, f2, bounds_i64 w0, bounds_i64 w1, bounds_i64 w2⟩⟩
        have := hat y (by omega)
        rw [add_add'] at this
        rw [this]
        have e : (((UInt8.ofNat q3.toNat).toNat : Nat) : Int) = q3 := by simp; omega
        simp only [actV, e]
    refine ⟨L, hL, hl, hm, ⟨fun j u hu => ?_, fun q hq => ?_⟩⟩
    · obtain ⟨q, hq, hu'⟩ := actsV_inv L j u hu
      have h3 := (hc _ q hq).1 (j % 6) (Nat.mod_lt _ (by omega))
      rw [show j / 6 * 6 + j % 6 = j from by omega, hu'] at h3
      exact ⟨x, rfl, by have := World.block_lt_of_cell? w _ h3; rwa [block_add] at this, h3⟩
    · obtain ⟨i, hi', rfl⟩ := List.mem_iff_getElem.1 hq
      exact (hc i _ (List.getElem?_eq_getElem hi')).2
end
end Go.Proofs.Ytpjdnbmeedcafaa
