/-
  A device in the statements' loops: what is written at any number, and how a slice of acts lies.
-/
import Derived.Test.YtpjdnbmeedcafaaDevAwake
import Derived.Test.YtpjdnbmeedcafaaDevCalm
import Derived.Test.YtpjdnbmeedcafaaOpenActs
namespace Go.Proofs.Ytpjdnbmeedcafaa
open Go.RowKit
set_option linter.unusedVariables false

/-- a write at any number -/
def actE (D : Dv) (i : Int) : Int := if inN D.n i = true then writeE D i.toNat else 4
def actW (D : Dv) (i : Int) (c : UInt8) : Dv := if inN D.n i = true then writeD D i.toNat (allOf c) else D
theorem Write_int {base sb bb mb : Nat} {pv : Value} {D : Dv} (i : Int) (g : Nat) (c : UInt8) (w : World) (h : DevAt w base sb bb mb pv D) (hbase : base ≤ w.heap.size) (hb : Bk w g 5 ((allOf c).map bv).toArray) (hpl : D.pend.length ≤ 1000) :
    Calls Try.prog 14 #[.pointer (some ⟨sb, 0, none⟩), .int .i64 i, .slice (some ⟨g, 0, none⟩) 128 128] w fun e w' => e = .returned (.int .i64 (actE D i)) ∧ ∃ pv', Turn base sb bb mb w pv w' pv' (actW D i c) := by
  by_cases hi : inN D.n i = true
  · obtain ⟨h0, h1⟩ := inN_yes hi
    have e1 : actE D i = writeE D i.toNat := if_pos hi
    have e2 : actW D i c = writeD D i.toNat (allOf c) := if_pos hi
    rw [e1, e2]
    have := Write_all i.toNat g c w h hbase (by omega) hb hpl
    rw [show ((i.toNat : Nat) : Int) = i by omega] at this
    exact this
  · have hf : inN D.n i = false := by simpa using hi
    have e1 : actE D i = 4 := if_neg hi
    have e2 : actW D i c = D := if_neg hi
    rw [e1, e2]
    exact (Write_no i _ 128 128 false w h hf (by omega) (.inl rfl)).mono fun e w' ⟨he, hw⟩ => ⟨he, pv, by rw [← hw]; exact Turn.refl h⟩

/-- a device of n blocks that works, with k writes pending at most -/
structure Works (D : Dv) (n k : Nat) : Prop where
  calm : Calm D
  n : D.n = n
  flt : ∀ i, D.flt i = 0
  pend : D.pend.length ≤ k
theorem Works.up {D : Dv} {n k k' : Nat} (h : Works D n k) (hk : k ≤ k') : Works D n k' := ⟨h.calm, h.n, h.flt, Nat.le_trans h.pend hk⟩
theorem works_new (n : Nat) : Works (newD n) n 0 := ⟨calm_new n, rfl, fun _ => rfl, Nat.le_refl _⟩
theorem Works.act {D : Dv} {n k : Nat} (h : Works D n k) (i : Int) (c : UInt8) : Works (actW D i c) n (k + 1) := by
  unfold actW
  split
  · rw [h.calm.writeD (h.flt _)]
    exact ⟨⟨h.calm.bud, h.calm.pow, h.calm.mnt⟩, h.n, h.flt, by have := h.pend; simp; omega⟩
  · exact h.up (by omega)
theorem Works.flush {D : Dv} {n k : Nat} (h : Works D n k) : Works (flushD D) n k := by
  rw [h.calm.flushD]
  exact ⟨⟨h.calm.bud, h.calm.pow, h.calm.mnt⟩, h.n, h.flt, by simp [execD]⟩

/-- the cells of one act -/
theorem act_cells {w : World} {B : Nat} {A : Option Addr} {l : List Act'} (h : ActsIn w B A l) {k : Nat} {a : Act'} (hk : l[k]? = some a) :
    ∃ b o, A = some ⟨b, o, none⟩ ∧ b < B ∧ (∀ x, x < 6 → w.cell? ⟨b, o + k * 6 + x, none⟩ = (actV a)[x]?) := by
  have hlen : k < l.length := (List.getElem?_eq_some_iff.1 hk).1
  obtain ⟨b, o, hA, hb, hc⟩ := h.cells.plain (by rw [actsV_length]; omega)
  refine ⟨b, o, hA, hb, fun x hx => ?_⟩
  obtain ⟨u, hu⟩ : ∃ u, (actV a)[x]? = some u := ⟨_, List.getElem?_eq_getElem (by simp [actV]; omega)⟩
  rw [hu]
  have := hc (k * 6 + x) u (by rw [actsV_at l k a hk x hx]; exact hu)
  rw [← this]
  congr 2
  omega

/-! ### a region in which one block of one octet is made -/
def R1 (q : Nat) (c : UInt8) (w0 : World) (L : Nat → Bool) (w : World) : Prop :=
  Below w0.heap.size w0 w ∧ (L q = false → w.heap.size = w0.heap.size) ∧ (L q = true → Bk w w0.heap.size 5 ((allOf c).map bv).toArray)
theorem R1_pure {q : Nat} {c : UInt8} {w0 : World} (i : Nat) (L : Nat → Bool) (w : World) (h5 : i ≠ q) (h : R1 q c w0 L w) : R1 q c w0 (setL L i) w := by
  unfold R1 at h ⊢
  rw [setL_other _ (Ne.symm h5)]
  exact h
theorem R1_start (q : Nat) (c : UInt8) (w0 : World) : R1 q c w0 (fun _ => false) w0.drew := ⟨(Below.refl _ _).drew, fun _ => rfl, fun h => (nomatch h)⟩
/-- the block as a text -/
theorem conv_all (w : World) (g : Nat) (c : UInt8) (h : Bk w g 5 ((allOf c).map bv).toArray) : (convert 33 9 (.slice (some ⟨g, 0, none⟩) 128 128)).run Try.prog w = .ok (.string (str (allOf c))) w :=
  run_conv (P := Try.prog) 33 5 9 Try.underlying33 Try.underlying5 under_str4 (bs := allOf c) 128 128 (allOf_length c) (by have := Rd.bk h; simpa using this)
theorem conv_out (w : World) (g : Nat) (bs : List UInt8) (hl : bs.length = 128) (h : Bk w g 67 (bs.map bv).toArray) : (convert 33 9 (.slice (some ⟨g, 0, none⟩) 128 128)).run Try.prog w = .ok (.string (str bs)) w :=
  run_conv (P := Try.prog) 33 5 9 Try.underlying33 Try.underlying5 under_str4 (bs := bs) 128 128 hl (by have := Rd.bk h; simpa using this)
end Go.Proofs.Ytpjdnbmeedcafaa
