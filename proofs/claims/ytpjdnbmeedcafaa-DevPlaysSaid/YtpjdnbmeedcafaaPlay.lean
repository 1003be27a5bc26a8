/-
  Both devices beside one another, an act and a block of octets: what stands behind each call.
-/
import Derived.Test.YtpjdnbmeedcafaaRef6
namespace Go.Proofs.Ytpjdnbmeedcafaa
open Go.RowKit
set_option linter.unusedVariables false

theorem own_base {w : World} {base base' : Nat} {e : TypeId} {s n : Nat} {v : Value} {xs : List Value} (h : w.ownsRow base e s v n xs) (hb : base' ≤ base) : w.ownsRow base' e s v n xs := by
  refine ⟨h.1, ?_⟩
  rcases h.2 with h2 | ⟨g, cap, cur, hv, hg, r⟩
  · exact .inl h2
  · exact .inr ⟨g, cap, cur, hv, Nat.le_trans hb hg, r⟩
theorem RefAt.lower {w : World} {base base' rb : Nat} {hv fv lv : Value} {D : Dv} (h : RefAt w base rb hv fv lv D) (hb : base' ≤ base) : RefAt w base' rb hv fv lv D :=
  ⟨h.ok, h.cel, own_base h.has hb, own_base h.flt hb, own_base h.pen hb, Nat.le_trans hb h.brb⟩

/-- the numbers of a device ahead of act k -/
structure Nm (n k : Nat) (D : Dv) : Prop where
  n : D.n = n
  pend : D.pend.length ≤ k
  cnt : D.cnt ≤ k
section
variable {n k : Nat} {D : Dv}
theorem Nm.up (h : Nm n k D) : Nm n (k + 1) D := ⟨h.n, Nat.le_succ_of_le h.pend, Nat.le_succ_of_le h.cnt⟩
theorem Nm.start (h : Nm n k D) : Nm n k (startD D) := ⟨(startD_n D).trans h.n, by rw [startD_pend]; exact h.pend, by rw [startD_cnt]; exact h.cnt⟩
theorem Nm.write (h : Nm n k D) (j : Nat) (b : List UInt8) : Nm n (k + 1) (writeD D j b) := by
  unfold writeD
  split
  · exact ⟨h.start.n, by have := h.start.pend; simp; omega, Nat.le_succ_of_le h.start.cnt⟩
  · exact h.start.up
theorem Nm.exec (h : Nm n k D) (dn : Nat → Nat) : Nm n (k + 1) (execD D dn) := ⟨h.n, by simp [execD], Nat.le_succ_of_le h.cnt⟩
theorem Nm.flush (h : Nm n k D) : Nm n (k + 1) (flushD D) := by
  unfold flushD
  split
  · exact h.start.exec _
  · exact h.start.up
theorem Nm.erase (h : Nm n k D) : Nm n (k + 1) (eraseD D) := by
  unfold eraseD
  split
  · exact ⟨h.start.n, by simp, Nat.le_succ_of_le h.start.cnt⟩
  · exact h.start.up
theorem Nm.crash (h : Nm n k D) (far : List Int) : Nm n (k + 1) (crashD D far) := ⟨h.n, by simp [crashD, execD], Nat.le_succ_of_le h.cnt⟩
theorem Nm.on (h : Nm n k D) : Nm n (k + 1) { D with pow := true, bud := -1, pend := [] } := ⟨h.n, by simp, Nat.le_succ_of_le h.cnt⟩
theorem Nm.budget (h : Nm n k D) (b : Int) : Nm n (k + 1) { D with bud := b } := ⟨h.n, Nat.le_succ_of_le h.pend, Nat.le_succ_of_le h.cnt⟩
theorem Nm.mount (h : Nm n k D) (b : Bool) : Nm n (k + 1) { D with mnt := b } := ⟨h.n, Nat.le_succ_of_le h.pend, Nat.le_succ_of_le h.cnt⟩
theorem Nm.fault (h : Nm n k D) (i q : Int) : Nm n (k + 1) (faultD D i q) := ⟨h.n, Nat.le_succ_of_le h.pend, Nat.succ_le_succ h.cnt⟩
theorem Nm.put (h : Nm n k D) (H : Nat → List UInt8) : Nm n (k + 1) { D with has := H } := ⟨h.n, Nat.le_succ_of_le h.pend, Nat.le_succ_of_le h.cnt⟩
end

structure Rn (W : World) (sb bb mb rb gv g2 : Nat) (cs : Array Value) (pv hv fv lv : Value) (D1 D2 : Dv) (w : World) : Prop where
  dev : DevAt w W.heap.size sb bb mb pv D1
  ref : RefAt w W.heap.size rb hv fv lv D2
  below : Below W.heap.size W w
  act : Bk w gv 32 cs
  oct : ∃ o : Array Value, o.size = 128 ∧ Bk w g2 5 o
  bgv : W.heap.size ≤ gv
  bg2 : W.heap.size ≤ g2
section
variable {W : World} {sb bb mb rb gv g2 : Nat} {cs : Array Value} {pv hv fv lv : Value} {D1 D2 : Dv} {w : World}
theorem Rn.drew (h : Rn W sb bb mb rb gv g2 cs pv hv fv lv D1 D2 w) : Rn W sb bb mb rb gv g2 cs pv hv fv lv D1 D2 w.drew := ⟨h.dev.drew, h.ref.drew, h.below.drew, h.act, h.oct, h.bgv, h.bg2⟩
theorem Rn.drewN (h : Rn W sb bb mb rb gv g2 cs pv hv fv lv D1 D2 w) (m : Nat) : Rn W sb bb mb rb gv g2 cs pv hv fv lv D1 D2 (w.drewN m) :=
  ⟨h.dev.keep fun _ _ => rfl, h.ref.keep fun _ _ => rfl, h.below.drewN' m, h.act, h.oct, h.bgv, h.bg2⟩
theorem Rn.alloc (h : Rn W sb bb mb rb gv g2 cs pv hv fv lv D1 D2 w) (o : Obj) : Rn W sb bb mb rb gv g2 cs pv hv fv lv D1 D2 (w.alloc o) :=
  have hb : Below w.heap.size w (w.alloc o) := (Below.refl _ _).alloc (Nat.le_refl _) o
  have ⟨x, h1, h2⟩ := h.oct
  ⟨h.dev.up hb, h.ref.up hb, h.below.trans (hb.mono h.below.size), h.act.below hb h.act.lt, ⟨x, h1, h2.below hb h2.lt⟩, h.bgv, h.bg2⟩
theorem Rn.turn (h : Rn W sb bb mb rb gv g2 cs pv hv fv lv D1 D2 w) {w' : World} {pv' : Value} {D' : Dv} (ht : Turn W.heap.size sb bb mb w pv w' pv' D') : Rn W sb bb mb rb gv g2 cs pv' hv fv lv D' D2 w' :=
  have ⟨x, h1, h2⟩ := h.oct
  ⟨ht.dev, h.ref.turn h.dev ht, h.below.trans (ht.below h.dev h.below.size), (ht.bk h.act (h.dev.off h.act (by decide) (by decide) (by decide))).1,
    ⟨x, h1, (ht.bk h2 (h.dev.off h2 (by decide) (by decide) (by decide))).1⟩, h.bgv, h.bg2⟩
theorem Rn.turnF (h : Rn W sb bb mb rb gv g2 cs pv hv fv lv D1 D2 w) {w' : World} {hv' fv' lv' : Value} {D' : Dv} (hr : RefAt w' W.heap.size rb hv' fv' lv' D') (hf : Fr (FootR rb hv fv lv) w w') : Rn W sb bb mb rb gv g2 cs pv hv' fv' lv' D1 D' w' :=
  have ⟨x, h1, h2⟩ := h.oct
  have ht : TurnR W.heap.size rb w hv fv lv w' D' := ⟨⟨_, _, _, hr⟩, hf⟩
  ⟨ht.keep h.ref h.dev, hr, h.below.trans (ht.below h.ref h.below.size), hf.bk h.act (h.ref.off h.act (by decide) (by decide) (by decide) (by decide)),
    ⟨x, h1, hf.bk h2 (h.ref.off h2 (by decide) (by decide) (by decide) (by decide))⟩, h.bgv, h.bg2⟩
theorem Rn.turnR (h : Rn W sb bb mb rb gv g2 cs pv hv fv lv D1 D2 w) {w' : World} {D' : Dv} (ht : TurnR W.heap.size rb w hv fv lv w' D') : ∃ hv' fv' lv', Rn W sb bb mb rb gv g2 cs pv hv' fv' lv' D1 D' w' :=
  have ⟨_, _, _, hr⟩ := ht.dev
  ⟨_, _, _, h.turnF hr ht.fr⟩
/-- an octet of the block is written -/
theorem Rn.octet (h : Rn W sb bb mb rb gv g2 cs pv hv fv lv D1 D2 w) (i : Nat) (u : Value) : Rn W sb bb mb rb gv g2 cs pv hv fv lv D1 D2 (w.setCell ⟨g2, i, none⟩ u) := by
  obtain ⟨x, h1, h2⟩ := h.oct
  have o1 := h.dev.off h2 (by decide) (by decide) (by decide)
  have o2 := h.ref.off h2 (by decide) (by decide) (by decide) (by decide)
  refine ⟨h.dev.keep fun k hk => ?_, h.ref.keep fun k hk => ?_, h.below.setCell h.bg2 u, h.act.far ?_ u, ⟨x.setIfInBounds i u, by simpa using h1, h2.set_ i u⟩, h.bgv, h.bg2⟩
  · exact Below.heap_setCell _ _ _ _ (fun e => by subst e; exact o1 hk)
  · exact Below.heap_setCell _ _ _ _ (fun e => by subst e; exact o2 hk)
  · exact (h2.ne h.act (by decide)).symm
/-- a write, whatever its number and its octets -/
def wE (D : Dv) (i : Int) (L : Nat) : Int := if inN D.n i = false then 4 else if L = 128 then writeE D i.toNat else 1
def wD (D : Dv) (i : Int) (L : Nat) (c : UInt8) : Dv := if inN D.n i = false then D else if L = 128 then writeD D i.toNat (allOf c) else D
theorem Nm.wD {n k : Nat} {D : Dv} (h : Nm n k D) (i : Int) (L : Nat) (c : UInt8) : Nm n (k + 1) (wD D i L c) := by
  unfold Go.Proofs.Ytpjdnbmeedcafaa.wD
  split
  · exact h.up
  · split
    · exact h.write _ _
    · exact h.up
theorem Rn.write (i : Int) (L : Nat) (c : UInt8) (h : Rn W sb bb mb rb gv g2 cs pv hv fv lv D1 D2 w) (hb : Bk w g2 5 ((allOf c).map bv).toArray) (hL : L = 127 ∨ L = 128) (hpl : D1.pend.length ≤ 1000) :
    Calls Try.prog 14 #[.pointer (some ⟨sb, 0, none⟩), .int .i64 i, .slice (some ⟨g2, 0, none⟩) L 128] w fun e w' => e = .returned (.int .i64 (wE D1 i L)) ∧ ∃ pv', Rn W sb bb mb rb gv g2 cs pv' hv fv lv (wD D1 i L c) D2 w' := by
  unfold wE wD
  by_cases hi : inN D1.n i = false
  · rw [if_pos hi, if_pos hi]
    exact (Write_no i _ L 128 false w h.dev hi (by omega) (.inl rfl)).mono fun e w' ⟨he, hw⟩ => ⟨he, pv, by rw [← hw]; exact h⟩
  · have hi : inN D1.n i = true := by simpa using hi
    rw [hi]
    rcases hL with rfl | rfl
    · exact (Write_no i _ 127 128 true w h.dev hi (by omega) (.inr (by omega))).mono fun e w' ⟨he, hw⟩ => ⟨he, pv, by rw [← hw]; exact h⟩
    · obtain ⟨h0, h1⟩ := inN_yes hi
      have := Write_all i.toNat g2 c w h.dev h.below.size (by omega) hb hpl
      rw [show ((i.toNat : Nat) : Int) = i by omega] at this
      exact this.mono fun e w' ⟨he, pv', ht⟩ => ⟨he, pv', h.turn ht⟩
theorem Rn.writeR (i : Int) (L : Nat) (c : UInt8) (h : Rn W sb bb mb rb gv g2 cs pv hv fv lv D1 D2 w) (hL : L = 127 ∨ L = 128) (hpl : D2.pend.length ≤ 1000) :
    Calls Try.prog 15 #[.pointer (some ⟨rb, 0, none⟩), .int .i64 i, .string (str (List.replicate L c))] w fun e w' => e = .returned (.int .i64 (wE D2 i L)) ∧ ∃ hv' fv' lv', Rn W sb bb mb rb gv g2 cs pv hv' fv' lv' D1 (wD D2 i L c) w' := by
  unfold wE wD
  by_cases hi : inN D2.n i = false
  · rw [if_pos hi, if_pos hi]
    have := refWrite_no i (str (List.replicate L c)) w h.ref (by rw [str_size]; simp; omega) (.inl hi)
    rw [if_pos hi] at this
    exact this.mono fun e w' ⟨he, hw⟩ => ⟨he, hv, fv, lv, by rw [← hw]; exact h⟩
  · rw [if_neg hi, if_neg hi]
    rcases hL with rfl | rfl
    · have := refWrite_no i (str (List.replicate 127 c)) w h.ref (by rw [str_size]; simp) (.inr (by rw [str_size]; simp))
      rw [if_neg hi] at this
      exact this.mono fun e w' ⟨he, hw⟩ => ⟨he, hv, fv, lv, by rw [← hw]; exact h⟩
    · have hi : inN D2.n i = true := by simpa using hi
      obtain ⟨h0, h1⟩ := inN_yes hi
      have := refWrite_yes i.toNat (allOf c) w h.ref h.below.size (by omega) (allOf_length c) hpl
      rw [show ((i.toNat : Nat) : Int) = i by omega] at this
      exact this.mono fun e w' ⟨he, ht⟩ => ⟨he, h.turnR ht⟩
theorem Rn.crash (A : Option Addr) (c : Nat) (far : List Int) (h : Rn W sb bb mb rb gv g2 cs pv hv fv lv D1 D2 w) (hr : Rd W W.heap.size A (far.map iv)) (hpl : D1.pend.length ≤ 1000) :
    Calls Try.prog 19 #[.pointer (some ⟨sb, 0, none⟩), .slice A far.length c] w fun e w' => e = .returned (.tuple #[]) ∧ ∃ pv', Rn W sb bb mb rb gv g2 cs pv' hv fv lv (crashD D1 far) D2 w' :=
  (Crash_any A far.length c W.heap.size far w h.dev hpl rfl fun w' hf => hr.below (h.below.trans (hf.below (fun k hk => (h.dev.lt hk).1) h.below.size))).mono fun e w' ⟨he, pv', ht⟩ => ⟨he, pv', h.turn ht⟩
theorem Rn.crashR (A : Option Addr) (c : Nat) (far : List Int) (h : Rn W sb bb mb rb gv g2 cs pv hv fv lv D1 D2 w) (hr : Rd W W.heap.size A (far.map iv)) (hpl : D2.pend.length ≤ 1000) (hfl : far.length ≤ 9223372036854775807) :
    Calls Try.prog 20 #[.pointer (some ⟨rb, 0, none⟩), .slice A far.length c] w fun e w' => e = .returned (.tuple #[]) ∧ ∃ hv' fv' lv', Rn W sb bb mb rb gv g2 cs pv hv' fv' lv' D1 (crashD D2 far) w' :=
  (refCrash_any A c W.heap.size far w h.ref hpl hfl fun w' hf => hr.below (h.below.trans (hf.below (fun k hk => (h.ref.typ hk).1) h.below.size))).mono fun e w' ⟨he, ht⟩ => ⟨he, h.turnR ht⟩
end

/-- what is known between the acts -/
structure Pl (W : World) (sb bb mb rb : Nat) (pv hv fv lv : Value) (D : Dv) (w : World) : Prop where
  dev : DevAt w W.heap.size sb bb mb pv D
  ref : RefAt w W.heap.size rb hv fv lv D
  below : Below W.heap.size W w
theorem Rn.pl {W : World} {sb bb mb rb gv g2 : Nat} {cs : Array Value} {pv hv fv lv : Value} {D : Dv} {w : World} (h : Rn W sb bb mb rb gv g2 cs pv hv fv lv D D w) : Pl W sb bb mb rb pv hv fv lv D w := ⟨h.dev, h.ref, h.below⟩
section
variable {W : World} {sb bb mb rb : Nat} {pv hv fv lv : Value} {D : Dv} {w w' : World}
theorem Pl.up (h : Pl W sb bb mb rb pv hv fv lv D w) (hb : Below w.heap.size w w') : Pl W sb bb mb rb pv hv fv lv D w' := ⟨h.dev.up hb, h.ref.up hb, h.below.trans (hb.mono h.below.size)⟩
end
theorem conv_part (w : World) (g L : Nat) (c : UInt8) (h : Bk w g 5 ((allOf c).map bv).toArray) (hL : L = 127 ∨ L = 128) : (convert 33 9 (.slice (some ⟨g, 0, none⟩) L 128)).run Try.prog w = .ok (.string (str (List.replicate L c))) w :=
  run_conv (P := Try.prog) 33 5 9 Try.underlying33 Try.underlying5 under_str4 (bs := List.replicate L c) L 128 (by simp) (Rd.part h _ _ (fun j v hv => by
    have e : ((allOf c).map bv) = ((List.replicate L c).map bv) ++ ((List.replicate (128 - L) c).map bv) := by
      unfold allOf; rw [← List.map_append, List.replicate_append_replicate, show L + (128 - L) = 128 by omega]
    rw [List.getElem?_toArray, Nat.zero_add, e, List.getElem?_append_left (List.getElem?_eq_some_iff.1 hv).1]
    exact hv))
theorem conv_nil (w : World) : (convert 33 9 (.slice none 0 0)).run Try.prog w = .ok (.string ⟨#[]⟩) w :=
  run_conv (P := Try.prog) 33 5 9 Try.underlying33 Try.underlying5 under_str4 (bs := []) (B := 0) 0 0 rfl (fun j u hu => by simp at hu)
end Go.Proofs.Ytpjdnbmeedcafaa
