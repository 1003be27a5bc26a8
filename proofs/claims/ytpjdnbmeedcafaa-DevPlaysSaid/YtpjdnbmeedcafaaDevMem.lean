/-
  A device in memory: words on blocks that may turn, and what the six fields of a device lead to. No function is walked here.
-/
import Derived.Test.YtpjdnbmeedcafaaMem
import Derived.Test.YtpjdnbmeedcafaaMem2
import Derived.Laws.CopyOwn
import Derived.Laws.CopyRow
import Derived.Laws.Rows
import Derived.Laws.Tables
import Derived.Maps.Own
import Derived.Maps.OwnOps
import Derived.Maps.OwnSet
namespace Go.Proofs.Ytpjdnbmeedcafaa
open Go.RowKit Go.Maps
set_option linter.unusedVariables false

/-- of the blocks that w has only those of S may have turned -/
structure Fr (S : Nat → Prop) (w w' : World) : Prop where
  os : w'.os = w.os
  tape : w'.tape = w.tape
  output : w'.output = w.output
  size : w.heap.size ≤ w'.heap.size
  kept : ∀ k, k < w.heap.size → ¬ S k → w'.heap[k]? = w.heap[k]?

section
variable {S T : Nat → Prop} {a w w' : World}
theorem Fr.refl (S : Nat → Prop) (w : World) : Fr S w w := ⟨rfl, rfl, rfl, Nat.le_refl _, fun _ _ _ => rfl⟩
theorem Fr.trans (h : Fr S a w) (k : Fr T w w') (hT : ∀ k, T k → S k ∨ a.heap.size ≤ k) : Fr S a w' :=
  ⟨k.os.trans h.os, k.tape.trans h.tape, k.output.trans h.output, Nat.le_trans h.size k.size, fun i hi hn => (k.kept i (Nat.lt_of_lt_of_le hi h.size) (fun ht => (hT i ht).elim hn fun h' => by omega)).trans (h.kept i hi hn)⟩
theorem Fr.mono (h : Fr S a w) (hT : ∀ k, S k → T k) : Fr T a w := ⟨h.os, h.tape, h.output, h.size, fun k hk hn => h.kept k hk fun hs => hn (hT k hs)⟩
theorem Fr.of_below (h : Below a.heap.size a w) : Fr S a w := ⟨h.os, h.tape, h.output, h.size, fun k hk _ => h.block k hk⟩
theorem Fr.andBelow (h : Fr S a w) (k : Below w.heap.size w w') : Fr S a w' := h.trans (T := fun _ => False) (Fr.of_below k) fun _ hf => hf.elim
theorem Fr.alloc (h : Fr S a w) (o : Obj) : Fr S a (w.alloc o) := h.andBelow ((Below.refl _ _).alloc (Nat.le_refl _) o)
theorem Fr.drew (h : Fr S a w) : Fr S a w.drew := ⟨h.os, h.tape, h.output, h.size, h.kept⟩
theorem Fr.setCell (h : Fr S a w) {p : Addr} (hp : S p.block ∨ a.heap.size ≤ p.block) (u : Value) : Fr S a (w.setCell p u) :=
  h.trans (T := fun k => k = p.block) ⟨rfl, rfl, rfl, by simp [World.setCell], fun k hk hn => Below.heap_setCell w p u k hn⟩ fun k hk => by subst hk; exact hp
theorem Fr.setRow (h : Fr S a w) {g : Nat} (hp : S g ∨ a.heap.size ≤ g) (cs : Array Value) : Fr S a (w.setRow g cs) :=
  h.trans (T := fun k => k = g) ⟨rfl, rfl, rfl, by simp, fun k hk hn => setRow_other w g k cs hn⟩ fun k hk => by subst hk; exact hp
theorem Fr.grown {row : Option Nat} (h : Fr S a w) (hg : w.grownBy w' row) (hr : ∀ k, row = some k → S k ∨ a.heap.size ≤ k) : Fr S a w' :=
  h.trans (T := fun k => row = some k) ⟨hg.os, hg.tape, hg.output, hg.size, fun k hk hn => hg.block k hk fun e => hn e.symm⟩ hr
theorem Fr.below {B : Nat} (h : Fr S w w') (hS : ∀ k, S k → B ≤ k) (hB : B ≤ w.heap.size) : Below B w w' :=
  ⟨h.os, h.tape, h.output, h.size, fun k hk => h.kept k (by omega) fun hs => by have := hS k hs; omega⟩
theorem Fr.bk {g : Nat} {t : TypeId} {cs : Array Value} (h : Fr S w w') (hb : Bk w g t cs) (hn : ¬ S g) : Bk w' g t cs := (h.kept g hb.lt hn).trans hb
end

theorem own_keep {w w' : World} {base : Nat} {e : TypeId} {s n : Nat} {v : Value} {xs : List Value} (h : w.ownsRow base e s v n xs) (hk : ∀ k, v.ownBlock = some k → w'.heap[k]? = w.heap[k]?) : w'.ownsRow base e s v n xs := by
  refine ⟨h.1, ?_⟩
  rcases h.2 with h2 | ⟨g, cap, cur, rfl, hg, hh, r⟩
  · exact .inl h2
  · exact .inr ⟨g, cap, cur, rfl, hg, by rw [hk g rfl]; exact hh, r⟩
theorem own_lt {w : World} {base : Nat} {e : TypeId} {s n : Nat} {v : Value} {xs : List Value} (h : w.ownsRow base e s v n xs) {k : Nat} (hk : v.ownBlock = some k) : base ≤ k ∧ k < w.heap.size ∧ ∃ cs, Bk w k e cs := by
  rcases h.2 with ⟨rfl, _⟩ | ⟨g, cap, cur, rfl, hg, hh, r⟩
  · simp [Value.ownBlock] at hk
  · simp [Value.ownBlock] at hk
    subst hk
    exact ⟨hg, (Array.getElem?_eq_some_iff.1 hh).1, cur, hh⟩
theorem map_keep {H : Type} {w w' : World} {P : Program} {k : TypeId} {R : Value → Option (DataW H × List MemPlace)} {b n : Nat} {D : DataW H} (h : w.ownsMap P k R b n D) (hk : w'.heap[b]? = w.heap[b]?) : w'.ownsMap P k R b n D := by
  obtain ⟨es, clock, h1, r⟩ := h
  exact ⟨es, clock, hk.trans h1, r⟩
theorem map_at {H : Type} {w : World} {P : Program} {k : TypeId} {R : Value → Option (DataW H × List MemPlace)} {b n : Nat} {D : DataW H} (h : w.ownsMap P k R b n D) : ∃ es clock, w.heap[b]? = some (.map es clock) := by
  obtain ⟨es, clock, h1, r⟩ := h
  exact ⟨es, clock, h1⟩
theorem Bk.ne {w : World} {g g' : Nat} {t t' : TypeId} {cs cs' : Array Value} (h : Bk w g t cs) (h' : Bk w g' t' cs') (hne : t ≠ t') : g ≠ g' := by
  intro e; subst e
  unfold Bk at h h'
  rw [h] at h'
  injection h' with h'
  injection h' with _ ht
  exact hne ht
theorem Bk.ne_map {w : World} {g b : Nat} {t : TypeId} {cs : Array Value} {es : Array MapEntry} {clock : Nat} (h : Bk w g t cs) (h' : w.heap[b]? = some (.map es clock)) : g ≠ b := by
  intro e; subst e
  unfold Bk at h
  rw [h] at h'
  injection h' with h'
  cases h'
theorem Bk.row {w : World} {g : Nat} {t : TypeId} {cs : Array Value} (h : Bk w g t cs) (cs' : Array Value) : Bk (w.setRow g cs') g t cs' := setRow_heap w g cs cs' t _ h

/-! ### blocks of 128 octets -/
/-- the cells C are n blocks of 128 octets -/
def Is128 (n : Nat) (has : Nat → List UInt8) (C : Array Value) : Prop :=
  C.size = n * 128 ∧ ∀ i, i < n → ∀ j v, ((has i).map bv)[j]? = some v → C[i * 128 + j]? = some v
def upd (has : Nat → List UInt8) (i : Nat) (vs : List UInt8) : Nat → List UInt8 := fun j => if j = i then vs ++ (has i).drop vs.length else has j

theorem splice_at {α : Type} (L : List α) (o : Nat) (vs : List α) (h : o + vs.length ≤ L.length) (j : Nat) :
    (splice L o vs)[j]? = if o ≤ j ∧ j < o + vs.length then vs[j - o]? else L[j]? := by
  unfold splice
  by_cases h1 : j < o
  · rw [List.getElem?_append_left (by simp; omega), List.getElem?_take, if_pos h1, if_neg (by omega)]
  · rw [List.getElem?_append_right (by simp; omega)]
    have e : (L.take o).length = o := by simp; omega
    rw [e]
    by_cases h2 : j < o + vs.length
    · rw [List.getElem?_append_left (by omega), if_pos ⟨by omega, h2⟩]
    · rw [List.getElem?_append_right (by omega), List.getElem?_drop, if_neg (by omega), show o + vs.length + (j - o - vs.length) = j by omega]
theorem Is128.set {n : Nat} {has : Nat → List UInt8} {C : Array Value} (h : Is128 n has C) (hl : ∀ i, (has i).length = 128) {k : Nat} (hk : k < n) (vs : List UInt8) (hv : vs.length ≤ 128) :
    Is128 n (upd has k vs) (splice C.toList (k * 128) (vs.map bv)).toArray := by
  obtain ⟨h1, h2⟩ := h
  have hfit : k * 128 + (vs.map bv).length ≤ C.toList.length := by simp; omega
  refine ⟨by simp only [List.size_toArray]; rw [length_splice _ _ _ hfit]; simpa using h1, fun i hi j v hv' => ?_⟩
  rw [List.getElem?_toArray, splice_at _ _ _ hfit]
  unfold upd at hv'
  by_cases e : i = k
  · subst e
    rw [if_pos rfl, List.map_append, List.getElem?_append] at hv'
    by_cases hj : j < (vs.map bv).length
    · rw [if_pos hj] at hv'
      rw [if_pos ⟨by omega, by omega⟩, show i * 128 + j - i * 128 = j by omega]
      exact hv'
    · rw [if_neg hj, List.map_drop, List.getElem?_drop] at hv'
      rw [if_neg (by omega), Array.getElem?_toList]
      simp only [List.length_map] at hv' hj
      rw [show vs.length + (j - vs.length) = j by omega] at hv'
      exact h2 i hi j v hv'
  · rw [if_neg e] at hv'
    have hj : j < 128 := by
      have := (List.getElem?_eq_some_iff.1 hv').1
      simpa [hl] using this
    simp only [List.length_map]
    rw [if_neg (by omega), Array.getElem?_toList]
    exact h2 i hi j v hv'
theorem upd_length {has : Nat → List UInt8} (hl : ∀ i, (has i).length = 128) (k : Nat) (vs : List UInt8) (hv : vs.length ≤ 128) (i : Nat) : (upd has k vs i).length = 128 := by
  unfold upd
  split
  · simp [hl]; omega
  · exact hl i

/-- cells of blocks, read -/
theorem Is128.rd {n : Nat} {has : Nat → List UInt8} {C : Array Value} {w : World} {bb : Nat} {t : TypeId} (h : Is128 n has C) (hb : Bk w bb t C) {k : Nat} (hk : k < n) : Rd w w.heap.size (some ⟨bb, k * 128, none⟩) ((has k).map bv) :=
  Rd.part hb _ _ (h.2 k hk)

/-! ### what is pending, as cells -/
def pcell (p : Nat × List UInt8) : List Value := iv (p.1 : Int) :: p.2.map bv
def pcells : List (Nat × List UInt8) → List Value
  | [] => []
  | p :: l => pcell p ++ pcells l
theorem pcells_length {l : List (Nat × List UInt8)} (h : ∀ p ∈ l, p.2.length = 128) : (pcells l).length = l.length * 129 := by
  induction l with
  | nil => rfl
  | cons p l ih =>
    have h1 := h p (by simp)
    have h2 := ih fun q hq => h q (by simp [hq])
    simp [pcells, pcell, h1, h2, Nat.add_mul]; omega
theorem pcells_append (l m : List (Nat × List UInt8)) : pcells (l ++ m) = pcells l ++ pcells m := by
  induction l with
  | nil => rfl
  | cons p l ih => simp [pcells, ih]
theorem pcells_at {l : List (Nat × List UInt8)} (h : ∀ p ∈ l, p.2.length = 128) {k : Nat} {p : Nat × List UInt8} (hk : l[k]? = some p) {j : Nat} (hj : j < 129) : (pcells l)[k * 129 + j]? = (pcell p)[j]? := by
  induction l generalizing k with
  | nil => simp at hk
  | cons q l ih =>
    have h1 := h q (by simp)
    cases k with
    | zero =>
      simp at hk
      subst hk
      rw [pcells, List.getElem?_append_left (by simp [pcell, h1]; omega)]
      simp
    | succ k =>
      rw [pcells, List.getElem?_append_right (by simp [pcell, h1]; omega)]
      have := ih (fun q hq => h q (by simp [hq])) (k := k) (by simpa using hk)
      rw [← this]
      congr 1
      simp [pcell, h1]; omega

/-! ### the device -/
structure Dv where
  n : Nat
  has : Nat → List UInt8
  pend : List (Nat × List UInt8)
  flt : Int → Int
  bud : Int
  pow : Bool
  mnt : Bool
  cnt : Nat

structure Dv.Ok (D : Dv) : Prop where
  n1 : 1 ≤ D.n
  n2 : D.n ≤ 8192
  has : ∀ i, (D.has i).length = 128
  pend : ∀ p ∈ D.pend, p.1 < D.n ∧ p.2.length = 128
  flt : ∀ i, 0 ≤ D.flt i ∧ D.flt i ≤ 3
  bud : -1 ≤ D.bud ∧ D.bud ≤ 9223372036854775807

def Foot (sb bb mb : Nat) (pv : Value) (k : Nat) : Prop := k = sb ∨ k = bb ∨ k = mb ∨ pv.ownBlock = some k
def dcells (bb mb : Nat) (pv : Value) (D : Dv) : Array Value := #[.slice (some ⟨bb, 0, none⟩) D.n D.n, pv, .map (some mb), .int .i64 D.bud, .bool D.pow, .bool D.mnt]

structure DevAt (w : World) (base sb bb mb : Nat) (pv : Value) (D : Dv) : Prop where
  ok : D.Ok
  str : Bk w sb 62 (dcells bb mb pv D)
  blk : ∃ C, Bk w bb 67 C ∧ Is128 D.n D.has C
  pen : w.ownsRow base 69 129 pv D.pend.length (pcells D.pend)
  flt : ∃ C : DataW Unit, w.ownsMap Try.prog 3 (plainElem Try.prog 3) mb D.cnt C ∧ ∀ i : Int, C.atKey (.int .i64 i) (.lit (.int .i64 0)) = .lit (.int .i64 (D.flt i))
  bsb : base ≤ sb
  bbb : base ≤ bb
  bmb : base ≤ mb

section
variable {w w' : World} {base sb bb mb : Nat} {pv : Value} {D : Dv}
theorem DevAt.lt (h : DevAt w base sb bb mb pv D) {k : Nat} (hk : Foot sb bb mb pv k) : base ≤ k ∧ k < w.heap.size := by
  rcases hk with rfl | rfl | rfl | hk
  · exact ⟨h.bsb, h.str.lt⟩
  · obtain ⟨C, hC, _⟩ := h.blk; exact ⟨h.bbb, hC.lt⟩
  · obtain ⟨C, hC, _⟩ := h.flt; exact ⟨h.bmb, hC.lt⟩
  · obtain ⟨h1, h2, _⟩ := own_lt h.pen hk; exact ⟨h1, h2⟩
theorem DevAt.keep (h : DevAt w base sb bb mb pv D) (hk : ∀ k, Foot sb bb mb pv k → w'.heap[k]? = w.heap[k]?) : DevAt w' base sb bb mb pv D := by
  obtain ⟨C, hC, hC'⟩ := h.blk
  obtain ⟨E, hE, hE'⟩ := h.flt
  exact ⟨h.ok, (hk sb (.inl rfl)).trans h.str, ⟨C, (hk bb (.inr (.inl rfl))).trans hC, hC'⟩, own_keep h.pen fun k hk' => hk k (.inr (.inr (.inr hk'))), ⟨E, map_keep hE (hk mb (.inr (.inr (.inl rfl)))), hE'⟩, h.bsb, h.bbb, h.bmb⟩
theorem DevAt.up (h : DevAt w base sb bb mb pv D) (hb : Below w.heap.size w w') : DevAt w' base sb bb mb pv D := h.keep fun k hk => hb.block k (h.lt hk).2
theorem DevAt.drew (h : DevAt w base sb bb mb pv D) : DevAt w.drew base sb bb mb pv D := h.keep fun _ _ => rfl
theorem DevAt.by {S : Nat → Prop} (h : DevAt w base sb bb mb pv D) (hf : Fr S w w') (hS : ∀ k, Foot sb bb mb pv k → ¬ S k) : DevAt w' base sb bb mb pv D := h.keep fun k hk => hf.kept k (h.lt hk).2 (hS k hk)
/-- a block of another kind is none of the device's -/
theorem DevAt.off (h : DevAt w base sb bb mb pv D) {g : Nat} {t : TypeId} {cs : Array Value} (hg : Bk w g t cs) (h1 : t ≠ 62) (h2 : t ≠ 67) (h3 : t ≠ 69) : ¬ Foot sb bb mb pv g := by
  rintro (rfl | rfl | rfl | hk)
  · exact h.str.ne hg (Ne.symm h1) rfl
  · obtain ⟨C, hC, _⟩ := h.blk; exact hC.ne hg (Ne.symm h2) rfl
  · obtain ⟨C, hC, _⟩ := h.flt; obtain ⟨es, c, hm⟩ := map_at hC; exact hg.ne_map hm rfl
  · obtain ⟨_, _, cs', h'⟩ := own_lt h.pen hk; exact h'.ne hg (Ne.symm h3) rfl
theorem DevAt.apart (h : DevAt w base sb bb mb pv D) : sb ≠ bb ∧ sb ≠ mb ∧ bb ≠ mb ∧ pv.ownBlock ≠ some sb ∧ pv.ownBlock ≠ some bb ∧ pv.ownBlock ≠ some mb := by
  obtain ⟨C, hC, _⟩ := h.blk
  obtain ⟨E, hE, _⟩ := h.flt
  obtain ⟨es, c, hm⟩ := map_at hE
  refine ⟨h.str.ne hC (by decide), h.str.ne_map hm, hC.ne_map hm, fun e => ?_, fun e => ?_, fun e => ?_⟩
  · obtain ⟨_, _, cs', h'⟩ := own_lt h.pen e; exact h'.ne h.str (by decide) rfl
  · obtain ⟨_, _, cs', h'⟩ := own_lt h.pen e; exact h'.ne hC (by decide) rfl
  · obtain ⟨_, _, cs', h'⟩ := own_lt h.pen e; exact h'.ne_map hm rfl
end

/-- the device has turned, and nothing else that was there -/
structure Turn (base sb bb mb : Nat) (w : World) (pv : Value) (w' : World) (pv' : Value) (D' : Dv) : Prop where
  dev : DevAt w' base sb bb mb pv' D'
  fr : Fr (Foot sb bb mb pv) w w'
  mov : ∀ k, pv'.ownBlock = some k → pv.ownBlock = some k ∨ w.heap.size ≤ k
section
variable {w w' w'' : World} {base sb bb mb : Nat} {pv pv' pv'' : Value} {D D' D'' : Dv}
theorem Turn.refl (h : DevAt w base sb bb mb pv D) : Turn base sb bb mb w pv w pv D := ⟨h, Fr.refl _ _, fun k hk => .inl hk⟩
theorem Turn.foot (h : Turn base sb bb mb w pv w' pv' D') (k : Nat) (hk : Foot sb bb mb pv' k) : Foot sb bb mb pv k ∨ w.heap.size ≤ k := by
  rcases hk with hk | hk | hk | hk
  · exact .inl (.inl hk)
  · exact .inl (.inr (.inl hk))
  · exact .inl (.inr (.inr (.inl hk)))
  · rcases h.mov k hk with h' | h'
    · exact .inl (.inr (.inr (.inr h')))
    · exact .inr h'
theorem Turn.trans (h : Turn base sb bb mb w pv w' pv' D') (h' : Turn base sb bb mb w' pv' w'' pv'' D'') : Turn base sb bb mb w pv w'' pv'' D'' :=
  ⟨h'.dev, h.fr.trans h'.fr h.foot, fun k hk => by
    rcases h'.mov k hk with e | e
    · exact h.mov k e
    · exact .inr (Nat.le_trans h.fr.size e)⟩
theorem Turn.up (h : Turn base sb bb mb w pv w' pv' D') (hb : Below w'.heap.size w' w'') : Turn base sb bb mb w pv w'' pv' D' := ⟨h.dev.up hb, h.fr.andBelow hb, h.mov⟩
theorem Turn.pre {w0 : World} (hb : Below w0.heap.size w0 w) (h : Turn base sb bb mb w pv w' pv' D') : Turn base sb bb mb w0 pv w' pv' D' :=
  ⟨h.dev, (Fr.of_below (S := Foot sb bb mb pv) hb).trans h.fr fun k hk => .inl hk, fun k hk => (h.mov k hk).imp id fun e => Nat.le_trans hb.size e⟩
theorem Turn.below (h : Turn base sb bb mb w pv w' pv' D') (hd : DevAt w base sb bb mb pv D) (hb : base ≤ w.heap.size) : Below base w w' := h.fr.below (fun k hk => (hd.lt hk).1) hb
theorem Turn.bk (h : Turn base sb bb mb w pv w' pv' D') {g : Nat} {t : TypeId} {cs : Array Value} (hg : Bk w g t cs) (hn : ¬ Foot sb bb mb pv g) : Bk w' g t cs ∧ ¬ Foot sb bb mb pv' g :=
  ⟨h.fr.bk hg hn, fun hk => by rcases h.foot g hk with e | e; exact hn e; have := hg.lt; omega⟩
end
end Go.Proofs.Ytpjdnbmeedcafaa
