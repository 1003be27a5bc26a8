/-
  Pointers in cells of their own; maps from numbers to pointers, and to slices.
-/
import Derived.Test.YtnipfonglheofaaDoorTopMath
import Derived.Test.YtnipfonglheofaaDoorMapV2
import Derived.Test.YtnipfonglheofaaDoorTopWorks
import Derived.Test.YtnipfonglheofaaDoorReachP5
import Derived.Carry
namespace Go.Proofs.YtnipfonglheofaaDoor
open Go.RowKit Go.Maps
set_option maxRecDepth 100000
set_option linter.unusedVariables false

def prA (q : Pr) : Array Value := #[.int .i64 q.at_, .int .u32 (q.sum : Int)]
theorem prA_prV (q : Pr) : (prA q).toList = prsV [q] := rfl
theorem prA_one (q : Pr) : (prA q).all (·.oneCell') = true := by simp [prA, Value.oneCell']
theorem info_ptr : (Tryd.prog.info? 29).map (fun i => (i.zero, i.size, i.bytes)) = some (some (.agg #[.int .i64 0, .int .u32 0]), 2, 16) := by kernel_rfl
theorem inf_ptr : (Tryd.prog.info? 29).map (·.size) = some 2 := by kernel_rfl
theorem und_ptr : ∃ d, Tryd.prog.underlying 29 = some d ∧ d.isRow = true := ⟨_, Tryd.underlying29, rfl⟩
section
variable {ops : Array Oper} {rest : List Oper} {o : Oper} {a : Act} {w : World} {Q : Exit → Act → World → Prop}
theorem wpList_load_pr (hw : Region.wanted o (yielded ops a.tmps) = true) (y : Operand) (ho : o.op = .load 29 y) (g : Nat) (x : Pr) (hy : a.eval y = .pointer (some ⟨g, 0, none⟩)) (hk : Bk w g 29 (prA x))
    (h : wpList Tryd.prog ops Q rest (a.put o.dst (.agg #[.int .i64 x.at_, .int .u32 (x.sum : Int)])) w) : wpList Tryd.prog ops Q (o :: rest) a w :=
  BigFrame.wpList_want hw fun K hK => by
    obtain ⟨d, hu, hd⟩ := und_ptr
    exact wp_load_mid 29 y ho g 0 hy (prA x).toList d (fun j v hv => by rw [Nat.zero_add, hk.cell]; simpa using hv) hu hd (by rw [inf_ptr]; rfl) (hK _ _ h)
theorem wpList_store_pr (hw : Region.wanted o (yielded ops a.tmps) = true) (y z : Operand) (ho : o.op = .store 29 y z) (g : Nat) (old x : Pr) (hy : a.eval y = .pointer (some ⟨g, 0, none⟩)) (hz : a.eval z = .agg (prA x)) (hk : Bk w g 29 (prA old))
    (h : wpList Tryd.prog ops Q rest (a.put o.dst undef) (w.setRow g (prA x))) : wpList Tryd.prog ops Q (o :: rest) a w :=
  BigFrame.wpList_want hw fun K hK => wp_store_row 29 y z ho g (prA x) hy hz 29 (prA old) hk (by rw [inf_ptr]; rfl) rfl (prA_one x) (hK _ _ h)
end
theorem pr_cells {w : World} {g : Nat} {q : Pr} (h : Bk w g 29 (prA q)) : w.cell? ⟨g, 0, none⟩ = some (.int .i64 q.at_) ∧ w.cell? ⟨g, 1, none⟩ = some (.int .u32 (q.sum : Int)) := ⟨(h.cell 0).trans rfl, (h.cell 1).trans rfl⟩
def kLit (n : Nat) : Lit := .int .i64 (n : Int)
theorem kLit_inj (x y : Nat) (h : kLit x = kLit y) : x = y := by
  unfold kLit at h
  injection h with _ h
  omega
theorem kKey : Keyed Tryd.prog 3 := int_keyed Tryd.underlying3
theorem kOf (n : Nat) (h : n ≤ 9223372036854775807) : keyOf Tryd.prog 3 (.int .i64 (n : Int)) = some (kLit n) := by
  exact keyOf_int_mk Tryd.underlying3 (WalkArith.wf_i64 (by omega))
def PV (f : Nat → Option Pr) : Nat → Option Value := fun n => (f n).map fun q => .agg (prA q)
/-- block b is a map from numbers to pointers -/
def PMap (w : World) (b n : Nat) (f : Nat → Option Pr) : Prop := MapV Tryd.prog 3 kLit w b n (PV f)
theorem PV_getD (f : Nat → Option Pr) (n : Nat) : (PV f n).getD (.agg #[.int .i64 0, .int .u32 0]) = .agg (prA ((f n).getD zP)) := by
  unfold PV
  cases f n <;> rfl
theorem PV_put (f : Nat → Option Pr) (x : Nat) (q : Pr) : (fun y => if y = x then some (Value.agg (prA q)) else PV f y) = PV (fun y => if y = x then some q else f y) := by
  funext y
  unfold PV
  by_cases h : y = x <;> simp [h]
theorem zero_ptr (w : World) : (zeroValue 29).run Tryd.prog w = .ok (.agg #[.int .i64 0, .int .u32 0]) w := by kernel_rfl
theorem zero_bytes (w : World) : (zeroValue 38).run Tryd.prog w = .ok (.slice none 0 0) w := by kernel_rfl
theorem PMap.made (w : World) : PMap (w.alloc (.map #[] 0)) w.heap.size 0 (fun _ => none) := by
  have := MapV.made (P := Tryd.prog) (k := 3) (c := kLit) w
  exact this
theorem PMap.lt {w : World} {b n : Nat} {f : Nat → Option Pr} (h : PMap w b n f) : b < w.heap.size := MapV.lt h
theorem PMap.below {w w' : World} {b n B : Nat} {f : Nat → Option Pr} (h : PMap w b n f) (hb : Below B w w') (hB : b < B) : PMap w' b n f := MapV.below h hb hB
theorem PMap.up {w w' : World} {b n : Nat} {f : Nat → Option Pr} (h : PMap w b n f) (hb : Below w.heap.size w w') : PMap w' b n f := h.below hb h.lt
theorem PMap.kept {w w' : World} {b n : Nat} {f : Nat → Option Pr} {row : Option Nat} (h : PMap w b n f) (hg : w.grownBy w' row) (hne : some b ≠ row) : PMap w' b n f := MapV.kept h hg hne
theorem own_ne_map {w : World} {base e : Nat} {size n b m : Nat} {v : Value} {xs : List Value} {f : Nat → Option Value} (h : w.ownsRow base e size v n xs) (hm : MapV Tryd.prog 3 kLit w b m f) : v.ownBlock ≠ some b := by
  obtain ⟨D, ⟨es, clock, hb, _⟩, _⟩ := hm
  rcases h.2 with ⟨rfl, _⟩ | ⟨g, cap, cur, rfl, _, hh, _⟩
  · simp [Value.ownBlock]
  · intro he
    have he' : g = b := by simpa [Value.ownBlock] using he
    subst he'
    rw [hh] at hb
    cases hb
theorem bk_ne_map {w : World} {g b m : Nat} {t : TypeId} {cs : Array Value} {f : Nat → Option Value} (h : Bk w g t cs) (hm : MapV Tryd.prog 3 kLit w b m f) : g ≠ b := by
  obtain ⟨D, ⟨es, clock, hb, _⟩, _⟩ := hm
  intro e
  subst e
  unfold Bk at h
  rw [h] at hb
  cases hb
theorem PMap.look {w : World} {b n : Nat} {f : Nat → Option Pr} (h : PMap w b n f) (x : Nat) (hxb : x ≤ 9223372036854775807) (q : Pr) (hq : (f x).getD zP = q) :
    (Instr.lookup 25 (.map (some b)) (.int .i64 (x : Int)) false).run Tryd.prog w = .ok (.agg #[.int .i64 q.at_, .int .u32 (q.sum : Int)]) w := by
  rw [MapV.look h kKey Tryd.underlying25 (zero_ptr w) (kOf x hxb), PV_getD, hq]; rfl
theorem PMap.put {w : World} {b n : Nat} {f : Nat → Option Pr} (h : PMap w b n f) (hn : n < maxLen) (x : Nat) (hxb : x ≤ 9223372036854775807) (q : Pr) :
    ∃ w', (Instr.mapUpdate 25 (.map (some b)) (.int .i64 (x : Int)) (.agg #[.int .i64 q.at_, .int .u32 (q.sum : Int)])).run Tryd.prog w = .ok () w' ∧ PMap w' b (n + 1) (fun y => if y = x then some q else f y) ∧ w.grownBy w' (some b) := by
  obtain ⟨w', h1, h2, h3⟩ := MapV.put h kKey kLit_inj Tryd.underlying25 hn (kOf x hxb) (val := .agg (prA q))
  rw [PV_put] at h2
  exact ⟨w', h1, h2, h3⟩
theorem owns_up {w w' : World} {base e : Nat} {size n : Nat} {v : Value} {xs : List Value} (h : w.ownsRow base e size v n xs) (hb : Below w.heap.size w w') : w'.ownsRow base e size v n xs := by
  refine ⟨h.1, ?_⟩
  rcases h.2 with h1 | ⟨g, cap, cur, hv, h2, hh, h3⟩
  · exact .inl h1
  · exact .inr ⟨g, cap, cur, hv, h2, (hb.block g (Array.getElem?_eq_some_iff.1 hh).1).trans hh, h3⟩
theorem Rd.up {w w' : World} {A : Option Addr} {vs : List Value} (h : Rd w w.heap.size A vs) (hb : Below w.heap.size w w') : Rd w' w'.heap.size A vs := (h.below hb).mono hb.size
/-- block b is a map from the numbers of the nodes that have been laid to their blocks -/
def LMap (w : World) (b n : Nat) (hv : Nat → Option Pr) (F : Nat → Bool) (m : Nat) : Prop :=
  ∃ fL : Nat → Option Value, MapV Tryd.prog 3 kLit w b n fL ∧ ∀ y q, atN hv F m y = some q → ∃ g, fL y = some (.slice (some ⟨g, 0, none⟩) 128 128) ∧ Bk w g 5 ((nodB (kdN hv F y)).map bv).toArray
theorem LMap.lt {w : World} {b n m : Nat} {hv : Nat → Option Pr} {F : Nat → Bool} (h : LMap w b n hv F m) : b < w.heap.size := by
  obtain ⟨fL, h1, _⟩ := h
  exact MapV.lt h1
theorem LMap.up {w w' : World} {b n m : Nat} {hv : Nat → Option Pr} {F : Nat → Bool} (h : LMap w b n hv F m) (hb : Below w.heap.size w w') : LMap w' b n hv F m := by
  obtain ⟨fL, h1, h2⟩ := h
  refine ⟨fL, MapV.below h1 hb (MapV.lt h1), fun y q hq => ?_⟩
  obtain ⟨g, e, hk⟩ := h2 y q hq
  exact ⟨g, e, hk.below hb hk.lt⟩
theorem LMap.kept {w w' : World} {b b' n n' m : Nat} {hv : Nat → Option Pr} {F : Nat → Bool} {f : Nat → Option Value} (h : LMap w b n hv F m) (hm : MapV Tryd.prog 3 kLit w b' n' f) (hg : w.grownBy w' (some b')) (hne : b ≠ b') : LMap w' b n hv F m := by
  obtain ⟨fL, h1, h2⟩ := h
  refine ⟨fL, MapV.kept h1 hg (fun e => hne (Option.some.inj e)), fun y q hq => ?_⟩
  obtain ⟨g, e, hk⟩ := h2 y q hq
  exact ⟨g, e, hk.grown hg (fun e => bk_ne_map hk hm (Option.some.inj e).symm)⟩
theorem rd_ne_map {w w' : World} {A : Option Addr} {l : List Int} {b n : Nat} {f : Nat → Option Value} (h : Rd w w.heap.size A (l.map iv)) (hm : MapV Tryd.prog 3 kLit w b n f) (hg : w.grownBy w' (some b)) : Rd w' w'.heap.size A (l.map iv) := by
  obtain ⟨D, ⟨es, clock, hb, _⟩, _⟩ := hm
  intro j u hu
  obtain ⟨ad, e, h1, h2⟩ := h j u hu
  have hne : ad.block ≠ b := by
    intro e2
    have h3 : (ad.add j).block = b := (block_add ad j).trans e2
    unfold World.cell? at h2
    rw [h3, hb] at h2
    cases (ad.add j).spot <;> simp at h2
  refine ⟨ad, e, by have := hg.size; omega, ?_⟩
  rw [World.cell?_of_block (w := w) (a := ad.add j) (by rw [block_add]; exact hg.block ad.block h1 (fun e2 => hne (Option.some.inj e2)))]
  exact h2
theorem blk_some (A : Option Addr) (m c : Nat) (l : List Int) (n : Nat) (w : World) (hl : l.length = m) (hc : m ≤ c) (hm : c ≤ maxLen) (hr : Rd w w.heap.size A (l.map iv)) (ht : RTab w) (h : blkO l = some n) :
    Calls Tryd.prog 6 #[.slice A m c] w fun e w' => e = .returned (.tuple #[.int .i64 (n : Int), .int .i64 0]) ∧ Below w.heap.size w w' := by
  have hi := blkO_is l
  rw [h] at hi
  have := block_any A m c l (n : Int) w hl hc hm hr hi ht
  rwa [show valR (n : Int) = n from if_neg (by omega), show errR (n : Int) = 0 from if_neg (by omega)] at this
theorem blk_none (A : Option Addr) (m c : Nat) (l : List Int) (w : World) (hl : l.length = m) (hc : m ≤ c) (hm : c ≤ maxLen) (hr : Rd w w.heap.size A (l.map iv)) (ht : RTab w) (h : blkO l = none) :
    Calls Tryd.prog 6 #[.slice A m c] w fun e w' => e = .returned (.tuple #[.int .i64 0, .int .i64 4]) ∧ Below w.heap.size w w' := by
  have hi := blkO_is l
  rw [h] at hi
  exact block_any A m c l (-1) w hl hc hm hr hi ht
theorem num_some (A : Option Addr) (m c : Nat) (l : List Int) (n : Nat) (w : World) (hl : l.length = m) (hc : m ≤ c) (hm : c ≤ maxLen) (hr : Rd w w.heap.size A (l.map iv)) (ht : RTab w) (h : numO l = some n) :
    Calls Tryd.prog 7 #[.slice A m c] w fun e w' => e = .returned (.tuple #[.int .i64 (n : Int), .int .i64 0]) ∧ Below w.heap.size w w' := by
  have hi := numO_is l
  rw [h] at hi
  have := rnumber_any A m c l (n : Int) w hl hc hm hr hi ht
  rwa [show valR (n : Int) = n from if_neg (by omega), show errR (n : Int) = 0 from if_neg (by omega)] at this
theorem num_none (A : Option Addr) (m c : Nat) (l : List Int) (w : World) (hl : l.length = m) (hc : m ≤ c) (hm : c ≤ maxLen) (hr : Rd w w.heap.size A (l.map iv)) (ht : RTab w) (h : numO l = none) :
    Calls Tryd.prog 7 #[.slice A m c] w fun e w' => e = .returned (.tuple #[.int .i64 0, .int .i64 4]) ∧ Below w.heap.size w w' := by
  have hi := numO_is l
  rw [h] at hi
  exact rnumber_any A m c l (-1) w hl hc hm hr hi ht
/-- all that HaymowNodes has laid -/
structure Top (w wr : World) (hb ab lb N K : Nat) (hv : Nat → Option Pr) (F : Nat → Bool) (m : Nat) (lv : Value) (n : Nat) (L : List Nat) (An : Option Addr) (ns : List Int) : Prop where
  have_ : PMap wr hb N hv
  at_ : PMap wr ab K (atN hv F m)
  laid : LMap wr lb K hv F m
  row : wr.ownsRow w.heap.size 3 1 lv n ((intL L).map iv)
  nodes : Rd wr wr.heap.size An (ns.map iv)
  below : Below w.heap.size w wr
  base : w.heap.size ≤ ab ∧ w.heap.size ≤ lb
  apart : hb ≠ ab ∧ hb ≠ lb ∧ ab ≠ lb
theorem Top.up {w wr w' : World} {hb ab lb N K : Nat} {hv : Nat → Option Pr} {F : Nat → Bool} {m : Nat} {lv : Value} {n : Nat} {L : List Nat} {An : Option Addr} {ns : List Int} (h : Top w wr hb ab lb N K hv F m lv n L An ns) (hB : Below wr.heap.size wr w') : Top w w' hb ab lb N K hv F m lv n L An ns :=
  ⟨h.have_.up hB, h.at_.up hB, h.laid.up hB, owns_up h.row hB, h.nodes.up hB, h.below.trans (hB.mono h.below.size), h.base, h.apart⟩
end Go.Proofs.YtnipfonglheofaaDoor
