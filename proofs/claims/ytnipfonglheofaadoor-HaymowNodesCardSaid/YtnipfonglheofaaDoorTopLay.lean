/-
  A node's block and pointer laid into the two maps.
-/
import Derived.Test.YtnipfonglheofaaDoorTopMem
import Derived.Maps.AppendAt
import Derived.Test.YtnipfonglheofaaDoorRegSt
namespace Go.Proofs.YtnipfonglheofaaDoor
open Go.RowKit Go.Maps
set_option maxRecDepth 100000
set_option linter.unusedVariables false

def laysW : Nat → List Nat
  | 3 => [1, 2] | 4 => [3] | 8 => [6, 7] | 9 => [8] | 12 => [0, 4] | 13 => [12] | 14 => [0, 13, 10, 12] | 15 => [5, 9, 14] | 16 => [15] | 17 => [5, 16, 11, 15]
  | _ => []
def laysD (i : Nat) : Nat := if i < 14 then 156 + i else if i = 14 then 400 else if i < 17 then 155 + i else 384 + i
theorem laysD_far (s : Nat) (hs : s < 156) (i : Nat) (hi : i < 18) : laysD i ≠ s := by unfold laysD; split <;> (try split) <;> (try split) <;> omega
theorem laysD_ne (i j : Nat) (hi : i < 18) (hj : j < 18) (h : j ≠ i) : laysD j ≠ laysD i := by
  unfold laysD
  repeat' split
  all_goals omega
theorem cell_map {w : World} {b n : Nat} {f : Nat → Option Value} (hm : MapV Tryd.prog 3 kLit w b n f) (o : Nat) : w.cell? ⟨b, o, none⟩ = none := by
  obtain ⟨D, ⟨es, clock, hb, _⟩, _⟩ := hm
  unfold World.cell?
  simp [hb]
theorem Top.lay {w wr : World} {hb ab lb N K : Nat} {hv : Nat → Option Pr} {F : Nat → Bool} {m : Nat} {lv : Value} {n : Nat} {L : List Nat} {An : Option Addr} {ns : List Int} (h : Top w wr hb ab lb N K hv F (m + 1) lv n L An ns)
    (hm : m < (nsN F).length) (hK : K + 1 < maxLen) (x g : Nat) (hx : tN F m = x) (hg : Bk wr g 5 ((nodB (kdN hv F x)).map bv).toArray) (q : Pr) (hq : mkP x (kdN hv F x) = q) :
    ∃ (v0 v1 : Value) (s0 s1 : Nat) (u1 u2 u3 u4 : World),
      (Instr.mapEntry 33 (.map (some lb)) (.int .i64 (x : Int))).run Tryd.prog wr = .ok (.tuple #[v0, .int .i64 (s0 : Int)]) u1 ∧
      (Instr.entryStore 33 (.map (some lb)) (.int .i64 (s0 : Int)) (.slice (some ⟨g, 0, none⟩) 128 128)).run Tryd.prog u1 = .ok () u2 ∧
      (Instr.mapEntry 25 (.map (some ab)) (.int .i64 (x : Int))).run Tryd.prog u2 = .ok (.tuple #[v1, .int .i64 (s1 : Int)]) u3 ∧
      (Instr.entryStore 25 (.map (some ab)) (.int .i64 (s1 : Int)) (.agg #[.int .i64 q.at_, .int .u32 (q.sum : Int)])).run Tryd.prog u3 = .ok () u4 ∧
      Top w u4 hb ab lb N (K + 1) hv F m lv n L An ns ∧
      (∀ p : Addr, p.block < wr.heap.size → wr.cell? p ≠ none → u1.cell? p = wr.cell? p ∧ u2.cell? p = wr.cell? p ∧ u3.cell? p = wr.cell? p ∧ u4.cell? p = wr.cell? p) := by
  obtain ⟨hx1, hx2, _⟩ := tN_lt F hm
  rw [hx] at hx1 hx2
  obtain ⟨n1, n2, n3⟩ := h.apart
  obtain ⟨b1, b2⟩ := h.base
  obtain ⟨fL, hfL, hbk⟩ := h.laid
  have hn : K < maxLen := by omega
  obtain ⟨v0, s0, u1, r1, g1, k1⟩ := hfL.entry kKey kLit_inj Tryd.underlying33 hn zero_bytes (kOf x (by omega)) (val := .slice (some ⟨g, 0, none⟩) 128 128)
  obtain ⟨u2, r2, hm2, g2⟩ := k1 u1 rfl
  have g12 := g1.trans g2
  have hA2 : PMap u2 ab K (atN hv F (m + 1)) := h.at_.kept g12 (fun e => n3 (Option.some.inj e))
  obtain ⟨v1, s1, u3, r3, g3, k3⟩ := MapV.entry hA2 kKey kLit_inj Tryd.underlying25 hn zero_ptr (kOf x (by omega)) (val := .agg (prA q))
  obtain ⟨u4, r4, hm4, g4⟩ := k3 u3 rfl
  have g34 := g3.trans g4
  have f2 := hm2.kept g34 (fun e => n3 (Option.some.inj e).symm)
  refine ⟨v0, v1, s0, s1, u1, u2, u3, u4, r1, r2, r3, r4, ⟨?_, ?_, ?_, ?_, ?_, ?_, h.base, h.apart⟩, fun p hp hpn => ?_⟩
  · exact (h.have_.kept g12 (fun e => n2 (Option.some.inj e))).kept g34 (fun e => n1 (Option.some.inj e))
  · have e : (fun y => if y = x then some (Value.agg (prA q)) else PV (atN hv F (m + 1)) y) = PV (atN hv F m) := by
      rw [PV_put]
      congr 1
      funext y
      rw [at_step hv F hm y, hx]
      by_cases e : y = x
      · subst e; rw [if_pos rfl, if_pos rfl, hq]
      · rw [if_neg e, if_neg e]
    rw [e] at hm4
    exact hm4
  · refine ⟨_, f2, fun y z hz => ?_⟩
    rw [at_step hv F hm y, hx] at hz
    by_cases e : y = x
    · subst e
      refine ⟨g, if_pos rfl, ?_⟩
      have c1 := hg.grown g12 (fun e => bk_ne_map hg hfL (Option.some.inj e).symm)
      exact c1.grown g34 (fun e => bk_ne_map c1 hA2 (Option.some.inj e).symm)
    · rw [if_neg e] at hz
      obtain ⟨g', e', hk'⟩ := hbk y z hz
      refine ⟨g', (if_neg e).trans e', ?_⟩
      have c1 := hk'.grown g12 (fun e => bk_ne_map hk' hfL (Option.some.inj e).symm)
      exact c1.grown g34 (fun e => bk_ne_map c1 hA2 (Option.some.inj e).symm)
  · have c1 := h.row.kept g12 (.inr (own_ne_map h.row hfL))
    exact c1.kept g34 (.inr (own_ne_map c1 hA2))
  · exact rd_ne_map (rd_ne_map h.nodes hfL g12) hA2 g34
  · exact (h.below.grown g12 h.below.size (fun k e => by cases e; exact b2)).grown g34 (by have := h.below.size; have := g12.size; omega) (fun k e => by cases e; exact b1)
  · have hne1 : p.block ≠ lb := by
      intro e
      obtain ⟨D, ⟨es, clock, hbb, _⟩, _⟩ := hfL
      refine hpn ?_
      unfold World.cell?
      rw [e, hbb]
    have hne2 : p.block ≠ ab := by
      intro e
      obtain ⟨D, ⟨es, clock, hbb, _⟩, _⟩ := h.at_
      refine hpn ?_
      unfold World.cell?
      rw [e, hbb]
    have e1 := g1.block p.block hp (fun e => hne1 (Option.some.inj e))
    have e2 := g2.block p.block (by have := g1.size; omega) (fun e => hne1 (Option.some.inj e))
    have e3 := g3.block p.block (by have := g12.size; omega) (fun e => hne2 (Option.some.inj e))
    have e4 := g4.block p.block (by have := g12.size; have := g3.size; omega) (fun e => hne2 (Option.some.inj e))
    have c1 := World.cell?_of_block (a := p) e1
    have c2 := World.cell?_of_block (a := p) e2
    have c3 := World.cell?_of_block (a := p) e3
    have c4 := World.cell?_of_block (a := p) e4
    exact ⟨c1, c2.trans c1, c3.trans (c2.trans c1), c4.trans (c3.trans (c2.trans c1))⟩
/-- all that is there when the ways down begin -/
structure Fin4 (w wr : World) (hb ab lb N K : Nat) (hv : Nat → Option Pr) (F : Nat → Bool) (A : Option Addr) (L : List Nat) : Prop where
  have_ : PMap wr hb N hv
  at_ : PMap wr ab K (alN hv F)
  laid : LMap wr lb K hv F 0
  row : Rd wr wr.heap.size A ((intL L).map iv)
  below : Below w.heap.size w wr
theorem Fin4.up {w wr w' : World} {hb ab lb N K : Nat} {hv : Nat → Option Pr} {F : Nat → Bool} {A : Option Addr} {L : List Nat} (h : Fin4 w wr hb ab lb N K hv F A L) (hB : Below wr.heap.size wr w') : Fin4 w w' hb ab lb N K hv F A L :=
  ⟨h.have_.up hB, h.at_.up hB, h.laid.up hB, h.row.up hB, h.below.trans (hB.mono h.below.size)⟩
theorem Fin4.of {w wr w' : World} {hb ab lb N K : Nat} {hv : Nat → Option Pr} {F : Nat → Bool} {lv : Value} {n : Nat} {L L' : List Nat} {An : Option Addr} {ns : List Int} (h : Top w wr hb ab lb N K hv F 0 lv n L An ns)
    (hg : wr.grownBy w' lv.ownBlock) {A : Option Addr} {n' c : Nat} (ho : w'.ownsRow w.heap.size 3 1 (.slice A n' c) n' ((intL L').map iv)) : Fin4 w w' hb ab lb N K hv F A L' := by
  have h0 := h.at_
  rw [at_end] at h0
  refine ⟨h.have_.kept hg (fun e => own_ne_map h.row h.have_ e.symm), h0.kept hg (fun e => own_ne_map h.row h.at_ e.symm), ?_, Rd.own ho, h.below.grown hg h.below.size (fun k e => (h.row.lt k e).1)⟩
  obtain ⟨fL, hfL, hbk⟩ := h.laid
  refine ⟨fL, hfL.kept hg (fun e => own_ne_map h.row hfL e.symm), fun y q hq => ?_⟩
  obtain ⟨g, e, hk⟩ := hbk y q hq
  exact ⟨g, e, hk.grown hg (fun e => Bk.ne_own hk h.row (by decide) e)⟩
theorem LMap.look {w : World} {b n : Nat} {hv : Nat → Option Pr} {F : Nat → Bool} (h : LMap w b n hv F 0) (x : Nat) (hx : x < 258) (q : Pr) (hq : alN hv F x = some q) :
    ∃ g, (Instr.lookup 33 (.map (some b)) (.int .i64 (x : Int)) false).run Tryd.prog w = .ok (.slice (some ⟨g, 0, none⟩) 128 128) w ∧ Bk w g 5 ((nodB (kdN hv F x)).map bv).toArray := by
  obtain ⟨fL, hfL, hbk⟩ := h
  obtain ⟨g, e, hk⟩ := hbk x q (by rw [at_end]; exact hq)
  refine ⟨g, ?_, hk⟩
  rw [MapV.look hfL kKey Tryd.underlying33 (zero_bytes w) (kOf x (by omega)), e]; rfl
/-- where the way stands at place k -/
def wayN (hv : Nat → Option Pr) (F : Nat → Bool) (n k : Nat) : Pr := childP zP hv (alN hv F) ((pathI n).take k)
theorem way_last (hv : Nat → Option Pr) (F : Nat → Bool) (n k : Nat) (hn : n < 3621) (hk : (pathI n).length ≤ k) : wayN hv F n k = (hv n).getD zP := by
  rw [wayN, List.take_of_length_le hk]
  exact child_path zP hv (alN hv F) n hn
theorem way_pre (hv : Nat → Option Pr) (F : Nat → Bool) (n k : Nat) (hn : n < 3621) (h1 : 1 ≤ k) (hk : k < (pathI n).length) : wayN hv F n k = (alN hv F (preN n k)).getD zP :=
  child_pre zP hv (alN hv F) n k hn h1 hk
theorem way_up (hv : Nat → Option Pr) (F : Nat → Bool) (n k : Nat) (hn : n < 3621) (h1 : 1 ≤ k) (hk : k < (pathI n).length) (h : 0 < (wayN hv F n k).at_) :
    alN hv F (preN n k) = some (mkP (preN n k) (kdN hv F (preN n k))) ∧ wayN hv F n k = mkP (preN n k) (kdN hv F (preN n k)) := by
  rw [way_pre hv F n k hn h1 hk] at h ⊢
  cases e : alN hv F (preN n k) with
  | none => rw [e] at h; exact absurd h (by decide)
  | some q =>
    obtain ⟨_, _, rfl⟩ := al_some hv F e
    exact ⟨rfl, rfl⟩
theorem way_stop (hv : Nat → Option Pr) (L : List Nat) (n k : Nat) (hn : n < 3621) (h1 : 1 ≤ k) (hk : k < (pathI n).length) (hz : ∀ b, b ∉ L → hv b = none) (h : ¬ 0 < (wayN hv (onL L) n k).at_) : wayN hv (onL L) n k = (hv n).getD zP := by
  rw [way_pre hv (onL L) n k hn h1 hk] at h ⊢
  cases e : alN hv (onL L) (preN n k) with
  | some q =>
    obtain ⟨_, _, rfl⟩ := al_some hv (onL L) e
    rw [e] at h
    exact absurd (show (0 : Int) < 1000 + (preN n k : Int) by omega) h
  | none =>
    have hnL : n ∉ L := fun hm => by
      rw [al_on hv (onL L) _ (preN_nod n k hn h1 hk).1 (onL_on L n k hm h1 hk)] at e
      cases e
    rw [hz n hnL]
theorem way_step (hv : Nat → Option Pr) (F : Nat → Bool) (n k : Nat) (d : Int) (hn : n < 3621) (h1 : 1 ≤ k) (hk : k < (pathI n).length) (hd : (pathI n)[k]? = some d) (h0 : 0 ≤ d) (h14 : d ≤ 14) : (kdN hv F (preN n k))[d.toNat]? = some (wayN hv F n (k + 1)) :=
  child_step zP hv (alN hv F) n k d hn h1 hk hd h0 h14
theorem path_dig (n k : Nat) (d : Int) (hn : n < 3621) (h1 : 1 ≤ k) (hd : (pathI n)[k]? = some d) : 0 ≤ d ∧ d ≤ 14 := by
  obtain ⟨a, t, e, _, _, _, _, h⟩ := pth_path n hn
  rw [e] at hd
  obtain ⟨k, rfl⟩ : ∃ j, k = j + 1 := ⟨k - 1, by omega⟩
  rw [List.getElem?_cons_succ] at hd
  exact h d (List.mem_of_getElem? hd)
end Go.Proofs.YtnipfonglheofaaDoor
