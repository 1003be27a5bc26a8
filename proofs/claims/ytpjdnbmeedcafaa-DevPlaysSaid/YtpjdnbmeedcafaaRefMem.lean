/-
  The document's own device in memory: texts, faults, what waits. No function is walked here.
-/
import Derived.Test.YtpjdnbmeedcafaaDevCalm
import Derived.Maps.AppendAt
namespace Go.Proofs.Ytpjdnbmeedcafaa
open Go.RowKit
set_option linter.unusedVariables false

def strs (n : Nat) (H : Nat → List UInt8) : List Value := (List.range n).map fun i => .string (str (H i))
def flts (n : Nat) (f : Int → Int) : List Value := (List.range n).map fun (i : Nat) => .int .i64 (f (i : Int))
def wcell (p : Nat × List UInt8) : List Value := [.int .i64 (p.1 : Int), .string (str p.2)]
def wcells : List (Nat × List UInt8) → List Value
  | [] => []
  | p :: l => wcell p ++ wcells l
theorem wcells_append (l m : List (Nat × List UInt8)) : wcells (l ++ m) = wcells l ++ wcells m := by
  induction l with
  | nil => rfl
  | cons p l ih => simp [wcells, ih]
theorem wcells_length (l : List (Nat × List UInt8)) : (wcells l).length = l.length * 2 := by
  induction l with
  | nil => rfl
  | cons p l ih => simp [wcells, wcell, ih]; omega
theorem wcells_at : ∀ (l : List (Nat × List UInt8)) (k : Nat) (p : Nat × List UInt8), l[k]? = some p → (wcells l)[k * 2]? = some (.int .i64 (p.1 : Int)) ∧ (wcells l)[k * 2 + 1]? = some (.string (str p.2))
  | [], k, p, h => by simp at h
  | q :: l, 0, p, h => by simp at h; subst h; exact ⟨rfl, rfl⟩
  | q :: l, k + 1, p, h => by
    have := wcells_at l k p (by simpa using h)
    rw [wcells, show (k + 1) * 2 = k * 2 + 1 + 1 by omega]
    exact ⟨this.1, this.2⟩
theorem strs_at (n : Nat) (H : Nat → List UInt8) (i : Nat) (h : i < n) : (strs n H)[i]? = some (.string (str (H i))) := by unfold strs; simp [h]
theorem flts_at (n : Nat) (f : Int → Int) (i : Nat) (h : i < n) : (flts n f)[i]? = some (.int .i64 (f (i : Int))) := by unfold flts; simp [h]
def setH (H : Nat → List UInt8) (i : Nat) (b : List UInt8) : Nat → List UInt8 := fun j => if j = i then b else H j
theorem strs_set (n : Nat) (H : Nat → List UInt8) (i : Nat) (b : List UInt8) : (strs n H).set i (.string (str b)) = strs n (setH H i b) := by
  apply List.ext_getElem?
  intro j
  unfold strs setH
  rw [List.getElem?_set]
  by_cases h : i = j
  · subst h
    by_cases h2 : i < n
    · simp [h2]
    · simp [h2]
  · rw [if_neg h]
    by_cases h2 : j < n
    · simp [h2, Ne.symm h]
    · simp [h2]
theorem flts_set (n : Nat) (f : Int → Int) (i : Nat) (k : Int) : (flts n f).set i (.int .i64 k) = flts n (setF f i k) := by
  apply List.ext_getElem?
  intro j
  unfold flts setF
  rw [List.getElem?_set]
  by_cases h : i = j
  · subst h
    by_cases h2 : i < n
    · simp [h2]
    · simp [h2]
  · rw [if_neg h]
    by_cases h2 : j < n
    · have : ¬ (j : Int) = (i : Int) := by omega
      simp [h2, this]
    · simp [h2]
theorem strs_succ (n : Nat) (H : Nat → List UInt8) : strs (n + 1) H = strs n H ++ [.string (str (H n))] := by unfold strs; rw [List.range_succ, List.map_append]; rfl
theorem flts_succ (n : Nat) (f : Int → Int) : flts (n + 1) f = flts n f ++ [.int .i64 (f n)] := by unfold flts; rw [List.range_succ, List.map_append]; rfl
theorem strs_length (n : Nat) (H : Nat → List UInt8) : (strs n H).length = n := by simp [strs]
theorem upd_is_set {H : Nat → List UInt8} (hH : ∀ i, (H i).length = 128) (i : Nat) (b : List UInt8) (hb : b.length = 128) : upd H i b = setH H i b := by
  funext j
  unfold setH
  by_cases h : j = i
  · subst h; rw [if_pos rfl, upd_full hH _ _ hb]
  · rw [if_neg h, upd_other _ _ h]
theorem upd_nil (H : Nat → List UInt8) (i : Nat) : upd H i [] = H := by
  funext j
  by_cases h : j = i
  · subst h; rw [upd_same]; rfl
  · rw [upd_other _ _ h]

def rcells (hv fv lv : Value) (D : Dv) : Array Value := #[hv, fv, lv, .int .i64 D.bud, .bool (!D.pow), .bool (!D.mnt)]
def FootR (rb : Nat) (hv fv lv : Value) (k : Nat) : Prop := k = rb ∨ hv.ownBlock = some k ∨ fv.ownBlock = some k ∨ lv.ownBlock = some k
structure RefAt (w : World) (base rb : Nat) (hv fv lv : Value) (D : Dv) : Prop where
  ok : D.Ok
  cel : Bk w rb 47 (rcells hv fv lv D)
  has : w.ownsRow base 9 1 hv D.n (strs D.n D.has)
  flt : w.ownsRow base 3 1 fv D.n (flts D.n D.flt)
  pen : w.ownsRow base 72 2 lv D.pend.length (wcells D.pend)
  brb : base ≤ rb

section
variable {w w' : World} {base rb : Nat} {hv fv lv : Value} {D : Dv}
theorem RefAt.typ (h : RefAt w base rb hv fv lv D) {k : Nat} (hk : FootR rb hv fv lv k) : base ≤ k ∧ k < w.heap.size ∧ ∃ t cs, Bk w k t cs ∧ (t = 47 ∨ t = 9 ∨ t = 3 ∨ t = 72) := by
  rcases hk with rfl | hk | hk | hk
  · exact ⟨h.brb, h.cel.lt, _, _, h.cel, .inl rfl⟩
  · obtain ⟨h1, h2, cs, h3⟩ := own_lt h.has hk; exact ⟨h1, h2, _, _, h3, .inr (.inl rfl)⟩
  · obtain ⟨h1, h2, cs, h3⟩ := own_lt h.flt hk; exact ⟨h1, h2, _, _, h3, .inr (.inr (.inl rfl))⟩
  · obtain ⟨h1, h2, cs, h3⟩ := own_lt h.pen hk; exact ⟨h1, h2, _, _, h3, .inr (.inr (.inr rfl))⟩
theorem RefAt.off (h : RefAt w base rb hv fv lv D) {g : Nat} {t : TypeId} {cs : Array Value} (hg : Bk w g t cs) (h1 : t ≠ 47) (h2 : t ≠ 9) (h3 : t ≠ 3) (h4 : t ≠ 72) : ¬ FootR rb hv fv lv g := fun hk => by
  obtain ⟨_, _, t', cs', hb, ht⟩ := h.typ hk
  rcases ht with rfl | rfl | rfl | rfl
  · exact hb.ne hg (Ne.symm h1) rfl
  · exact hb.ne hg (Ne.symm h2) rfl
  · exact hb.ne hg (Ne.symm h3) rfl
  · exact hb.ne hg (Ne.symm h4) rfl
theorem RefAt.keep (h : RefAt w base rb hv fv lv D) (hk : ∀ k, FootR rb hv fv lv k → w'.heap[k]? = w.heap[k]?) : RefAt w' base rb hv fv lv D :=
  ⟨h.ok, (hk rb (.inl rfl)).trans h.cel, own_keep h.has fun k hk' => hk k (.inr (.inl hk')), own_keep h.flt fun k hk' => hk k (.inr (.inr (.inl hk'))), own_keep h.pen fun k hk' => hk k (.inr (.inr (.inr hk'))), h.brb⟩
theorem RefAt.up (h : RefAt w base rb hv fv lv D) (hb : Below w.heap.size w w') : RefAt w' base rb hv fv lv D := h.keep fun k hk => hb.block k (h.typ hk).2.1
theorem RefAt.drew (h : RefAt w base rb hv fv lv D) : RefAt w.drew base rb hv fv lv D := h.keep fun _ _ => rfl
/-- what the device does turns nothing of it -/
theorem RefAt.turn {sb bb mb : Nat} {pv pv' : Value} {D0 D1 : Dv} {b0 : Nat} (h : RefAt w base rb hv fv lv D) (hd : DevAt w b0 sb bb mb pv D0) (ht : Turn b0 sb bb mb w pv w' pv' D1) : RefAt w' base rb hv fv lv D := h.keep fun k hk => by
  obtain ⟨_, hlt, t, cs, hb, htt⟩ := h.typ hk
  refine ht.fr.kept k hlt (hd.off hb ?_ ?_ ?_) <;> (rcases htt with rfl | rfl | rfl | rfl <;> decide)
end

/-- the document's device has turned, and nothing else that was there -/
structure TurnR (base rb : Nat) (w : World) (hv fv lv : Value) (w' : World) (D' : Dv) : Prop where
  dev : ∃ hv' fv' lv', RefAt w' base rb hv' fv' lv' D'
  fr : Fr (FootR rb hv fv lv) w w'
section
variable {w w' : World} {base rb : Nat} {hv fv lv : Value} {D D' : Dv}
theorem TurnR.below (h : TurnR base rb w hv fv lv w' D') (hd : RefAt w base rb hv fv lv D) (hb : base ≤ w.heap.size) : Below base w w' := h.fr.below (fun k hk => (hd.typ hk).1) hb
theorem TurnR.keep {sb bb mb : Nat} {pv : Value} {D0 : Dv} {b0 : Nat} (h : TurnR base rb w hv fv lv w' D') (hr : RefAt w base rb hv fv lv D) (hd : DevAt w b0 sb bb mb pv D0) : DevAt w' b0 sb bb mb pv D0 := hd.by h.fr fun k hk hk' => by
  obtain ⟨_, hlt, t, cs, hb, htt⟩ := hr.typ hk'
  exact hd.off hb (by rcases htt with rfl | rfl | rfl | rfl <;> decide) (by rcases htt with rfl | rfl | rfl | rfl <;> decide) (by rcases htt with rfl | rfl | rfl | rfl <;> decide) hk
theorem TurnR.refl (h : RefAt w base rb hv fv lv D) : TurnR base rb w hv fv lv w D := ⟨⟨_, _, _, h⟩, Fr.refl _ _⟩

theorem RefAt.apart (h : RefAt w base rb hv fv lv D) : hv.ownBlock ≠ some rb ∧ fv.ownBlock ≠ some rb ∧ lv.ownBlock ≠ some rb ∧ (∀ k, hv.ownBlock = some k → fv.ownBlock ≠ some k ∧ lv.ownBlock ≠ some k) ∧ (∀ k, fv.ownBlock = some k → lv.ownBlock ≠ some k) := by
  refine ⟨fun e => ?_, fun e => ?_, fun e => ?_, fun k e => ⟨fun e' => ?_, fun e' => ?_⟩, fun k e e' => ?_⟩
  · obtain ⟨_, _, cs, hb⟩ := own_lt h.has e; exact hb.ne h.cel (by decide) rfl
  · obtain ⟨_, _, cs, hb⟩ := own_lt h.flt e; exact hb.ne h.cel (by decide) rfl
  · obtain ⟨_, _, cs, hb⟩ := own_lt h.pen e; exact hb.ne h.cel (by decide) rfl
  · obtain ⟨_, _, cs, hb⟩ := own_lt h.has e; obtain ⟨_, _, cs', hb'⟩ := own_lt h.flt e'; exact hb.ne hb' (by decide) rfl
  · obtain ⟨_, _, cs, hb⟩ := own_lt h.has e; obtain ⟨_, _, cs', hb'⟩ := own_lt h.pen e'; exact hb.ne hb' (by decide) rfl
  · obtain ⟨_, _, cs, hb⟩ := own_lt h.flt e; obtain ⟨_, _, cs', hb'⟩ := own_lt h.pen e'; exact hb.ne hb' (by decide) rfl
/-- a plain field is written -/
theorem RefAt.put (h : RefAt w base rb hv fv lv D) {D' : Dv} (i : Nat) (u : Value) (hok : D'.Ok) (hn : D'.n = D.n) (hh : D'.has = D.has) (hp : D'.pend = D.pend) (hf : D'.flt = D.flt) (hcells : (rcells hv fv lv D).setIfInBounds i u = rcells hv fv lv D') :
    RefAt (w.setCell ⟨rb, i, none⟩ u) base rb hv fv lv D' ∧ Fr (FootR rb hv fv lv) w (w.setCell ⟨rb, i, none⟩ u) := by
  obtain ⟨a1, a2, a3, _, _⟩ := h.apart
  refine ⟨⟨hok, by rw [← hcells]; exact h.cel.set_ i u, ?_, ?_, ?_, h.brb⟩, (Fr.refl _ _).setCell (.inl (.inl rfl)) _⟩
  · rw [hn, hh]; exact own_keep h.has fun k hk => Below.heap_setCell _ _ _ _ (fun e => by subst e; exact a1 hk)
  · rw [hn, hf]; exact own_keep h.flt fun k hk => Below.heap_setCell _ _ _ _ (fun e => by subst e; exact a2 hk)
  · rw [hp]; exact own_keep h.pen fun k hk => Below.heap_setCell _ _ _ _ (fun e => by subst e; exact a3 hk)
/-- nothing waits any more -/
theorem RefAt.drop (h : RefAt w base rb hv fv lv D) : RefAt (w.setCell ⟨rb, 2, none⟩ (.slice none 0 0)) base rb hv fv (.slice none 0 0) { D with pend := [] } ∧ Fr (FootR rb hv fv lv) w (w.setCell ⟨rb, 2, none⟩ (.slice none 0 0)) := by
  obtain ⟨a1, a2, a3, _, _⟩ := h.apart
  refine ⟨⟨h.ok.pends (fun p hp => by cases hp), h.cel.set_ 2 _, ?_, ?_, World.ownsRow_nil _ _ _ _, h.brb⟩, (Fr.refl _ _).setCell (.inl (.inl rfl)) _⟩
  · exact own_keep h.has fun k hk => Below.heap_setCell _ _ _ _ (fun e => by subst e; exact a1 hk)
  · exact own_keep h.flt fun k hk => Below.heap_setCell _ _ _ _ (fun e => by subst e; exact a2 hk)
theorem own_addr {w : World} {base : Nat} {e : TypeId} {s n : Nat} {v : Value} {xs : List Value} (h : w.ownsRow base e s v n xs) (hn : 0 < n) : ∃ g cap, v = .slice (some ⟨g, 0, none⟩) n cap ∧ n ≤ cap ∧ cap ≤ maxLen := by
  rcases h.2 with ⟨_, h0⟩ | ⟨g, cap, cur, hv, _, _, h1, h2, _⟩
  · omega
  · exact ⟨g, cap, hv, h1, h2⟩
/-- a text is written -/
theorem RefAt.putText (h : RefAt w base rb hv fv lv D) {g cap : Nat} (hg : hv = .slice (some ⟨g, 0, none⟩) D.n cap) (i : Nat) (b : List UInt8) (hi : i < D.n) (hb : b.length = 128) :
    RefAt (w.setCell ⟨g, i, none⟩ (.string (str b))) base rb hv fv lv { D with has := setH D.has i b } ∧ Fr (FootR rb hv fv lv) w (w.setCell ⟨g, i, none⟩ (.string (str b))) := by
  obtain ⟨a1, a2, a3, a4, a5⟩ := h.apart
  have hgb : hv.ownBlock = some g := by rw [hg]; rfl
  have hst := (hg ▸ h.has : w.ownsRow base 9 1 (.slice (some ⟨g, 0, none⟩) D.n cap) D.n (strs D.n D.has)).stored i (.string (str b))
  refine ⟨⟨h.ok.hass (fun j => by unfold setH; split; exact hb; exact h.ok.has j), ?_, ?_, ?_, ?_, h.brb⟩, (Fr.refl _ _).setCell (.inl (.inr (.inl hgb))) _⟩
  · exact h.cel.far (fun e => a1 (e ▸ hgb)) _
  · rw [hg]; have := hst.1; rw [strs_set] at this; exact this
  · exact own_keep h.flt fun k hk => Below.heap_setCell _ _ _ _ (fun e => by subst e; exact (a4 _ hgb).1 hk)
  · exact own_keep h.pen fun k hk => Below.heap_setCell _ _ _ _ (fun e => by subst e; exact (a4 _ hgb).2 hk)
/-- a fault is written -/
theorem RefAt.putFault (h : RefAt w base rb hv fv lv D) {g cap : Nat} (hg : fv = .slice (some ⟨g, 0, none⟩) D.n cap) (i : Nat) (k : Int) (hk : 0 ≤ k ∧ k ≤ 3) (c : Nat) :
    RefAt (w.setCell ⟨g, i, none⟩ (.int .i64 k)) base rb hv fv lv { D with flt := setF D.flt i k, cnt := c } ∧ Fr (FootR rb hv fv lv) w (w.setCell ⟨g, i, none⟩ (.int .i64 k)) := by
  obtain ⟨a1, a2, a3, a4, a5⟩ := h.apart
  have hgb : fv.ownBlock = some g := by rw [hg]; rfl
  have hst := (hg ▸ h.flt : w.ownsRow base 3 1 (.slice (some ⟨g, 0, none⟩) D.n cap) D.n (flts D.n D.flt)).stored i (.int .i64 k)
  refine ⟨⟨setF_ok h.ok i k hk c, ?_, ?_, ?_, ?_, h.brb⟩, (Fr.refl _ _).setCell (.inl (.inr (.inr (.inl hgb)))) _⟩
  · exact h.cel.far (fun e => a2 (e ▸ hgb)) _
  · exact own_keep h.has fun j hj => Below.heap_setCell _ _ _ _ (fun e => by subst e; exact (a4 _ hj).1 hgb)
  · rw [hg]; have := hst.1; rw [flts_set] at this; exact this
  · exact own_keep h.pen fun j hj => Below.heap_setCell _ _ _ _ (fun e => by subst e; exact a5 _ hgb hj)
end
end Go.Proofs.Ytpjdnbmeedcafaa
