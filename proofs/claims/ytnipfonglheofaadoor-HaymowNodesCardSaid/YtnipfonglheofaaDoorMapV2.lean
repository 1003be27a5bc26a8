/-
  A store into a map that a call made, in two steps (its entry first, its value then); no program is named here.
-/
import Derived.Test.YtnipfonglheofaaDoorMapV
import Derived.WideKeyEntry
namespace Go.Proofs.YtnipfonglheofaaDoor
open Go.Maps Go.RowKit Go.MapKept Go.ChangeMaps Go.ChangeShapes
set_option linter.unusedVariables false

section
variable {α : Type} {P : Program} {k t e : TypeId} {c : α → Lit} {w w' : World} {b n : Nat} {f : α → Option Value}
theorem MapV.same (h : MapV P k c w b n f) (e : w'.heap[b]? = w.heap[b]?) : MapV P k c w' b n f := by
  obtain ⟨D, ⟨es, clock, h1, h2⟩, h3⟩ := h
  exact ⟨D, ⟨es, clock, e.trans h1, h2⟩, h3⟩
theorem grown_set {es : Array MapEntry} {clock : Nat} (hb : w.heap[b]? = some (.map es clock)) (o : Obj) : w.grownBy (setBlock w b o) (some b) :=
  ⟨rfl, rfl, rfl, by simp [setBlock], fun i _ hi => heap_setBlock_other hb _ (fun e => hi (by rw [e]))⟩
/-- an entry whose value is yet to come: its stamp, and what a store by it gives -/
theorem MapV.entry [DecidableEq α] (h : MapV P k c w b n f) (K : Keyed P k) (hc : ∀ x y, c x = c y → x = y) (ht : P.underlying t = some (.map k e)) (hn : n < maxLen) {z : Value} (hz : ∀ u : World, (zeroValue e).run P u = .ok z u) {key val : Value} {x : α} (hkey : keyOf P k key = some (c x)) :
    ∃ (v0 : Value) (st : Nat) (w1 : World), (Instr.mapEntry t (.map (some b)) key).run P w = .ok (.tuple #[v0, .int .i64 (st : Int)]) w1 ∧ w.grownBy w1 (some b) ∧
      ∀ w2 : World, w2.heap[b]? = w1.heap[b]? → ∃ w3, (Instr.entryStore t (.map (some b)) (.int .i64 (st : Int)) val).run P w2 = .ok () w3 ∧ MapV P k c w3 b (n + 1) (fun y => if y = x then some val else f y) ∧ w2.grownBy w3 (some b) := by
  obtain ⟨w', hup, hM, _⟩ := h.put K hc ht hn hkey (val := val)
  obtain ⟨D, ⟨es, clock, hb, F, _, _⟩, _, _⟩ := h
  obtain ⟨born1, born2, _⟩ := F.stamped
  have same : ∀ (w2 : World) (o : Obj) (es2 : Array MapEntry) (cl2 : Nat), w2.heap[b]? = some (.map es2 cl2) → (Instr.mapUpdate t (.map (some b)) key val).run P w = .ok () (setBlock w b o) → MapV P k c (setBlock w2 b o) b (n + 1) (fun y => if y = x then some val else f y) := by
    intro w2 o es2 cl2 h2 hr
    rw [hup] at hr
    cases hr
    exact hM.same ((heap_setBlock_same h2 o).trans (heap_setBlock_same hb o).symm)
  rcases K.find w hkey es.toList F.keys with ⟨miss, away⟩ | ⟨j, old, hit, at_, isk⟩
  · have up : (Instr.mapUpdate t (.map (some b)) key val).run P w = .ok () (setBlock w b (.map (es.push ⟨key, val, clock⟩) (clock + 1))) := by
      simp [Instr.mapUpdate, run_underlying ht, MapKept.run_getObj_map hb, K.check w false hkey, miss, MapKept.run_setObj_map _ hb, Result.andThen, setBlock]
    refine ⟨z, clock, setBlock w b (.map (es.push ⟨key, z, clock⟩) (clock + 1)), ?_, grown_set hb _, fun w2 h2 => ?_⟩
    · simp [Instr.mapEntry, run_underlying ht, MapKept.run_getObj_map hb, K.check w false hkey, miss, hz, MapKept.run_setObj_map _ hb, Result.andThen, setBlock, goInt]
    · have h2' := h2.trans (heap_setBlock_same hb _)
      have place : (es.push ⟨key, z, clock⟩).findIdx? (fun en => ((en.born : Nat) : Int) == ((clock : Nat) : Int)) = some es.size := by
        rw [WideElems.findIdx_arr]
        refine WideElems.findIdx_born (e0 := ⟨key, z, clock⟩) ?_ (by simp)
        rw [Array.toList_push, List.map_append]
        exact List.nodup_append.2 ⟨born2, by simp, fun u hu v hv => by
          obtain ⟨en, hen, rfl⟩ := List.mem_map.1 hu
          have := born1 en hen
          simp at hv
          omega⟩
      have turned : (es.push ⟨key, z, clock⟩).modify es.size (fun en => { en with val := val }) = es.push ⟨key, val, clock⟩ := Array.ext' (by
        rw [Array.toList_modify, Array.toList_push, Array.toList_push, ← Array.length_toList]
        exact WideElems.modify_last _ _ _)
      refine ⟨_, ?_, same w2 _ _ _ h2' up, grown_set h2' _⟩
      simp [Instr.entryStore, MapKept.run_getObj_map h2', asInt, asIntOf, place, turned, MapKept.run_setObj_map _ h2', Result.andThen, setBlock]
  · have atj : es[j]? = some old := by simpa using at_
    have still : es.modify j (fun en => { en with key := key }) = es := Array.ext' (by
      rw [Array.toList_modify, modify_eq_set _ _ _ _ at_, show ({ old with key := key } : MapEntry) = old by rw [← isk]]
      exact WideElems.set_self _ _ _ at_)
    have up : (Instr.mapUpdate t (.map (some b)) key val).run P w = .ok () (setBlock w b (.map (es.modify j (fun en => { en with key := key, val := val })) clock)) := by
      simp [Instr.mapUpdate, run_underlying ht, MapKept.run_getObj_map hb, K.check w false hkey, hit, atj, isk, K.stays w hkey, MapKept.run_setObj_map _ hb, Result.andThen, setBlock]
    refine ⟨old.val, old.born, setBlock w b (.map es clock), ?_, grown_set hb _, fun w2 h2 => ?_⟩
    · simp [Instr.mapEntry, run_underlying ht, MapKept.run_getObj_map hb, K.check w false hkey, hit, atj, isk, K.stays w hkey, still, MapKept.run_setObj_map _ hb, Result.andThen, setBlock, goInt]
    · have h2' := h2.trans (heap_setBlock_same hb _)
      have place : es.findIdx? (fun en => ((en.born : Nat) : Int) == ((old.born : Nat) : Int)) = some j := by
        rw [WideElems.findIdx_arr]
        exact WideElems.findIdx_born born2 at_
      have turned : es.modify j (fun en => { en with val := val }) = es.modify j (fun en => { en with key := key, val := val }) := Array.ext' (by
        rw [Array.toList_modify, Array.toList_modify, modify_eq_set _ _ _ _ at_, modify_eq_set _ _ _ _ at_, ← isk])
      refine ⟨_, ?_, same w2 _ _ _ h2' up, grown_set h2' _⟩
      simp [Instr.entryStore, MapKept.run_getObj_map h2', asInt, asIntOf, place, turned, MapKept.run_setObj_map _ h2', Result.andThen, setBlock]
end
end Go.Proofs.YtnipfonglheofaaDoor
