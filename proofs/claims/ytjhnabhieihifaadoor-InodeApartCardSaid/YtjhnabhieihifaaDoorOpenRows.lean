/-
  An argument that is a slice of slices of bytes, as a list of parts; and a string made bytes.
-/
import Derived.Test.YtjhnabhieihifaaDoorOpen
import Derived.Test.YtjhnabhieihifaaDoorMem2
import Derived.Test.YtjhnabhieihifaaDoorCrc
import Derived.Deep.Matrix
import Derived.Laws.IdiomStrings
namespace Go.Proofs.YtjhnabhieihifaaDoor
open Go.ChangeShapes Go.WideShapes Go.ChangeAt Go.RowKit
set_option linter.unusedVariables false

/-- the numbers of a row of bytes, as bytes -/
def toBytes (zs : List Int) : List UInt8 := zs.map fun n => UInt8.ofNat n.toNat
theorem toBytes_bv (zs : List Int) (h : ∀ n ∈ zs, (Lit.int .u8 n).wf = true) : (toBytes zs).map bv = zs.map (Value.int .u8) := by
  unfold toBytes
  rw [List.map_map]
  refine List.map_congr_left fun n hn => ?_
  have := bounds_u8 (h n hn)
  simp [bv]
  omega
/-- a slice of slices of bytes that came in -/
def PartsIn (w : World) (B : Nat) (A : Option Addr) (ps : List Part) : Prop :=
  Rd w B A (ps.map partV) ∧ ∀ p ∈ ps, Rd w B p.1 (p.2.2.map bv) ∧ p.2.2.length ≤ p.2.1 ∧ p.2.1 ≤ maxLen
section
variable {H : Type} {enc : TypeId × Value → H} {w : World} {hd : Bool}
theorem rows_in {t e q : TypeId} (ht : Tryd.prog.underlying t = some (.slice e)) (he : Tryd.prog.underlying e = some (.slice q)) (hq : Tryd.prog.underlying q = some (.int .u8)) (ce : Tryd.prog.cellsOf e = 1) (cq : Tryd.prog.cellsOf q = 1)
    {a : Option Addr} {len cap : Nat} {d : DataW H} {p : List MemPlace} (h : DataW.Trod enc Tryd.prog w 0 (fun _ => true) hd t (.slice a len cap) d p) :
    ∃ ps : List Part, ps.length = len ∧ len ≤ cap ∧ cap ≤ maxLen ∧ PartsIn w w.heap.size a ps := by
  obtain ⟨fuel, hf⟩ := h
  rcases Deep.open_int_rows ht he hq ce cq hf with ⟨hcs, _⟩ | ⟨x, l, c, A, L, C, Z, hcs, _, hl, hm, _, hall⟩
  · simp [Value.cells] at hcs
    obtain ⟨rfl, rfl, rfl⟩ := hcs
    exact ⟨[], rfl, Nat.le_refl _, by simp, Rd.nil_, by simp⟩
  · simp [Value.cells] at hcs
    obtain ⟨rfl, rfl, rfl⟩ := hcs
    refine ⟨(List.range len).map fun r => (A r, C r, toBytes ((Z r).take (L r))), by simp, hl, hm, ?_, ?_⟩
    · intro j u hu
      have hj : j < len := by
        rcases Nat.lt_or_ge j len with h | h
        · exact h
        · rw [List.getElem?_eq_none (by simpa using h)] at hu; cases hu
      obtain ⟨hc, hLC, _, hZ, _, _, _⟩ := hall j (by omega)
      rw [List.getElem?_map, List.getElem?_map, List.getElem?_range hj] at hu
      simp only [Option.map_some, Option.some.injEq, partV] at hu
      rw [show (toBytes ((Z j).take (L j))).length = L j by simp [toBytes]; omega] at hu
      subst hu
      exact ⟨x, rfl, by have := World.block_lt_of_cell? w _ hc; rwa [block_add] at this, hc⟩
    · intro p hp
      obtain ⟨r, hr, rfl⟩ := List.mem_map.1 hp
      have hr' : r < len := by simpa using hr
      obtain ⟨_, hLC, hCm, hZ, hwf, hn, hcell⟩ := hall r (by omega)
      have hwf' : ∀ n ∈ (Z r).take (L r), (Lit.int .u8 n).wf = true := fun n hn => hwf n (List.mem_of_mem_take hn)
      refine ⟨?_, by simp [toBytes]; omega, hCm⟩
      show Rd w w.heap.size (A r) _
      rw [toBytes_bv _ hwf']
      intro j u hu
      have hj : j < L r := by
        rcases Nat.lt_or_ge j (L r) with h | h
        · exact h
        · rw [List.getElem?_eq_none (by simp; omega)] at hu; cases hu
      have hjz : j < (Z r).length := by omega
      cases hA : A r with
      | none => have := hn hA; omega
      | some a' =>
        have hc := (hcell a' hA).2 j (by omega)
        have hu' : Value.int .u8 ((Z r).getD j 0) = u := by
          simp [hj, hjz] at hu
          rw [← hu, List.getD, List.getElem?_eq_getElem hjz]; rfl
        rw [hu'] at hc
        exact ⟨a', rfl, by have := World.block_lt_of_cell? w _ hc; rwa [block_add] at this, hc⟩
end

/-- a string made bytes: a new row -/
theorem conv_in {P : Program} (src dst e : TypeId) (hs : P.underlying src = some .string) (hd : P.underlying dst = some (.slice e)) (he : P.underlying e = some (.int .u8)) (w : World) (bs : List UInt8) (n : Nat) (hn : bs.length = n) :
    ∃ c w', (convert src dst (.string (str bs))).run P w = .ok (.slice (some ⟨w.heap.size, 0, none⟩) n c) w' ∧ Below w.heap.size w w' ∧ Rd w' w'.heap.size (some ⟨w.heap.size, 0, none⟩) (bs.map bv) := by
  subst hn
  refine ⟨_, _, by rw [run_bytes_of_string w src dst e (str bs) hs hd he, str_size], ((Below.refl _ _).drew).alloc (Nat.le_refl _) _, ?_⟩
  have h := (Rd.row (heap_alloc_new w.drew (.cells (bytesRow (str bs) (grownCap w (str bs).size 0 e)) e ((bytesRow (str bs) (grownCap w (str bs).size 0 e)).size, (bytesRow (str bs) (grownCap w (str bs).size 0 e)).size + 1)))).take bs.length
  have e1 : (bytesRow (str bs) (grownCap w (str bs).size 0 e)).toList.take bs.length = bs.map bv := by
    simp [bytesRow, str, bv]
  rw [e1] at h
  exact h
end Go.Proofs.YtjhnabhieihifaaDoor
