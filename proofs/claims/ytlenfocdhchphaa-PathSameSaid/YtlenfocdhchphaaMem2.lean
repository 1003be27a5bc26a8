/-
  More plain words on memory: a store into a block known whole; bytes as strings.
-/
import Derived.Test.YtlenfocdhchphaaMem
import Derived.Laws.BytesArg
namespace Go.Proofs.Ytlenfocdhchphaa
open Go.RowKit
set_option linter.unusedVariables false

theorem Bk.drewN {w : World} {g : Nat} {t : TypeId} {cs : Array Value} (h : Bk w g t cs) (n : Nat) : Bk (w.drewN n) g t cs := h
theorem Bk.set_ {w : World} {g : Nat} {t : TypeId} {cs : Array Value} (h : Bk w g t cs) (i : Nat) (u : Value) : Bk (w.setCell ⟨g, i, none⟩ u) g t (cs.setIfInBounds i u) := by
  unfold Bk at h ⊢
  simp [World.setCell, Array.getElem?_modify, h]
theorem Bk.far {w : World} {g : Nat} {t : TypeId} {cs : Array Value} (h : Bk w g t cs) {p : Addr} (hp : g ≠ p.block) (u : Value) : Bk (w.setCell p u) g t cs := (Below.heap_setCell w p u g hp).trans h
/-- a part of a block, read -/
theorem Rd.part {w : World} {g : Nat} {t : TypeId} {cs : Array Value} (h : Bk w g t cs) (o : Nat) (vs : List Value) (hv : ∀ j u, vs[j]? = some u → cs[o + j]? = some u) : Rd w w.heap.size (some ⟨g, o, none⟩) vs := fun j u hu =>
  ⟨_, rfl, h.lt, by rw [add_plain, h.cell]; exact hv j u hu⟩
theorem Rd.set_ {w : World} {B : Nat} {A : Option Addr} {vs : List Value} (h : Rd w B A vs) {p : Addr} (hp : B ≤ p.block) (u : Value) : Rd (w.setCell p u) B A vs :=
  h.keep fun q hq => World.cell?_setCell_other w p q u (fun e => by subst e; omega)
theorem _root_.Go.World.setCell_size' (w : World) (p : Addr) (u : Value) : (w.setCell p u).heap.size = w.heap.size := by simp [World.setCell]

/-- a block of cells, some of them frozen or not, read -/
theorem Rd.row {w : World} {g : Nat} {t : TypeId} {cs : Array Value} {f : Nat × Nat} (h : w.heap[g]? = some (.cells cs t f)) : Rd w w.heap.size (some ⟨g, 0, none⟩) cs.toList := fun j u hu =>
  ⟨_, rfl, (Array.getElem?_eq_some_iff.1 h).1, by rw [add_plain, Nat.zero_add, cell_of_row w g j cs t f h]; simpa using hu⟩
theorem Rd.new (w : World) (t : TypeId) (cs : Array Value) (f : Nat × Nat) : Rd (w.alloc (.cells cs t f)) (w.heap.size + 1) (some ⟨w.heap.size, 0, none⟩) cs.toList := by
  have := Rd.row (heap_alloc_new w (.cells cs t f))
  rwa [World.alloc_size'] at this

/-- bytes as a string -/
def str (bs : List UInt8) : ByteArray := ⟨bs.toArray⟩
theorem str_toList (bs : List UInt8) : (str bs).toList = bs := by simp [str]
theorem str_size (bs : List UInt8) : (str bs).size = bs.length := by simp [str, ByteArray.size]
theorem str_get (bs : List UInt8) (k : Nat) (h : k < (str bs).size) : (str bs)[k] = bs[k]'(by rw [← str_size]; exact h) := rfl
theorem str_append (a b : List UInt8) : str a ++ str b = str (a ++ b) := ByteArray.mk_append_mk a b
theorem str_inj {a b : List UInt8} (h : str a = str b) : a = b := by rw [← str_toList a, h, str_toList]

theorem run_conv {P : Program} (src e dst : TypeId) (hs : P.underlying src = some (.slice e)) (he : P.underlying e = some (.int .u8)) (hd : P.underlying dst = some .string)
    {w : World} {B : Nat} {A : Option Addr} {bs : List UInt8} (n c : Nat) (hn : bs.length = n) (hr : Rd w B A (bs.map bv)) : (convert src dst (.slice A n c)).run P w = .ok (.string (str bs)) w := by
  subst hn
  cases A with
  | none =>
    have : bs = [] := by
      cases bs with
      | nil => rfl
      | cons x l => obtain ⟨ad, h, _⟩ := hr 0 (bv x) (by simp); cases h
    subst this
    exact run_convert_bytes_nil w src e hs he _ _ dst hd
  | some ad =>
    have hl : (loadCells ad bs.length).run P w = .ok ((bs.map fun b => (b.toNat : Int)).map (Value.int .u8)).toArray w := by
      have := run_loadCells_list (P := P) w ad (bs.map bv) (fun j v hj => by
        obtain ⟨ad', h, _, hc⟩ := hr j v hj
        cases h
        exact hc)
      rw [List.length_map] at this
      rw [this, List.map_map]
      rfl
    rw [run_convert_bytes_string w src dst e _ bs.length c hs he hd, run_bytesToString w _ bs.length c _ hl, foldl_push_bytes]
    simp [str, ByteArray.empty, ByteArray.emptyWithCapacity]
    rw [List.map_congr_left (g := id) (fun b _ => by simp)]
    simp
    rfl
end Go.Proofs.Ytlenfocdhchphaa
