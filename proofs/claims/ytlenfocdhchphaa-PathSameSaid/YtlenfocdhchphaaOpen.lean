/-
  An argument that is a slice of numbers, as a list; whatever its address.
-/
import Derived.Test.YtlenfocdhchphaaMem
import Derived.ProofKit
import Derived.OpenShut
import Derived.ShutString
import Derived.ChangeOld
import Derived.Below
namespace Go.Proofs.Ytlenfocdhchphaa
open Go.ChangeShapes Go.WideShapes Go.ChangeAt Go.RowKit
set_option linter.unusedVariables false

theorem own : ownKnob Try.prog.godebug = none := by kernel_rfl
theorem laidOut : laidOutB Try.prog = true := by kernel_rfl

section
variable {H : Type} {enc : TypeId × Value → H} {w : World} {sp : Nat → Bool} {hd : Bool}

/-- a slice of numbers of one kind -/
theorem row_in {t e : TypeId} {k : IntKind} (ht : Try.prog.underlying t = some (.slice e)) (he : Try.prog.underlying e = some (.int k)) (hce : Try.prog.cellsOf e = 1)
    {a : Option Addr} {len cap : Nat} {d : DataW H} {p : List MemPlace} (h : DataW.Trod enc Try.prog w 0 sp hd t (.slice a len cap) d p) :
    ∃ xs : List Int, xs.length = len ∧ len ≤ cap ∧ cap ≤ maxLen ∧ Rd w w.heap.size a (xs.map (Value.int k)) ∧ ∀ n ∈ xs, (Lit.int k n).wf = true := by
  obtain ⟨fuel, hf⟩ := h
  rcases open_ints ht he hce hf with ⟨hcs, _⟩ | ⟨x, l, c, zs, hcs, _, hl, hm, hz, _, hcell, hwz⟩
  · simp [Value.cells] at hcs
    obtain ⟨rfl, rfl, rfl⟩ := hcs
    exact ⟨[], rfl, Nat.le_refl _, by simp, Rd.nil_, fun n hn => by simp at hn⟩
  · simp [Value.cells] at hcs
    obtain ⟨rfl, rfl, rfl⟩ := hcs
    have hz' : len ≤ zs.length := by rw [hz]; split <;> omega
    refine ⟨zs.take len, by rw [List.length_take]; omega, hl, hm, fun j u hu => ?_, fun n hn => hwz n (List.mem_of_mem_take hn)⟩
    have hj : j < len := by
      rcases Nat.lt_or_ge j len with h | h
      · exact h
      · rw [List.getElem?_eq_none (by simp; omega)] at hu; cases hu
    have hjz : j < zs.length := by omega
    have hc := hcell j hjz
    have hu' : Value.int k (zs.getD j 0) = u := by
      simp [hj, hjz] at hu
      rw [← hu, List.getD, List.getElem?_eq_getElem hjz]; rfl
    rw [hu'] at hc
    exact ⟨x, rfl, by have := World.block_lt_of_cell? w _ hc; rwa [block_add] at this, hc⟩

/-- a slice of bytes -/
theorem bytes_in {t e : TypeId} (ht : Try.prog.underlying t = some (.slice e)) (he : Try.prog.underlying e = some (.int .u8)) (hce : Try.prog.cellsOf e = 1)
    {a : Option Addr} {len cap : Nat} {d : DataW H} {p : List MemPlace} (h : DataW.Trod enc Try.prog w 0 sp hd t (.slice a len cap) d p) :
    ∃ bs : List UInt8, bs.length = len ∧ len ≤ cap ∧ cap ≤ maxLen ∧ Rd w w.heap.size a (bs.map bv) := by
  obtain ⟨xs, hx, hl, hm, hr, hw⟩ := row_in ht he hce h
  refine ⟨xs.map fun n => UInt8.ofNat n.toNat, by simpa using hx, hl, hm, ?_⟩
  have : (xs.map fun n => UInt8.ofNat n.toNat).map bv = xs.map (Value.int .u8) := by
    rw [List.map_map]
    refine List.map_congr_left fun n hn => ?_
    have := bounds_u8 (hw n hn)
    simp [bv]
    omega
  rw [this]
  exact hr
/-- a slice of int -/
theorem ints_in {t e : TypeId} (ht : Try.prog.underlying t = some (.slice e)) (he : Try.prog.underlying e = some (.int .i64)) (hce : Try.prog.cellsOf e = 1)
    {a : Option Addr} {len cap : Nat} {d : DataW H} {p : List MemPlace} (h : DataW.Trod enc Try.prog w 0 sp hd t (.slice a len cap) d p) :
    ∃ ws : List Int, ws.length = len ∧ len ≤ cap ∧ cap ≤ maxLen ∧ Rd w w.heap.size a (ws.map iv) := by
  obtain ⟨xs, hx, hl, hm, hr, _⟩ := row_in ht he hce h
  exact ⟨xs, hx, hl, hm, hr⟩
theorem ints_inb {t e : TypeId} (ht : Try.prog.underlying t = some (.slice e)) (he : Try.prog.underlying e = some (.int .i64)) (hce : Try.prog.cellsOf e = 1)
    {a : Option Addr} {len cap : Nat} {d : DataW H} {p : List MemPlace} (h : DataW.Trod enc Try.prog w 0 sp hd t (.slice a len cap) d p) :
    ∃ ws : List Int, ws.length = len ∧ len ≤ cap ∧ cap ≤ maxLen ∧ Rd w w.heap.size a (ws.map iv) ∧ ∀ y ∈ ws, -9223372036854775808 ≤ y ∧ y ≤ 9223372036854775807 := by
  obtain ⟨xs, hx, hl, hm, hr, hw⟩ := row_in ht he hce h
  exact ⟨xs, hx, hl, hm, hr, fun y hy => bounds_i64 (hw y hy)⟩
/-- a slice of uint16, of uint32 -/
theorem u16s_in {t e : TypeId} (ht : Try.prog.underlying t = some (.slice e)) (he : Try.prog.underlying e = some (.int .u16)) (hce : Try.prog.cellsOf e = 1)
    {a : Option Addr} {len cap : Nat} {d : DataW H} {p : List MemPlace} (h : DataW.Trod enc Try.prog w 0 sp hd t (.slice a len cap) d p) :
    ∃ ws : List Int, ws.length = len ∧ len ≤ cap ∧ cap ≤ maxLen ∧ Rd w w.heap.size a (ws.map (Value.int .u16)) ∧ ∀ y ∈ ws, 0 ≤ y ∧ y ≤ 65535 := by
  obtain ⟨xs, hx, hl, hm, hr, hw⟩ := row_in ht he hce h
  exact ⟨xs, hx, hl, hm, hr, fun y hy => bounds_u16 (hw y hy)⟩
theorem u32s_in {t e : TypeId} (ht : Try.prog.underlying t = some (.slice e)) (he : Try.prog.underlying e = some (.int .u32)) (hce : Try.prog.cellsOf e = 1)
    {a : Option Addr} {len cap : Nat} {d : DataW H} {p : List MemPlace} (h : DataW.Trod enc Try.prog w 0 sp hd t (.slice a len cap) d p) :
    ∃ ws : List Int, ws.length = len ∧ len ≤ cap ∧ cap ≤ maxLen ∧ Rd w w.heap.size a (ws.map (Value.int .u32)) ∧ ∀ y ∈ ws, 0 ≤ y ∧ y ≤ 4294967295 := by
  obtain ⟨xs, hx, hl, hm, hr, hw⟩ := row_in ht he hce h
  exact ⟨xs, hx, hl, hm, hr, fun y hy => bounds_u32 (hw y hy)⟩
/-- a slice of uint64 -/
theorem words_in {t e : TypeId} (ht : Try.prog.underlying t = some (.slice e)) (he : Try.prog.underlying e = some (.int .u64)) (hce : Try.prog.cellsOf e = 1)
    {a : Option Addr} {len cap : Nat} {d : DataW H} {p : List MemPlace} (h : DataW.Trod enc Try.prog w 0 sp hd t (.slice a len cap) d p) :
    ∃ vs : List Nat, vs.length = len ∧ len ≤ cap ∧ cap ≤ maxLen ∧ Rd w w.heap.size a (vs.map uv) ∧ ∀ v ∈ vs, v < 18446744073709551616 := by
  obtain ⟨xs, hx, hl, hm, hr, hw⟩ := row_in ht he hce h
  refine ⟨xs.map Int.toNat, by simpa using hx, hl, hm, ?_, fun v hv => ?_⟩
  · have : (xs.map Int.toNat).map uv = xs.map (Value.int .u64) := by
      rw [List.map_map]
      refine List.map_congr_left fun n hn => ?_
      have := bounds_u64 (hw n hn)
      simp [uv]
      omega
    rw [this]
    exact hr
  · obtain ⟨n, hn, rfl⟩ := List.mem_map.1 hv
    have := bounds_u64 (hw n hn)
    omega
end
end Go.Proofs.Ytlenfocdhchphaa
