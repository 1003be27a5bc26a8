/-
  What the document's answers of layer 10 are: whether entries may be. (Printed by wip/tools/ref10c.py.)
-/
import Derived.Test.YtgboccepgbeihaaRef10
import Derived.Test.YtgboccepgbeihaaRef09c
import Derived.Test.YtgboccepgbeihaaRef09h
import Derived.Test.YtgboccepgbeihaaRegTail
namespace Go.Proofs.Ytgboccepgbeihaa
open Go.RowKit
set_option maxRecDepth 100000
set_option linter.unusedVariables false

def slotYA (i : Nat) : Nat := 10 + i
def waitYA : Nat → List Nat
  | 2 => [0, 1]
  | 3 => [2]
  | 4 => [3]
  | 5 => [4]
  | 6 => [5]
  | 7 => [6]
  | 8 => [7]
  | 9 => [7]
  | 10 => [7, 8, 9]
  | 11 => [7, 10]
  | 12 => [7, 11]
  | 13 => [7, 12]
  | 14 => [7, 13]
  | 15 => [14]
  | 16 => [15]
  | 17 => [15, 16]
  | 18 => [15, 17]
  | 19 => [18]
  | 20 => [18]
  | 21 => [18, 20]
  | 22 => [18, 19, 21]
  | 23 => [18, 22]
  | 24 => [18, 23]
  | 25 => [18]
  | 26 => [18]
  | 27 => [18, 25, 26]
  | 28 => [18, 27]
  | 29 => [18, 28]
  | 30 => [18, 24, 29]
  | 31 => [18, 30]
  | 32 => [15, 18, 31]
  | 33 => [15, 32]
  | _ => []
def leaveYA (b o n c k j : Nat) (x y : List UInt8) (q t r : Int) : Nat → Value → World → Prop
  | 0, v, _ => v = .slice (some ⟨b, o, none⟩) n c
  | 1, v, _ => v = .int .i64 (k : Int)
  | 2, v, _ => v = .pointer (some ⟨b, o + k * 3, none⟩)
  | 3, v, _ => v = .pointer (some ⟨b, o + k * 3, none⟩)
  | 4, v, _ => v = .string (str x)
  | 5, v, _ => v = .bool false
  | 6, v, _ => v = .bool true
  | 7, v, _ => v = .bool true
  | 8, v, _ => v = undef
  | 9, v, _ => v = undef
  | 10, v, _ => v = undef
  | 11, v, _ => v = undef
  | 12, v, _ => v = undef
  | 13, v, _ => v = undef
  | 14, v, _ => v = .bool true
  | 15, v, _ => v = .bool true
  | 16, v, _ => v = undef
  | 17, v, _ => v = undef
  | 18, v, _ => v = undef
  | 19, v, _ => v = undef
  | 20, v, _ => v = undef
  | 21, v, _ => v = undef
  | 22, v, _ => v = undef
  | 23, v, _ => v = undef
  | 24, v, _ => v = undef
  | 25, v, _ => v = undef
  | 26, v, _ => v = undef
  | 27, v, _ => v = undef
  | 28, v, _ => v = undef
  | 29, v, _ => v = undef
  | 30, v, _ => v = undef
  | 31, v, _ => v = undef
  | 32, v, _ => v = undef
  | _, _, _ => True
def slotYB (i : Nat) : Nat := 10 + i
def waitYB : Nat → List Nat
  | 2 => [0, 1]
  | 3 => [2]
  | 4 => [3]
  | 5 => [4]
  | 6 => [5]
  | 7 => [6]
  | 8 => [7]
  | 9 => [7]
  | 10 => [7, 8, 9]
  | 11 => [7, 10]
  | 12 => [7, 11]
  | 13 => [7, 12]
  | 14 => [7, 13]
  | 15 => [14]
  | 16 => [15]
  | 17 => [15, 16]
  | 18 => [15, 17]
  | 19 => [18]
  | 20 => [18]
  | 21 => [18, 20]
  | 22 => [18, 19, 21]
  | 23 => [18, 22]
  | 24 => [18, 23]
  | 25 => [18]
  | 26 => [18]
  | 27 => [18, 25, 26]
  | 28 => [18, 27]
  | 29 => [18, 28]
  | 30 => [18, 24, 29]
  | 31 => [18, 30]
  | 32 => [15, 18, 31]
  | 33 => [15, 32]
  | _ => []
def leaveYB (b o n c k j : Nat) (x y : List UInt8) (q t r : Int) : Nat → Value → World → Prop
  | 0, v, _ => v = .slice (some ⟨b, o, none⟩) n c
  | 1, v, _ => v = .int .i64 (k : Int)
  | 2, v, _ => v = .pointer (some ⟨b, o + k * 3, none⟩)
  | 3, v, _ => v = .pointer (some ⟨b, o + k * 3, none⟩)
  | 4, v, _ => v = .string (str x)
  | 5, v, _ => v = .bool true
  | 6, v, _ => v = .bool false
  | 7, v, _ => v = .bool false
  | 8, v, _ => v = .slice (some ⟨b, o, none⟩) n c
  | 9, v, _ => v = .int .i64 (k : Int)
  | 10, v, _ => v = .pointer (some ⟨b, o + k * 3, none⟩)
  | 11, v, _ => v = .agg #[.string (str x), .int .i64 q, .int .i64 t]
  | 12, v, _ => v = .bool false
  | 13, v, _ => v = .bool true
  | 14, v, _ => v = .bool true
  | 15, v, _ => v = .bool true
  | 16, v, _ => v = undef
  | 17, v, _ => v = undef
  | 18, v, _ => v = undef
  | 19, v, _ => v = undef
  | 20, v, _ => v = undef
  | 21, v, _ => v = undef
  | 22, v, _ => v = undef
  | 23, v, _ => v = undef
  | 24, v, _ => v = undef
  | 25, v, _ => v = undef
  | 26, v, _ => v = undef
  | 27, v, _ => v = undef
  | 28, v, _ => v = undef
  | 29, v, _ => v = undef
  | 30, v, _ => v = undef
  | 31, v, _ => v = undef
  | 32, v, _ => v = undef
  | _, _, _ => True
def slotYC (i : Nat) : Nat := 10 + i
def waitYC : Nat → List Nat
  | 2 => [0, 1]
  | 3 => [2]
  | 4 => [3]
  | 5 => [4]
  | 6 => [5]
  | 7 => [6]
  | 8 => [7]
  | 9 => [7]
  | 10 => [7, 8, 9]
  | 11 => [7, 10]
  | 12 => [7, 11]
  | 13 => [7, 12]
  | 14 => [7, 13]
  | 15 => [14]
  | 16 => [15]
  | 17 => [15, 16]
  | 18 => [15, 17]
  | 19 => [18]
  | 20 => [18]
  | 21 => [18, 20]
  | 22 => [18, 19, 21]
  | 23 => [18, 22]
  | 24 => [18, 23]
  | 25 => [18]
  | 26 => [18]
  | 27 => [18, 25, 26]
  | 28 => [18, 27]
  | 29 => [18, 28]
  | 30 => [18, 24, 29]
  | 31 => [18, 30]
  | 32 => [15, 18, 31]
  | 33 => [15, 32]
  | _ => []
def leaveYC (b o n c k j : Nat) (x y : List UInt8) (q t r : Int) : Nat → Value → World → Prop
  | 0, v, _ => v = .slice (some ⟨b, o, none⟩) n c
  | 1, v, _ => v = .int .i64 (k : Int)
  | 2, v, _ => v = .pointer (some ⟨b, o + k * 3, none⟩)
  | 3, v, _ => v = .pointer (some ⟨b, o + k * 3, none⟩)
  | 4, v, _ => v = .string (str x)
  | 5, v, _ => v = .bool true
  | 6, v, _ => v = .bool false
  | 7, v, _ => v = .bool false
  | 8, v, _ => v = .slice (some ⟨b, o, none⟩) n c
  | 9, v, _ => v = .int .i64 (k : Int)
  | 10, v, _ => v = .pointer (some ⟨b, o + k * 3, none⟩)
  | 11, v, _ => v = .agg #[.string (str x), .int .i64 q, .int .i64 t]
  | 12, v, _ => v = .bool true
  | 13, v, _ => v = .bool false
  | 14, v, _ => v = .bool false
  | 15, v, _ => v = .bool false
  | 16, v, _ => v = .int .i64 (k : Int)
  | 17, v, _ => v = .bool false
  | 18, v, _ => v = .bool false
  | 19, v, _ => v = undef
  | 20, v, _ => v = undef
  | 21, v, _ => v = undef
  | 22, v, _ => v = undef
  | 23, v, _ => v = undef
  | 24, v, _ => v = undef
  | 25, v, _ => v = undef
  | 26, v, _ => v = undef
  | 27, v, _ => v = undef
  | 28, v, _ => v = undef
  | 29, v, _ => v = undef
  | 30, v, _ => v = undef
  | 31, v, _ => v = undef
  | 32, v, _ => v = .bool false
  | _, _, _ => True
def slotYD (i : Nat) : Nat := 10 + i
def waitYD : Nat → List Nat
  | 2 => [0, 1]
  | 3 => [2]
  | 4 => [3]
  | 5 => [4]
  | 6 => [5]
  | 7 => [6]
  | 8 => [7]
  | 9 => [7]
  | 10 => [7, 8, 9]
  | 11 => [7, 10]
  | 12 => [7, 11]
  | 13 => [7, 12]
  | 14 => [7, 13]
  | 15 => [14]
  | 16 => [15]
  | 17 => [15, 16]
  | 18 => [15, 17]
  | 19 => [18]
  | 20 => [18]
  | 21 => [18, 20]
  | 22 => [18, 19, 21]
  | 23 => [18, 22]
  | 24 => [18, 23]
  | 25 => [18]
  | 26 => [18]
  | 27 => [18, 25, 26]
  | 28 => [18, 27]
  | 29 => [18, 28]
  | 30 => [18, 24, 29]
  | 31 => [18, 30]
  | 32 => [15, 18, 31]
  | 33 => [15, 32]
  | _ => []
def leaveYD (b o n c k j : Nat) (x y : List UInt8) (q t r : Int) : Nat → Value → World → Prop
  | 0, v, _ => v = .slice (some ⟨b, o, none⟩) n c
  | 1, v, _ => v = .int .i64 (k : Int)
  | 2, v, _ => v = .pointer (some ⟨b, o + k * 3, none⟩)
  | 3, v, _ => v = .pointer (some ⟨b, o + k * 3, none⟩)
  | 4, v, _ => v = .string (str x)
  | 5, v, _ => v = .bool true
  | 6, v, _ => v = .bool false
  | 7, v, _ => v = .bool false
  | 8, v, _ => v = .slice (some ⟨b, o, none⟩) n c
  | 9, v, _ => v = .int .i64 (k : Int)
  | 10, v, _ => v = .pointer (some ⟨b, o + k * 3, none⟩)
  | 11, v, _ => v = .agg #[.string (str x), .int .i64 q, .int .i64 t]
  | 12, v, _ => v = .bool true
  | 13, v, _ => v = .bool false
  | 14, v, _ => v = .bool false
  | 15, v, _ => v = .bool false
  | 16, v, _ => v = .int .i64 (k : Int)
  | 17, v, _ => v = .bool true
  | 18, v, _ => v = .bool true
  | 19, v, _ => v = .slice (some ⟨b, o, none⟩) n c
  | 20, v, _ => v = .int .i64 (k : Int)
  | 21, v, _ => v = .int .i64 (j : Int)
  | 22, v, _ => v = .pointer (some ⟨b, o + j * 3, none⟩)
  | 23, v, _ => v = .pointer (some ⟨b, o + j * 3, none⟩)
  | 24, v, _ => v = .string (str y)
  | 25, v, _ => v = .slice (some ⟨b, o, none⟩) n c
  | 26, v, _ => v = .int .i64 (k : Int)
  | 27, v, _ => v = .pointer (some ⟨b, o + k * 3, none⟩)
  | 28, v, _ => v = .pointer (some ⟨b, o + k * 3, none⟩)
  | 29, v, _ => v = .string (str x)
  | 30, v, _ => v = .int .i64 r
  | 31, v, _ => v = .bool false
  | 32, v, _ => v = .bool false
  | _, _, _ => True
def slotYE (i : Nat) : Nat := 10 + i
def waitYE : Nat → List Nat
  | 2 => [0, 1]
  | 3 => [2]
  | 4 => [3]
  | 5 => [4]
  | 6 => [5]
  | 7 => [6]
  | 8 => [7]
  | 9 => [7]
  | 10 => [7, 8, 9]
  | 11 => [7, 10]
  | 12 => [7, 11]
  | 13 => [7, 12]
  | 14 => [7, 13]
  | 15 => [14]
  | 16 => [15]
  | 17 => [15, 16]
  | 18 => [15, 17]
  | 19 => [18]
  | 20 => [18]
  | 21 => [18, 20]
  | 22 => [18, 19, 21]
  | 23 => [18, 22]
  | 24 => [18, 23]
  | 25 => [18]
  | 26 => [18]
  | 27 => [18, 25, 26]
  | 28 => [18, 27]
  | 29 => [18, 28]
  | 30 => [18, 24, 29]
  | 31 => [18, 30]
  | 32 => [15, 18, 31]
  | 33 => [15, 32]
  | _ => []
def leaveYE (b o n c k j : Nat) (x y : List UInt8) (q t r : Int) : Nat → Value → World → Prop
  | 0, v, _ => v = .slice (some ⟨b, o, none⟩) n c
  | 1, v, _ => v = .int .i64 (k : Int)
  | 2, v, _ => v = .pointer (some ⟨b, o + k * 3, none⟩)
  | 3, v, _ => v = .pointer (some ⟨b, o + k * 3, none⟩)
  | 4, v, _ => v = .string (str x)
  | 5, v, _ => v = .bool true
  | 6, v, _ => v = .bool false
  | 7, v, _ => v = .bool false
  | 8, v, _ => v = .slice (some ⟨b, o, none⟩) n c
  | 9, v, _ => v = .int .i64 (k : Int)
  | 10, v, _ => v = .pointer (some ⟨b, o + k * 3, none⟩)
  | 11, v, _ => v = .agg #[.string (str x), .int .i64 q, .int .i64 t]
  | 12, v, _ => v = .bool true
  | 13, v, _ => v = .bool false
  | 14, v, _ => v = .bool false
  | 15, v, _ => v = .bool false
  | 16, v, _ => v = .int .i64 (k : Int)
  | 17, v, _ => v = .bool true
  | 18, v, _ => v = .bool true
  | 19, v, _ => v = .slice (some ⟨b, o, none⟩) n c
  | 20, v, _ => v = .int .i64 (k : Int)
  | 21, v, _ => v = .int .i64 (j : Int)
  | 22, v, _ => v = .pointer (some ⟨b, o + j * 3, none⟩)
  | 23, v, _ => v = .pointer (some ⟨b, o + j * 3, none⟩)
  | 24, v, _ => v = .string (str y)
  | 25, v, _ => v = .slice (some ⟨b, o, none⟩) n c
  | 26, v, _ => v = .int .i64 (k : Int)
  | 27, v, _ => v = .pointer (some ⟨b, o + k * 3, none⟩)
  | 28, v, _ => v = .pointer (some ⟨b, o + k * 3, none⟩)
  | 29, v, _ => v = .string (str x)
  | 30, v, _ => v = .int .i64 r
  | 31, v, _ => v = .bool true
  | 32, v, _ => v = .bool true
  | _, _, _ => True
theorem wrap_i64 {a : Nat} (h : a < 9223372036854775808) : IntKind.i64.wrap (a : Int) = (a : Int) := by
  simp [IntKind.wrap, IntKind.bits, IntKind.signed]
  omega
theorem take_two {l : List Et} {k : Nat} {a b : Et} (ha : l[k]? = some a) (hb : l[k + 1]? = some b) : l.take (k + 1) = l.take k ++ [a] ∧ l.take (k + 1 + 1) = (l.take k ++ [a]) ++ [b] := by
  have h1 : l.take (k + 1) = l.take k ++ [a] := by rw [List.take_add_one, ha]; rfl
  exact ⟨h1, by rw [List.take_add_one, hb, h1]; rfl⟩
/-- what has been looked at may be -/
def upE (l : List Et) (k : Nat) : Prop := (∀ x ∈ l.take k, okE x = true) ∧ (l.take k).Pairwise ltE
theorem upE_bad {l : List Et} {k : Nat} {x : Et} (hx : l[k]? = some x) (h : okE x = false) : mayE l = false := by
  rw [Bool.eq_false_iff]
  intro hm
  have := ((mayE_iff l).1 hm).1 x (List.mem_of_getElem? hx)
  rw [h] at this; cases this
theorem upE_swap {l : List Et} {k : Nat} {x y : Et} (hy : l[k]? = some y) (hx : l[k + 1]? = some x) (h : ¬ ltE y x) : mayE l = false := by
  rw [Bool.eq_false_iff]
  intro hm
  have hp := ((mayE_iff l).1 hm).2.1
  rw [← List.take_append_drop (k + 1 + 1) l, (take_two hy hx).2] at hp
  have h1 := (List.pairwise_append.1 hp).1
  exact h ((List.pairwise_append.1 h1).2.2 y (by simp) x (by simp))
theorem upE_zero {l : List Et} {x : Et} (hx : l[0]? = some x) (h : okE x = true) : upE l 1 := by
  have e : l.take 1 = [x] := by rw [show (1 : Nat) = 0 + 1 from rfl, List.take_add_one, hx]; rfl
  unfold upE
  rw [e]
  exact ⟨fun z hz => by rw [List.mem_singleton.1 hz]; exact h, List.pairwise_singleton _ _⟩
theorem upE_succ {l : List Et} {k : Nat} {x y : Et} (hu : upE l (k + 1)) (hy : l[k]? = some y) (hx : l[k + 1]? = some x) (h : okE x = true) (hl : ltE y x) : upE l (k + 1 + 1) := by
  obtain ⟨e1, e2⟩ := take_two hy hx
  obtain ⟨h1, h2⟩ := hu
  rw [e1] at h1 h2
  unfold upE
  rw [e2]
  refine ⟨fun z hz => ?_, pair_snoc h2 hl⟩
  rcases List.mem_append.1 hz with hz | hz
  · exact h1 z hz
  · rw [List.mem_singleton.1 hz]; exact h
theorem upE_all {l : List Et} {n : Nat} (hu : upE l n) (hl : l.length = n) : mayE l = decide (n ≤ 30) := by
  obtain ⟨h1, h2⟩ := hu
  rw [List.take_of_length_le (by omega)] at h1 h2
  rw [Bool.eq_iff_iff, mayE_iff, decide_eq_true_eq]
  exact ⟨fun h => by omega, fun h => ⟨h1, h2, by omega⟩⟩

set_option maxHeartbeats 16000000 in
theorem refMay10_any (B : Nat) (A : Option Addr) (n c : Nat) (l : List Et) (w : World) (hl : l.length = n) (hn : n ≤ 4398046511104) (hr : Rd w B A (etsV l)) (hB : B ≤ w.heap.size) (hs : ∀ x ∈ l, x.name.length ≤ 4398046511104) :
    Calls Try.prog 12 #[.slice A n c] w fun e w' => e = .returned (.bool (mayE l)) ∧ Below w.heap.size w w' := by
  have HL := Lib.hid hl
  have HR0 := Lib.hid hr
  have HS := Lib.hid hs
  obtain ⟨m, hm⟩ : ∃ m, mayE l = m := ⟨_, rfl⟩
  have HM := Lib.hid hm
  rw [hm]
  clear hl hr hs hm
  go_enter Try.func12, Try.ntmps12
  go_wp2
  go_loopw [3] (fun i wr => ∃ k : Nat, k ≤ n ∧ i = .int .i64 k ∧ Hid (upE l k) ∧ Hid (Below w.heap.size w wr)) (fun i _ => n - (intOf i).toNat)
  case atStart => exact ⟨0, Nat.zero_le _, rfl, ⟨fun x h => (by simp at h), List.Pairwise.nil⟩, Below.refl _ _⟩
  case round =>
    obtain ⟨k, hk, rfl, HU, HB⟩ := hrel
    by_cases hlt : k < n
    · obtain ⟨e, hx⟩ : ∃ x, l[k]? = some x := ⟨_, List.getElem?_eq_getElem (by rw [HL.out]; exact hlt)⟩
      have HX := Lib.hid hx
      obtain ⟨b, o, rfl, -, -⟩ := HR0.out.plain (by rw [etsV_length, HL.out]; omega)
      obtain ⟨x, q, t⟩ := e
      have HKX : Hid (∀ w', Below wr.heap.size wr w' → w'.cell? ⟨b, o + k * 3, none⟩ = some (.string (str x)) ∧ w'.cell? ⟨b, o + k * 3 + 1, none⟩ = some (.int .i64 q) ∧ w'.cell? ⟨b, o + k * 3 + 2, none⟩ = some (.int .i64 t)) :=
        fun w' hb => ets_at (HR0.out.below ((HB.out.trans (hb.mono HB.out.size)).mono hB)) HX.out
      have HIS := Lib.hid fun w' => refIs_any x w' (HS.out _ (List.mem_of_getElem? hx))
      have HRI := Lib.hid fun w' => refRight_any (str x) q t (rightE ⟨x, q, t⟩) w' rfl
      obtain ⟨n1, h1⟩ : ∃ n1, isT x = n1 := ⟨_, rfl⟩
      obtain ⟨n2, h2⟩ : ∃ n2, rightE ⟨x, q, t⟩ = n2 := ⟨_, rfl⟩
      rw [h1] at HIS
      rw [h2] at HRI
      have HOK : Hid (okE ⟨x, q, t⟩ = (n1 && n2)) := by show _ = _; rw [okE, h1, h2]
      clear hx h1 h2
      have key : n1 = false ∨ (n1 = true ∧ n2 = false) ∨ (n1 = true ∧ n2 = true ∧ k = 0) ∨ (n1 = true ∧ n2 = true ∧ ∃ j, k = j + 1) := by
        cases n1
        · exact .inl rfl
        · cases n2
          · exact .inr (.inl ⟨rfl, rfl⟩)
          · rcases Nat.eq_zero_or_pos k with h | h
            · exact .inr (.inr (.inl ⟨rfl, rfl, h⟩))
            · exact .inr (.inr (.inr ⟨rfl, rfl, k - 1, by omega⟩))
      rcases key with rfl | ⟨rfl, rfl⟩ | ⟨rfl, rfl, hk0⟩ | ⟨rfl, rfl, j, hkj⟩
      · have hm0 : m = false := by rw [← HM.out]; exact upE_bad HX.out (by rw [HOK.out]; rfl)
        subst hm0
        obtain ⟨j, y, r, -⟩ : ∃ (j : Nat) (y : List UInt8) (r : Int), True := ⟨0, [], 0, trivial⟩
        go_wp2_with fail
        refine wp_region_tail (by kernel_rfl) 33 47 slotYA waitYA (leaveYA b o n c k j x y q t r) rfl
          (by kernel_rfl) (fun i v w w' _ _ h => by unfold leaveYA at *; split at h <;> exact h) ?_ ?_
        · intro i hi
          match i, hi with
          | 0, _ =>
            intro o ho a wc hk hb hd K hK
            cases ho
            have e0 := hk.rest 0 (.slice (some ⟨b, o, none⟩) n c) (by omega) (by kernel_rfl) rfl
            rw [Array.getD_eq_getD_getElem?] at e0
            go_simp
            exact hK _ _ (Below.refl _ _) rfl
          | 1, _ =>
            intro o ho a wc hk hb hd K hK
            cases ho
            have e0 := hk.rest 3 (.int .i64 (k : Int)) (by omega) (by kernel_rfl) rfl
            rw [Array.getD_eq_getD_getElem?] at e0
            go_simp
            exact hK _ _ (Below.refl _ _) rfl
          | 2, _ =>
            intro o ho a wc hk hb hd K hK
            cases ho
            have e0 := hd 0 (by simp [waitYA])
            have e1 := hd 1 (by simp [waitYA])
            simp only [leaveYA, slotYA, Nat.reduceAdd, Array.getD_eq_getD_getElem?] at e0 e1
            go_simp
            exact hK _ _ (Below.refl _ _) rfl
          | 3, _ =>
            intro o ho a wc hk hb hd K hK
            cases ho
            have e0 := hd 2 (by simp [waitYA])
            simp only [leaveYA, slotYA, Nat.reduceAdd, Array.getD_eq_getD_getElem?] at e0
            go_simp
            exact hK _ _ (Below.refl _ _) rfl
          | 4, _ =>
            intro o ho a wc hk hb hd K hK
            cases ho
            have e0 := hd 3 (by simp [waitYA])
            simp only [leaveYA, slotYA, Nat.reduceAdd, Array.getD_eq_getD_getElem?] at e0
            obtain ⟨c0, c1, c2⟩ := HKX.out _ hb
            go_simp
            exact hK _ _ (Below.refl _ _) rfl
          | 5, _ =>
            intro o ho a wc hk hb hd K hK
            cases ho
            have e0 := hd 4 (by simp [waitYA])
            simp only [leaveYA, slotYA, Nat.reduceAdd, Array.getD_eq_getD_getElem?] at e0
            go_simp
            refine (HIS.out _).mono ?_
            rintro e w3 ⟨rfl, hb3⟩
            exact hK _ _ hb3 rfl
          | 6, _ =>
            intro o ho a wc hk hb hd K hK
            cases ho
            have e0 := hd 5 (by simp [waitYA])
            simp only [leaveYA, slotYA, Nat.reduceAdd, Array.getD_eq_getD_getElem?] at e0
            go_simp
            exact hK _ _ (Below.refl _ _) rfl
          | 7, _ =>
            intro o ho a wc hk hb hd K hK
            cases ho
            have e0 := hd 6 (by simp [waitYA])
            simp only [leaveYA, slotYA, Nat.reduceAdd, Array.getD_eq_getD_getElem?] at e0
            go_simp
            exact hK _ _ (Below.refl _ _) rfl
          | 8, _ =>
            intro o ho a wc hk hb hd K hK
            cases ho
            have e0 := hk.rest 0 (.slice (some ⟨b, o, none⟩) n c) (by omega) (by kernel_rfl) rfl
            rw [Array.getD_eq_getD_getElem?] at e0
            have e1 := hd 7 (by simp [waitYA])
            simp only [leaveYA, slotYA, Nat.reduceAdd, Array.getD_eq_getD_getElem?] at e1
            have gs := hk.some_ (s := 17) (by omega) e1
            go_simp
            exact hK _ _ (Below.refl _ _) rfl
          | 9, _ =>
            intro o ho a wc hk hb hd K hK
            cases ho
            have e0 := hk.rest 3 (.int .i64 (k : Int)) (by omega) (by kernel_rfl) rfl
            rw [Array.getD_eq_getD_getElem?] at e0
            have e1 := hd 7 (by simp [waitYA])
            simp only [leaveYA, slotYA, Nat.reduceAdd, Array.getD_eq_getD_getElem?] at e1
            have gs := hk.some_ (s := 17) (by omega) e1
            go_simp
            exact hK _ _ (Below.refl _ _) rfl
          | 10, _ =>
            intro o ho a wc hk hb hd K hK
            cases ho
            have e0 := hd 7 (by simp [waitYA])
            have e1 := hd 8 (by simp [waitYA])
            have e2 := hd 9 (by simp [waitYA])
            simp only [leaveYA, slotYA, Nat.reduceAdd, Array.getD_eq_getD_getElem?] at e0 e1 e2
            have gs := hk.some_ (s := 17) (by omega) e0
            go_simp
            exact hK _ _ (Below.refl _ _) rfl
          | 11, _ =>
            intro o ho a wc hk hb hd K hK
            cases ho
            have e0 := hd 7 (by simp [waitYA])
            have e1 := hd 10 (by simp [waitYA])
            simp only [leaveYA, slotYA, Nat.reduceAdd, Array.getD_eq_getD_getElem?] at e0 e1
            have gs := hk.some_ (s := 17) (by omega) e0
            go_simp
            exact hK _ _ (Below.refl _ _) rfl
          | 12, _ =>
            intro o ho a wc hk hb hd K hK
            cases ho
            have e0 := hd 7 (by simp [waitYA])
            have e1 := hd 11 (by simp [waitYA])
            simp only [leaveYA, slotYA, Nat.reduceAdd, Array.getD_eq_getD_getElem?] at e0 e1
            have gs := hk.some_ (s := 17) (by omega) e0
            go_simp
            exact hK _ _ (Below.refl _ _) rfl
          | 13, _ =>
            intro o ho a wc hk hb hd K hK
            cases ho
            have e0 := hd 7 (by simp [waitYA])
            have e1 := hd 12 (by simp [waitYA])
            simp only [leaveYA, slotYA, Nat.reduceAdd, Array.getD_eq_getD_getElem?] at e0 e1
            have gs := hk.some_ (s := 17) (by omega) e0
            go_simp
            exact hK _ _ (Below.refl _ _) rfl
          | 14, _ =>
            intro o ho a wc hk hb hd K hK
            cases ho
            have e0 := hd 7 (by simp [waitYA])
            have e1 := hd 13 (by simp [waitYA])
            simp only [leaveYA, slotYA, Nat.reduceAdd, Array.getD_eq_getD_getElem?] at e0 e1
            go_simp
            exact hK _ _ (Below.refl _ _) rfl
          | 15, _ =>
            intro o ho a wc hk hb hd K hK
            cases ho
            have e0 := hd 14 (by simp [waitYA])
            simp only [leaveYA, slotYA, Nat.reduceAdd, Array.getD_eq_getD_getElem?] at e0
            go_simp
            exact hK _ _ (Below.refl _ _) rfl
          | 16, _ =>
            intro o ho a wc hk hb hd K hK
            cases ho
            have e0 := hk.rest 3 (.int .i64 (k : Int)) (by omega) (by kernel_rfl) rfl
            rw [Array.getD_eq_getD_getElem?] at e0
            have e1 := hd 15 (by simp [waitYA])
            simp only [leaveYA, slotYA, Nat.reduceAdd, Array.getD_eq_getD_getElem?] at e1
            have gs := hk.some_ (s := 25) (by omega) e1
            go_simp
            exact hK _ _ (Below.refl _ _) rfl
          | 17, _ =>
            intro o ho a wc hk hb hd K hK
            cases ho
            have e0 := hd 15 (by simp [waitYA])
            have e1 := hd 16 (by simp [waitYA])
            simp only [leaveYA, slotYA, Nat.reduceAdd, Array.getD_eq_getD_getElem?] at e0 e1
            have gs := hk.some_ (s := 25) (by omega) e0
            go_simp
            exact hK _ _ (Below.refl _ _) rfl
          | 18, _ =>
            intro o ho a wc hk hb hd K hK
            cases ho
            have e0 := hd 15 (by simp [waitYA])
            have e1 := hd 17 (by simp [waitYA])
            simp only [leaveYA, slotYA, Nat.reduceAdd, Array.getD_eq_getD_getElem?] at e0 e1
            have gs := hk.some_ (s := 25) (by omega) e0
            go_simp
            exact hK _ _ (Below.refl _ _) rfl
          | 19, _ =>
            intro o ho a wc hk hb hd K hK
            cases ho
            have e0 := hk.rest 0 (.slice (some ⟨b, o, none⟩) n c) (by omega) (by kernel_rfl) rfl
            rw [Array.getD_eq_getD_getElem?] at e0
            have e1 := hd 18 (by simp [waitYA])
            simp only [leaveYA, slotYA, Nat.reduceAdd, Array.getD_eq_getD_getElem?] at e1
            have gs := hk.some_ (s := 28) (by omega) e1
            go_simp
            exact hK _ _ (Below.refl _ _) rfl
          | 20, _ =>
            intro o ho a wc hk hb hd K hK
            cases ho
            have e0 := hk.rest 3 (.int .i64 (k : Int)) (by omega) (by kernel_rfl) rfl
            rw [Array.getD_eq_getD_getElem?] at e0
            have e1 := hd 18 (by simp [waitYA])
            simp only [leaveYA, slotYA, Nat.reduceAdd, Array.getD_eq_getD_getElem?] at e1
            have gs := hk.some_ (s := 28) (by omega) e1
            go_simp
            exact hK _ _ (Below.refl _ _) rfl
          | 21, _ =>
            intro o ho a wc hk hb hd K hK
            cases ho
            have e0 := hd 18 (by simp [waitYA])
            have e1 := hd 20 (by simp [waitYA])
            simp only [leaveYA, slotYA, Nat.reduceAdd, Array.getD_eq_getD_getElem?] at e0 e1
            have gs := hk.some_ (s := 28) (by omega) e0
            go_simp
            exact hK _ _ (Below.refl _ _) rfl
          | 22, _ =>
            intro o ho a wc hk hb hd K hK
            cases ho
            have e0 := hd 18 (by simp [waitYA])
            have e1 := hd 19 (by simp [waitYA])
            have e2 := hd 21 (by simp [waitYA])
            simp only [leaveYA, slotYA, Nat.reduceAdd, Array.getD_eq_getD_getElem?] at e0 e1 e2
            have gs := hk.some_ (s := 28) (by omega) e0
            go_simp
            exact hK _ _ (Below.refl _ _) rfl
          | 23, _ =>
            intro o ho a wc hk hb hd K hK
            cases ho
            have e0 := hd 18 (by simp [waitYA])
            have e1 := hd 22 (by simp [waitYA])
            simp only [leaveYA, slotYA, Nat.reduceAdd, Array.getD_eq_getD_getElem?] at e0 e1
            have gs := hk.some_ (s := 28) (by omega) e0
            go_simp
            exact hK _ _ (Below.refl _ _) rfl
          | 24, _ =>
            intro o ho a wc hk hb hd K hK
            cases ho
            have e0 := hd 18 (by simp [waitYA])
            have e1 := hd 23 (by simp [waitYA])
            simp only [leaveYA, slotYA, Nat.reduceAdd, Array.getD_eq_getD_getElem?] at e0 e1
            have gs := hk.some_ (s := 28) (by omega) e0
            go_simp
            exact hK _ _ (Below.refl _ _) rfl
          | 25, _ =>
            intro o ho a wc hk hb hd K hK
            cases ho
            have e0 := hk.rest 0 (.slice (some ⟨b, o, none⟩) n c) (by omega) (by kernel_rfl) rfl
            rw [Array.getD_eq_getD_getElem?] at e0
            have e1 := hd 18 (by simp [waitYA])
            simp only [leaveYA, slotYA, Nat.reduceAdd, Array.getD_eq_getD_getElem?] at e1
            have gs := hk.some_ (s := 28) (by omega) e1
            go_simp
            exact hK _ _ (Below.refl _ _) rfl
          | 26, _ =>
            intro o ho a wc hk hb hd K hK
            cases ho
            have e0 := hk.rest 3 (.int .i64 (k : Int)) (by omega) (by kernel_rfl) rfl
            rw [Array.getD_eq_getD_getElem?] at e0
            have e1 := hd 18 (by simp [waitYA])
            simp only [leaveYA, slotYA, Nat.reduceAdd, Array.getD_eq_getD_getElem?] at e1
            have gs := hk.some_ (s := 28) (by omega) e1
            go_simp
            exact hK _ _ (Below.refl _ _) rfl
          | 27, _ =>
            intro o ho a wc hk hb hd K hK
            cases ho
            have e0 := hd 18 (by simp [waitYA])
            have e1 := hd 25 (by simp [waitYA])
            have e2 := hd 26 (by simp [waitYA])
            simp only [leaveYA, slotYA, Nat.reduceAdd, Array.getD_eq_getD_getElem?] at e0 e1 e2
            have gs := hk.some_ (s := 28) (by omega) e0
            go_simp
            exact hK _ _ (Below.refl _ _) rfl
          | 28, _ =>
            intro o ho a wc hk hb hd K hK
            cases ho
            have e0 := hd 18 (by simp [waitYA])
            have e1 := hd 27 (by simp [waitYA])
            simp only [leaveYA, slotYA, Nat.reduceAdd, Array.getD_eq_getD_getElem?] at e0 e1
            have gs := hk.some_ (s := 28) (by omega) e0
            go_simp
            exact hK _ _ (Below.refl _ _) rfl
          | 29, _ =>
            intro o ho a wc hk hb hd K hK
            cases ho
            have e0 := hd 18 (by simp [waitYA])
            have e1 := hd 28 (by simp [waitYA])
            simp only [leaveYA, slotYA, Nat.reduceAdd, Array.getD_eq_getD_getElem?] at e0 e1
            have gs := hk.some_ (s := 28) (by omega) e0
            go_simp
            exact hK _ _ (Below.refl _ _) rfl
          | 30, _ =>
            intro o ho a wc hk hb hd K hK
            cases ho
            have e0 := hd 18 (by simp [waitYA])
            have e1 := hd 24 (by simp [waitYA])
            have e2 := hd 29 (by simp [waitYA])
            simp only [leaveYA, slotYA, Nat.reduceAdd, Array.getD_eq_getD_getElem?] at e0 e1 e2
            have gs := hk.some_ (s := 28) (by omega) e0
            go_simp
            exact hK _ _ (Below.refl _ _) rfl
          | 31, _ =>
            intro o ho a wc hk hb hd K hK
            cases ho
            have e0 := hd 18 (by simp [waitYA])
            have e1 := hd 30 (by simp [waitYA])
            simp only [leaveYA, slotYA, Nat.reduceAdd, Array.getD_eq_getD_getElem?] at e0 e1
            have gs := hk.some_ (s := 28) (by omega) e0
            go_simp
            exact hK _ _ (Below.refl _ _) rfl
          | 32, _ =>
            intro o ho a wc hk hb hd K hK
            cases ho
            have e0 := hd 15 (by simp [waitYA])
            have e1 := hd 18 (by simp [waitYA])
            have e2 := hd 31 (by simp [waitYA])
            simp only [leaveYA, slotYA, Nat.reduceAdd, Array.getD_eq_getD_getElem?] at e0 e1 e2
            have gs := hk.some_ (s := 25) (by omega) e0
            go_simp
            exact hK _ _ (Below.refl _ _) rfl
          | _ + 33, h => exact absurd h (by omega)
        · intro vals w5 hb hR
          have v0 := hR 0 (by omega)
          have v1 := hR 1 (by omega)
          have v2 := hR 2 (by omega)
          have v3 := hR 3 (by omega)
          have v4 := hR 4 (by omega)
          have v5 := hR 5 (by omega)
          have v6 := hR 6 (by omega)
          have v7 := hR 7 (by omega)
          have v8 := hR 8 (by omega)
          have v9 := hR 9 (by omega)
          have v10 := hR 10 (by omega)
          have v11 := hR 11 (by omega)
          have v12 := hR 12 (by omega)
          have v13 := hR 13 (by omega)
          have v14 := hR 14 (by omega)
          have v15 := hR 15 (by omega)
          have v16 := hR 16 (by omega)
          have v17 := hR 17 (by omega)
          have v18 := hR 18 (by omega)
          have v19 := hR 19 (by omega)
          have v20 := hR 20 (by omega)
          have v21 := hR 21 (by omega)
          have v22 := hR 22 (by omega)
          have v23 := hR 23 (by omega)
          have v24 := hR 24 (by omega)
          have v25 := hR 25 (by omega)
          have v26 := hR 26 (by omega)
          have v27 := hR 27 (by omega)
          have v28 := hR 28 (by omega)
          have v29 := hR 29 (by omega)
          have v30 := hR 30 (by omega)
          have v31 := hR 31 (by omega)
          have v32 := hR 32 (by omega)
          simp only [leaveYA] at v0 v1 v2 v3 v4 v5 v6 v7 v8 v9 v10 v11 v12 v13 v14 v15 v16 v17 v18 v19 v20 v21 v22 v23 v24 v25 v26 v27 v28 v29 v30 v31 v32
          clear hR
          simp only [putAll, slotYA, Nat.reduceAdd, List.setIfInBounds_toArray, List.set_cons_zero, List.set_cons_succ, List.drop_succ_cons, List.drop_zero, v0, v1, v2, v3, v4, v5, v6, v7, v8, v9, v10, v11, v12, v13, v14, v15, v16, v17, v18, v19, v20, v21, v22, v23, v24, v25, v26, v27, v28, v29, v30, v31, v32]
          clear v0 v1 v2 v3 v4 v5 v6 v7 v8 v9 v10 v11 v12 v13 v14 v15 v16 v17 v18 v19 v20 v21 v22 v23 v24 v25 v26 v27 v28 v29 v30 v31 v32
          go_wp2
          go_ret
          exact ⟨rfl, HB.out.trans (hb.mono HB.out.size)⟩
      · have hm0 : m = false := by rw [← HM.out]; exact upE_bad HX.out (by rw [HOK.out]; rfl)
        subst hm0
        obtain ⟨j, y, r, -⟩ : ∃ (j : Nat) (y : List UInt8) (r : Int), True := ⟨0, [], 0, trivial⟩
        go_wp2_with fail
        refine wp_region_tail (by kernel_rfl) 33 47 slotYB waitYB (leaveYB b o n c k j x y q t r) rfl
          (by kernel_rfl) (fun i v w w' _ _ h => by unfold leaveYB at *; split at h <;> exact h) ?_ ?_
        · intro i hi
          match i, hi with
          | 0, _ =>
            intro o ho a wc hk hb hd K hK
            cases ho
            have e0 := hk.rest 0 (.slice (some ⟨b, o, none⟩) n c) (by omega) (by kernel_rfl) rfl
            rw [Array.getD_eq_getD_getElem?] at e0
            go_simp
            exact hK _ _ (Below.refl _ _) rfl
          | 1, _ =>
            intro o ho a wc hk hb hd K hK
            cases ho
            have e0 := hk.rest 3 (.int .i64 (k : Int)) (by omega) (by kernel_rfl) rfl
            rw [Array.getD_eq_getD_getElem?] at e0
            go_simp
            exact hK _ _ (Below.refl _ _) rfl
          | 2, _ =>
            intro o ho a wc hk hb hd K hK
            cases ho
            have e0 := hd 0 (by simp [waitYB])
            have e1 := hd 1 (by simp [waitYB])
            simp only [leaveYB, slotYB, Nat.reduceAdd, Array.getD_eq_getD_getElem?] at e0 e1
            go_simp
            exact hK _ _ (Below.refl _ _) rfl
          | 3, _ =>
            intro o ho a wc hk hb hd K hK
            cases ho
            have e0 := hd 2 (by simp [waitYB])
            simp only [leaveYB, slotYB, Nat.reduceAdd, Array.getD_eq_getD_getElem?] at e0
            go_simp
            exact hK _ _ (Below.refl _ _) rfl
          | 4, _ =>
            intro o ho a wc hk hb hd K hK
            cases ho
            have e0 := hd 3 (by simp [waitYB])
            simp only [leaveYB, slotYB, Nat.reduceAdd, Array.getD_eq_getD_getElem?] at e0
            obtain ⟨c0, c1, c2⟩ := HKX.out _ hb
            go_simp
            exact hK _ _ (Below.refl _ _) rfl
          | 5, _ =>
            intro o ho a wc hk hb hd K hK
            cases ho
            have e0 := hd 4 (by simp [waitYB])
            simp only [leaveYB, slotYB, Nat.reduceAdd, Array.getD_eq_getD_getElem?] at e0
            go_simp
            refine (HIS.out _).mono ?_
            rintro e w3 ⟨rfl, hb3⟩
            exact hK _ _ hb3 rfl
          | 6, _ =>
            intro o ho a wc hk hb hd K hK
            cases ho
            have e0 := hd 5 (by simp [waitYB])
            simp only [leaveYB, slotYB, Nat.reduceAdd, Array.getD_eq_getD_getElem?] at e0
            go_simp
            exact hK _ _ (Below.refl _ _) rfl
          | 7, _ =>
            intro o ho a wc hk hb hd K hK
            cases ho
            have e0 := hd 6 (by simp [waitYB])
            simp only [leaveYB, slotYB, Nat.reduceAdd, Array.getD_eq_getD_getElem?] at e0
            go_simp
            exact hK _ _ (Below.refl _ _) rfl
          | 8, _ =>
            intro o ho a wc hk hb hd K hK
            cases ho
            have e0 := hk.rest 0 (.slice (some ⟨b, o, none⟩) n c) (by omega) (by kernel_rfl) rfl
            rw [Array.getD_eq_getD_getElem?] at e0
            have e1 := hd 7 (by simp [waitYB])
            simp only [leaveYB, slotYB, Nat.reduceAdd, Array.getD_eq_getD_getElem?] at e1
            have gs := hk.some_ (s := 17) (by omega) e1
            go_simp
            exact hK _ _ (Below.refl _ _) rfl
          | 9, _ =>
            intro o ho a wc hk hb hd K hK
            cases ho
            have e0 := hk.rest 3 (.int .i64 (k : Int)) (by omega) (by kernel_rfl) rfl
            rw [Array.getD_eq_getD_getElem?] at e0
            have e1 := hd 7 (by simp [waitYB])
            simp only [leaveYB, slotYB, Nat.reduceAdd, Array.getD_eq_getD_getElem?] at e1
            have gs := hk.some_ (s := 17) (by omega) e1
            go_simp
            exact hK _ _ (Below.refl _ _) rfl
          | 10, _ =>
            intro o ho a wc hk hb hd K hK
            cases ho
            have e0 := hd 7 (by simp [waitYB])
            have e1 := hd 8 (by simp [waitYB])
            have e2 := hd 9 (by simp [waitYB])
            simp only [leaveYB, slotYB, Nat.reduceAdd, Array.getD_eq_getD_getElem?] at e0 e1 e2
            have gs := hk.some_ (s := 17) (by omega) e0
            go_simp
            exact hK _ _ (Below.refl _ _) rfl
          | 11, _ =>
            intro o ho a wc hk hb hd K hK
            cases ho
            have e0 := hd 7 (by simp [waitYB])
            have e1 := hd 10 (by simp [waitYB])
            simp only [leaveYB, slotYB, Nat.reduceAdd, Array.getD_eq_getD_getElem?] at e0 e1
            have gs := hk.some_ (s := 17) (by omega) e0
            obtain ⟨c0, c1, c2⟩ := HKX.out _ hb
            go_simp
            exact hK _ _ (Below.refl _ _) rfl
          | 12, _ =>
            intro o ho a wc hk hb hd K hK
            cases ho
            have e0 := hd 7 (by simp [waitYB])
            have e1 := hd 11 (by simp [waitYB])
            simp only [leaveYB, slotYB, Nat.reduceAdd, Array.getD_eq_getD_getElem?] at e0 e1
            have gs := hk.some_ (s := 17) (by omega) e0
            go_simp
            refine (HRI.out _).mono ?_
            rintro e w3 ⟨rfl, hb3⟩
            exact hK _ _ hb3 rfl
          | 13, _ =>
            intro o ho a wc hk hb hd K hK
            cases ho
            have e0 := hd 7 (by simp [waitYB])
            have e1 := hd 12 (by simp [waitYB])
            simp only [leaveYB, slotYB, Nat.reduceAdd, Array.getD_eq_getD_getElem?] at e0 e1
            have gs := hk.some_ (s := 17) (by omega) e0
            go_simp
            exact hK _ _ (Below.refl _ _) rfl
          | 14, _ =>
            intro o ho a wc hk hb hd K hK
            cases ho
            have e0 := hd 7 (by simp [waitYB])
            have e1 := hd 13 (by simp [waitYB])
            simp only [leaveYB, slotYB, Nat.reduceAdd, Array.getD_eq_getD_getElem?] at e0 e1
            go_simp
            exact hK _ _ (Below.refl _ _) rfl
          | 15, _ =>
            intro o ho a wc hk hb hd K hK
            cases ho
            have e0 := hd 14 (by simp [waitYB])
            simp only [leaveYB, slotYB, Nat.reduceAdd, Array.getD_eq_getD_getElem?] at e0
            go_simp
            exact hK _ _ (Below.refl _ _) rfl
          | 16, _ =>
            intro o ho a wc hk hb hd K hK
            cases ho
            have e0 := hk.rest 3 (.int .i64 (k : Int)) (by omega) (by kernel_rfl) rfl
            rw [Array.getD_eq_getD_getElem?] at e0
            have e1 := hd 15 (by simp [waitYB])
            simp only [leaveYB, slotYB, Nat.reduceAdd, Array.getD_eq_getD_getElem?] at e1
            have gs := hk.some_ (s := 25) (by omega) e1
            go_simp
            exact hK _ _ (Below.refl _ _) rfl
          | 17, _ =>
            intro o ho a wc hk hb hd K hK
            cases ho
            have e0 := hd 15 (by simp [waitYB])
            have e1 := hd 16 (by simp [waitYB])
            simp only [leaveYB, slotYB, Nat.reduceAdd, Array.getD_eq_getD_getElem?] at e0 e1
            have gs := hk.some_ (s := 25) (by omega) e0
            go_simp
            exact hK _ _ (Below.refl _ _) rfl
          | 18, _ =>
            intro o ho a wc hk hb hd K hK
            cases ho
            have e0 := hd 15 (by simp [waitYB])
            have e1 := hd 17 (by simp [waitYB])
            simp only [leaveYB, slotYB, Nat.reduceAdd, Array.getD_eq_getD_getElem?] at e0 e1
            have gs := hk.some_ (s := 25) (by omega) e0
            go_simp
            exact hK _ _ (Below.refl _ _) rfl
          | 19, _ =>
            intro o ho a wc hk hb hd K hK
            cases ho
            have e0 := hk.rest 0 (.slice (some ⟨b, o, none⟩) n c) (by omega) (by kernel_rfl) rfl
            rw [Array.getD_eq_getD_getElem?] at e0
            have e1 := hd 18 (by simp [waitYB])
            simp only [leaveYB, slotYB, Nat.reduceAdd, Array.getD_eq_getD_getElem?] at e1
            have gs := hk.some_ (s := 28) (by omega) e1
            go_simp
            exact hK _ _ (Below.refl _ _) rfl
          | 20, _ =>
            intro o ho a wc hk hb hd K hK
            cases ho
            have e0 := hk.rest 3 (.int .i64 (k : Int)) (by omega) (by kernel_rfl) rfl
            rw [Array.getD_eq_getD_getElem?] at e0
            have e1 := hd 18 (by simp [waitYB])
            simp only [leaveYB, slotYB, Nat.reduceAdd, Array.getD_eq_getD_getElem?] at e1
            have gs := hk.some_ (s := 28) (by omega) e1
            go_simp
            exact hK _ _ (Below.refl _ _) rfl
          | 21, _ =>
            intro o ho a wc hk hb hd K hK
            cases ho
            have e0 := hd 18 (by simp [waitYB])
            have e1 := hd 20 (by simp [waitYB])
            simp only [leaveYB, slotYB, Nat.reduceAdd, Array.getD_eq_getD_getElem?] at e0 e1
            have gs := hk.some_ (s := 28) (by omega) e0
            go_simp
            exact hK _ _ (Below.refl _ _) rfl
          | 22, _ =>
            intro o ho a wc hk hb hd K hK
            cases ho
            have e0 := hd 18 (by simp [waitYB])
            have e1 := hd 19 (by simp [waitYB])
            have e2 := hd 21 (by simp [waitYB])
            simp only [leaveYB, slotYB, Nat.reduceAdd, Array.getD_eq_getD_getElem?] at e0 e1 e2
            have gs := hk.some_ (s := 28) (by omega) e0
            go_simp
            exact hK _ _ (Below.refl _ _) rfl
          | 23, _ =>
            intro o ho a wc hk hb hd K hK
            cases ho
            have e0 := hd 18 (by simp [waitYB])
            have e1 := hd 22 (by simp [waitYB])
            simp only [leaveYB, slotYB, Nat.reduceAdd, Array.getD_eq_getD_getElem?] at e0 e1
            have gs := hk.some_ (s := 28) (by omega) e0
            go_simp
            exact hK _ _ (Below.refl _ _) rfl
          | 24, _ =>
            intro o ho a wc hk hb hd K hK
            cases ho
            have e0 := hd 18 (by simp [waitYB])
            have e1 := hd 23 (by simp [waitYB])
            simp only [leaveYB, slotYB, Nat.reduceAdd, Array.getD_eq_getD_getElem?] at e0 e1
            have gs := hk.some_ (s := 28) (by omega) e0
            go_simp
            exact hK _ _ (Below.refl _ _) rfl
          | 25, _ =>
            intro o ho a wc hk hb hd K hK
            cases ho
            have e0 := hk.rest 0 (.slice (some ⟨b, o, none⟩) n c) (by omega) (by kernel_rfl) rfl
            rw [Array.getD_eq_getD_getElem?] at e0
            have e1 := hd 18 (by simp [waitYB])
            simp only [leaveYB, slotYB, Nat.reduceAdd, Array.getD_eq_getD_getElem?] at e1
            have gs := hk.some_ (s := 28) (by omega) e1
            go_simp
            exact hK _ _ (Below.refl _ _) rfl
          | 26, _ =>
            intro o ho a wc hk hb hd K hK
            cases ho
            have e0 := hk.rest 3 (.int .i64 (k : Int)) (by omega) (by kernel_rfl) rfl
            rw [Array.getD_eq_getD_getElem?] at e0
            have e1 := hd 18 (by simp [waitYB])
            simp only [leaveYB, slotYB, Nat.reduceAdd, Array.getD_eq_getD_getElem?] at e1
            have gs := hk.some_ (s := 28) (by omega) e1
            go_simp
            exact hK _ _ (Below.refl _ _) rfl
          | 27, _ =>
            intro o ho a wc hk hb hd K hK
            cases ho
            have e0 := hd 18 (by simp [waitYB])
            have e1 := hd 25 (by simp [waitYB])
            have e2 := hd 26 (by simp [waitYB])
            simp only [leaveYB, slotYB, Nat.reduceAdd, Array.getD_eq_getD_getElem?] at e0 e1 e2
            have gs := hk.some_ (s := 28) (by omega) e0
            go_simp
            exact hK _ _ (Below.refl _ _) rfl
          | 28, _ =>
            intro o ho a wc hk hb hd K hK
            cases ho
            have e0 := hd 18 (by simp [waitYB])
            have e1 := hd 27 (by simp [waitYB])
            simp only [leaveYB, slotYB, Nat.reduceAdd, Array.getD_eq_getD_getElem?] at e0 e1
            have gs := hk.some_ (s := 28) (by omega) e0
            go_simp
            exact hK _ _ (Below.refl _ _) rfl
          | 29, _ =>
            intro o ho a wc hk hb hd K hK
            cases ho
            have e0 := hd 18 (by simp [waitYB])
            have e1 := hd 28 (by simp [waitYB])
            simp only [leaveYB, slotYB, Nat.reduceAdd, Array.getD_eq_getD_getElem?] at e0 e1
            have gs := hk.some_ (s := 28) (by omega) e0
            go_simp
            exact hK _ _ (Below.refl _ _) rfl
          | 30, _ =>
            intro o ho a wc hk hb hd K hK
            cases ho
            have e0 := hd 18 (by simp [waitYB])
            have e1 := hd 24 (by simp [waitYB])
            have e2 := hd 29 (by simp [waitYB])
            simp only [leaveYB, slotYB, Nat.reduceAdd, Array.getD_eq_getD_getElem?] at e0 e1 e2
            have gs := hk.some_ (s := 28) (by omega) e0
            go_simp
            exact hK _ _ (Below.refl _ _) rfl
          | 31, _ =>
            intro o ho a wc hk hb hd K hK
            cases ho
            have e0 := hd 18 (by simp [waitYB])
            have e1 := hd 30 (by simp [waitYB])
            simp only [leaveYB, slotYB, Nat.reduceAdd, Array.getD_eq_getD_getElem?] at e0 e1
            have gs := hk.some_ (s := 28) (by omega) e0
            go_simp
            exact hK _ _ (Below.refl _ _) rfl
          | 32, _ =>
            intro o ho a wc hk hb hd K hK
            cases ho
            have e0 := hd 15 (by simp [waitYB])
            have e1 := hd 18 (by simp [waitYB])
            have e2 := hd 31 (by simp [waitYB])
            simp only [leaveYB, slotYB, Nat.reduceAdd, Array.getD_eq_getD_getElem?] at e0 e1 e2
            have gs := hk.some_ (s := 25) (by omega) e0
            go_simp
            exact hK _ _ (Below.refl _ _) rfl
          | _ + 33, h => exact absurd h (by omega)
        · intro vals w5 hb hR
          have v0 := hR 0 (by omega)
          have v1 := hR 1 (by omega)
          have v2 := hR 2 (by omega)
          have v3 := hR 3 (by omega)
          have v4 := hR 4 (by omega)
          have v5 := hR 5 (by omega)
          have v6 := hR 6 (by omega)
          have v7 := hR 7 (by omega)
          have v8 := hR 8 (by omega)
          have v9 := hR 9 (by omega)
          have v10 := hR 10 (by omega)
          have v11 := hR 11 (by omega)
          have v12 := hR 12 (by omega)
          have v13 := hR 13 (by omega)
          have v14 := hR 14 (by omega)
          have v15 := hR 15 (by omega)
          have v16 := hR 16 (by omega)
          have v17 := hR 17 (by omega)
          have v18 := hR 18 (by omega)
          have v19 := hR 19 (by omega)
          have v20 := hR 20 (by omega)
          have v21 := hR 21 (by omega)
          have v22 := hR 22 (by omega)
          have v23 := hR 23 (by omega)
          have v24 := hR 24 (by omega)
          have v25 := hR 25 (by omega)
          have v26 := hR 26 (by omega)
          have v27 := hR 27 (by omega)
          have v28 := hR 28 (by omega)
          have v29 := hR 29 (by omega)
          have v30 := hR 30 (by omega)
          have v31 := hR 31 (by omega)
          have v32 := hR 32 (by omega)
          simp only [leaveYB] at v0 v1 v2 v3 v4 v5 v6 v7 v8 v9 v10 v11 v12 v13 v14 v15 v16 v17 v18 v19 v20 v21 v22 v23 v24 v25 v26 v27 v28 v29 v30 v31 v32
          clear hR
          simp only [putAll, slotYB, Nat.reduceAdd, List.setIfInBounds_toArray, List.set_cons_zero, List.set_cons_succ, List.drop_succ_cons, List.drop_zero, v0, v1, v2, v3, v4, v5, v6, v7, v8, v9, v10, v11, v12, v13, v14, v15, v16, v17, v18, v19, v20, v21, v22, v23, v24, v25, v26, v27, v28, v29, v30, v31, v32]
          clear v0 v1 v2 v3 v4 v5 v6 v7 v8 v9 v10 v11 v12 v13 v14 v15 v16 v17 v18 v19 v20 v21 v22 v23 v24 v25 v26 v27 v28 v29 v30 v31 v32
          go_wp2
          go_ret
          exact ⟨rfl, HB.out.trans (hb.mono HB.out.size)⟩
      · obtain ⟨j, y, r, -⟩ : ∃ (j : Nat) (y : List UInt8) (r : Int), True := ⟨0, [], 0, trivial⟩
        have HU' : Hid (upE l (k + 1)) := by
          show upE _ _
          have h := HX.out
          rw [hk0] at h ⊢
          exact upE_zero h HOK.out
        have hkn : ¬ (0 : Int) < (k : Int) := by omega
        have HKZ : Hid (¬ 0 < k) := show ¬ _ by omega
        have HK0 := Lib.hid hk0
        clear hk0 hk
        go_wp2_with fail
        refine wp_region_tail (by kernel_rfl) 33 47 slotYC waitYC (leaveYC b o n c k j x y q t r) rfl
          (by kernel_rfl) (fun i v w w' _ _ h => by unfold leaveYC at *; split at h <;> exact h) ?_ ?_
        · intro i hi
          match i, hi with
          | 0, _ =>
            intro o ho a wc hk hb hd K hK
            cases ho
            have e0 := hk.rest 0 (.slice (some ⟨b, o, none⟩) n c) (by omega) (by kernel_rfl) rfl
            rw [Array.getD_eq_getD_getElem?] at e0
            go_simp
            exact hK _ _ (Below.refl _ _) rfl
          | 1, _ =>
            intro o ho a wc hk hb hd K hK
            cases ho
            have e0 := hk.rest 3 (.int .i64 (k : Int)) (by omega) (by kernel_rfl) rfl
            rw [Array.getD_eq_getD_getElem?] at e0
            go_simp
            exact hK _ _ (Below.refl _ _) rfl
          | 2, _ =>
            intro o ho a wc hk hb hd K hK
            cases ho
            have e0 := hd 0 (by simp [waitYC])
            have e1 := hd 1 (by simp [waitYC])
            simp only [leaveYC, slotYC, Nat.reduceAdd, Array.getD_eq_getD_getElem?] at e0 e1
            go_simp
            exact hK _ _ (Below.refl _ _) rfl
          | 3, _ =>
            intro o ho a wc hk hb hd K hK
            cases ho
            have e0 := hd 2 (by simp [waitYC])
            simp only [leaveYC, slotYC, Nat.reduceAdd, Array.getD_eq_getD_getElem?] at e0
            go_simp
            exact hK _ _ (Below.refl _ _) rfl
          | 4, _ =>
            intro o ho a wc hk hb hd K hK
            cases ho
            have e0 := hd 3 (by simp [waitYC])
            simp only [leaveYC, slotYC, Nat.reduceAdd, Array.getD_eq_getD_getElem?] at e0
            obtain ⟨c0, c1, c2⟩ := HKX.out _ hb
            go_simp
            exact hK _ _ (Below.refl _ _) rfl
          | 5, _ =>
            intro o ho a wc hk hb hd K hK
            cases ho
            have e0 := hd 4 (by simp [waitYC])
            simp only [leaveYC, slotYC, Nat.reduceAdd, Array.getD_eq_getD_getElem?] at e0
            go_simp
            refine (HIS.out _).mono ?_
            rintro e w3 ⟨rfl, hb3⟩
            exact hK _ _ hb3 rfl
          | 6, _ =>
            intro o ho a wc hk hb hd K hK
            cases ho
            have e0 := hd 5 (by simp [waitYC])
            simp only [leaveYC, slotYC, Nat.reduceAdd, Array.getD_eq_getD_getElem?] at e0
            go_simp
            exact hK _ _ (Below.refl _ _) rfl
          | 7, _ =>
            intro o ho a wc hk hb hd K hK
            cases ho
            have e0 := hd 6 (by simp [waitYC])
            simp only [leaveYC, slotYC, Nat.reduceAdd, Array.getD_eq_getD_getElem?] at e0
            go_simp
            exact hK _ _ (Below.refl _ _) rfl
          | 8, _ =>
            intro o ho a wc hk hb hd K hK
            cases ho
            have e0 := hk.rest 0 (.slice (some ⟨b, o, none⟩) n c) (by omega) (by kernel_rfl) rfl
            rw [Array.getD_eq_getD_getElem?] at e0
            have e1 := hd 7 (by simp [waitYC])
            simp only [leaveYC, slotYC, Nat.reduceAdd, Array.getD_eq_getD_getElem?] at e1
            have gs := hk.some_ (s := 17) (by omega) e1
            go_simp
            exact hK _ _ (Below.refl _ _) rfl
          | 9, _ =>
            intro o ho a wc hk hb hd K hK
            cases ho
            have e0 := hk.rest 3 (.int .i64 (k : Int)) (by omega) (by kernel_rfl) rfl
            rw [Array.getD_eq_getD_getElem?] at e0
            have e1 := hd 7 (by simp [waitYC])
            simp only [leaveYC, slotYC, Nat.reduceAdd, Array.getD_eq_getD_getElem?] at e1
            have gs := hk.some_ (s := 17) (by omega) e1
            go_simp
            exact hK _ _ (Below.refl _ _) rfl
          | 10, _ =>
            intro o ho a wc hk hb hd K hK
            cases ho
            have e0 := hd 7 (by simp [waitYC])
            have e1 := hd 8 (by simp [waitYC])
            have e2 := hd 9 (by simp [waitYC])
            simp only [leaveYC, slotYC, Nat.reduceAdd, Array.getD_eq_getD_getElem?] at e0 e1 e2
            have gs := hk.some_ (s := 17) (by omega) e0
            go_simp
            exact hK _ _ (Below.refl _ _) rfl
          | 11, _ =>
            intro o ho a wc hk hb hd K hK
            cases ho
            have e0 := hd 7 (by simp [waitYC])
            have e1 := hd 10 (by simp [waitYC])
            simp only [leaveYC, slotYC, Nat.reduceAdd, Array.getD_eq_getD_getElem?] at e0 e1
            have gs := hk.some_ (s := 17) (by omega) e0
            obtain ⟨c0, c1, c2⟩ := HKX.out _ hb
            go_simp
            exact hK _ _ (Below.refl _ _) rfl
          | 12, _ =>
            intro o ho a wc hk hb hd K hK
            cases ho
            have e0 := hd 7 (by simp [waitYC])
            have e1 := hd 11 (by simp [waitYC])
            simp only [leaveYC, slotYC, Nat.reduceAdd, Array.getD_eq_getD_getElem?] at e0 e1
            have gs := hk.some_ (s := 17) (by omega) e0
            go_simp
            refine (HRI.out _).mono ?_
            rintro e w3 ⟨rfl, hb3⟩
            exact hK _ _ hb3 rfl
          | 13, _ =>
            intro o ho a wc hk hb hd K hK
            cases ho
            have e0 := hd 7 (by simp [waitYC])
            have e1 := hd 12 (by simp [waitYC])
            simp only [leaveYC, slotYC, Nat.reduceAdd, Array.getD_eq_getD_getElem?] at e0 e1
            have gs := hk.some_ (s := 17) (by omega) e0
            go_simp
            exact hK _ _ (Below.refl _ _) rfl
          | 14, _ =>
            intro o ho a wc hk hb hd K hK
            cases ho
            have e0 := hd 7 (by simp [waitYC])
            have e1 := hd 13 (by simp [waitYC])
            simp only [leaveYC, slotYC, Nat.reduceAdd, Array.getD_eq_getD_getElem?] at e0 e1
            go_simp
            exact hK _ _ (Below.refl _ _) rfl
          | 15, _ =>
            intro o ho a wc hk hb hd K hK
            cases ho
            have e0 := hd 14 (by simp [waitYC])
            simp only [leaveYC, slotYC, Nat.reduceAdd, Array.getD_eq_getD_getElem?] at e0
            go_simp
            exact hK _ _ (Below.refl _ _) rfl
          | 16, _ =>
            intro o ho a wc hk hb hd K hK
            cases ho
            have e0 := hk.rest 3 (.int .i64 (k : Int)) (by omega) (by kernel_rfl) rfl
            rw [Array.getD_eq_getD_getElem?] at e0
            have e1 := hd 15 (by simp [waitYC])
            simp only [leaveYC, slotYC, Nat.reduceAdd, Array.getD_eq_getD_getElem?] at e1
            have gs := hk.some_ (s := 25) (by omega) e1
            go_simp
            exact hK _ _ (Below.refl _ _) rfl
          | 17, _ =>
            intro o ho a wc hk hb hd K hK
            cases ho
            have e0 := hd 15 (by simp [waitYC])
            have e1 := hd 16 (by simp [waitYC])
            simp only [leaveYC, slotYC, Nat.reduceAdd, Array.getD_eq_getD_getElem?] at e0 e1
            have gs := hk.some_ (s := 25) (by omega) e0
            have q := HKZ.out
            go_simp
            exact hK _ _ (Below.refl _ _) rfl
          | 18, _ =>
            intro o ho a wc hk hb hd K hK
            cases ho
            have e0 := hd 15 (by simp [waitYC])
            have e1 := hd 17 (by simp [waitYC])
            simp only [leaveYC, slotYC, Nat.reduceAdd, Array.getD_eq_getD_getElem?] at e0 e1
            have gs := hk.some_ (s := 25) (by omega) e0
            go_simp
            exact hK _ _ (Below.refl _ _) rfl
          | 19, _ =>
            intro o ho a wc hk hb hd K hK
            cases ho
            have e0 := hk.rest 0 (.slice (some ⟨b, o, none⟩) n c) (by omega) (by kernel_rfl) rfl
            rw [Array.getD_eq_getD_getElem?] at e0
            have e1 := hd 18 (by simp [waitYC])
            simp only [leaveYC, slotYC, Nat.reduceAdd, Array.getD_eq_getD_getElem?] at e1
            have gs := hk.some_ (s := 28) (by omega) e1
            go_simp
            exact hK _ _ (Below.refl _ _) rfl
          | 20, _ =>
            intro o ho a wc hk hb hd K hK
            cases ho
            have e0 := hk.rest 3 (.int .i64 (k : Int)) (by omega) (by kernel_rfl) rfl
            rw [Array.getD_eq_getD_getElem?] at e0
            have e1 := hd 18 (by simp [waitYC])
            simp only [leaveYC, slotYC, Nat.reduceAdd, Array.getD_eq_getD_getElem?] at e1
            have gs := hk.some_ (s := 28) (by omega) e1
            go_simp
            exact hK _ _ (Below.refl _ _) rfl
          | 21, _ =>
            intro o ho a wc hk hb hd K hK
            cases ho
            have e0 := hd 18 (by simp [waitYC])
            have e1 := hd 20 (by simp [waitYC])
            simp only [leaveYC, slotYC, Nat.reduceAdd, Array.getD_eq_getD_getElem?] at e0 e1
            have gs := hk.some_ (s := 28) (by omega) e0
            go_simp
            exact hK _ _ (Below.refl _ _) rfl
          | 22, _ =>
            intro o ho a wc hk hb hd K hK
            cases ho
            have e0 := hd 18 (by simp [waitYC])
            have e1 := hd 19 (by simp [waitYC])
            have e2 := hd 21 (by simp [waitYC])
            simp only [leaveYC, slotYC, Nat.reduceAdd, Array.getD_eq_getD_getElem?] at e0 e1 e2
            have gs := hk.some_ (s := 28) (by omega) e0
            go_simp
            exact hK _ _ (Below.refl _ _) rfl
          | 23, _ =>
            intro o ho a wc hk hb hd K hK
            cases ho
            have e0 := hd 18 (by simp [waitYC])
            have e1 := hd 22 (by simp [waitYC])
            simp only [leaveYC, slotYC, Nat.reduceAdd, Array.getD_eq_getD_getElem?] at e0 e1
            have gs := hk.some_ (s := 28) (by omega) e0
            go_simp
            exact hK _ _ (Below.refl _ _) rfl
          | 24, _ =>
            intro o ho a wc hk hb hd K hK
            cases ho
            have e0 := hd 18 (by simp [waitYC])
            have e1 := hd 23 (by simp [waitYC])
            simp only [leaveYC, slotYC, Nat.reduceAdd, Array.getD_eq_getD_getElem?] at e0 e1
            have gs := hk.some_ (s := 28) (by omega) e0
            go_simp
            exact hK _ _ (Below.refl _ _) rfl
          | 25, _ =>
            intro o ho a wc hk hb hd K hK
            cases ho
            have e0 := hk.rest 0 (.slice (some ⟨b, o, none⟩) n c) (by omega) (by kernel_rfl) rfl
            rw [Array.getD_eq_getD_getElem?] at e0
            have e1 := hd 18 (by simp [waitYC])
            simp only [leaveYC, slotYC, Nat.reduceAdd, Array.getD_eq_getD_getElem?] at e1
            have gs := hk.some_ (s := 28) (by omega) e1
            go_simp
            exact hK _ _ (Below.refl _ _) rfl
          | 26, _ =>
            intro o ho a wc hk hb hd K hK
            cases ho
            have e0 := hk.rest 3 (.int .i64 (k : Int)) (by omega) (by kernel_rfl) rfl
            rw [Array.getD_eq_getD_getElem?] at e0
            have e1 := hd 18 (by simp [waitYC])
            simp only [leaveYC, slotYC, Nat.reduceAdd, Array.getD_eq_getD_getElem?] at e1
            have gs := hk.some_ (s := 28) (by omega) e1
            go_simp
            exact hK _ _ (Below.refl _ _) rfl
          | 27, _ =>
            intro o ho a wc hk hb hd K hK
            cases ho
            have e0 := hd 18 (by simp [waitYC])
            have e1 := hd 25 (by simp [waitYC])
            have e2 := hd 26 (by simp [waitYC])
            simp only [leaveYC, slotYC, Nat.reduceAdd, Array.getD_eq_getD_getElem?] at e0 e1 e2
            have gs := hk.some_ (s := 28) (by omega) e0
            go_simp
            exact hK _ _ (Below.refl _ _) rfl
          | 28, _ =>
            intro o ho a wc hk hb hd K hK
            cases ho
            have e0 := hd 18 (by simp [waitYC])
            have e1 := hd 27 (by simp [waitYC])
            simp only [leaveYC, slotYC, Nat.reduceAdd, Array.getD_eq_getD_getElem?] at e0 e1
            have gs := hk.some_ (s := 28) (by omega) e0
            go_simp
            exact hK _ _ (Below.refl _ _) rfl
          | 29, _ =>
            intro o ho a wc hk hb hd K hK
            cases ho
            have e0 := hd 18 (by simp [waitYC])
            have e1 := hd 28 (by simp [waitYC])
            simp only [leaveYC, slotYC, Nat.reduceAdd, Array.getD_eq_getD_getElem?] at e0 e1
            have gs := hk.some_ (s := 28) (by omega) e0
            go_simp
            exact hK _ _ (Below.refl _ _) rfl
          | 30, _ =>
            intro o ho a wc hk hb hd K hK
            cases ho
            have e0 := hd 18 (by simp [waitYC])
            have e1 := hd 24 (by simp [waitYC])
            have e2 := hd 29 (by simp [waitYC])
            simp only [leaveYC, slotYC, Nat.reduceAdd, Array.getD_eq_getD_getElem?] at e0 e1 e2
            have gs := hk.some_ (s := 28) (by omega) e0
            go_simp
            exact hK _ _ (Below.refl _ _) rfl
          | 31, _ =>
            intro o ho a wc hk hb hd K hK
            cases ho
            have e0 := hd 18 (by simp [waitYC])
            have e1 := hd 30 (by simp [waitYC])
            simp only [leaveYC, slotYC, Nat.reduceAdd, Array.getD_eq_getD_getElem?] at e0 e1
            have gs := hk.some_ (s := 28) (by omega) e0
            go_simp
            exact hK _ _ (Below.refl _ _) rfl
          | 32, _ =>
            intro o ho a wc hk hb hd K hK
            cases ho
            have e0 := hd 15 (by simp [waitYC])
            have e1 := hd 18 (by simp [waitYC])
            have e2 := hd 31 (by simp [waitYC])
            simp only [leaveYC, slotYC, Nat.reduceAdd, Array.getD_eq_getD_getElem?] at e0 e1 e2
            have gs := hk.some_ (s := 25) (by omega) e0
            go_simp
            exact hK _ _ (Below.refl _ _) rfl
          | _ + 33, h => exact absurd h (by omega)
        · intro vals w5 hb hR
          have v0 := hR 0 (by omega)
          have v1 := hR 1 (by omega)
          have v2 := hR 2 (by omega)
          have v3 := hR 3 (by omega)
          have v4 := hR 4 (by omega)
          have v5 := hR 5 (by omega)
          have v6 := hR 6 (by omega)
          have v7 := hR 7 (by omega)
          have v8 := hR 8 (by omega)
          have v9 := hR 9 (by omega)
          have v10 := hR 10 (by omega)
          have v11 := hR 11 (by omega)
          have v12 := hR 12 (by omega)
          have v13 := hR 13 (by omega)
          have v14 := hR 14 (by omega)
          have v15 := hR 15 (by omega)
          have v16 := hR 16 (by omega)
          have v17 := hR 17 (by omega)
          have v18 := hR 18 (by omega)
          have v19 := hR 19 (by omega)
          have v20 := hR 20 (by omega)
          have v21 := hR 21 (by omega)
          have v22 := hR 22 (by omega)
          have v23 := hR 23 (by omega)
          have v24 := hR 24 (by omega)
          have v25 := hR 25 (by omega)
          have v26 := hR 26 (by omega)
          have v27 := hR 27 (by omega)
          have v28 := hR 28 (by omega)
          have v29 := hR 29 (by omega)
          have v30 := hR 30 (by omega)
          have v31 := hR 31 (by omega)
          have v32 := hR 32 (by omega)
          simp only [leaveYC] at v0 v1 v2 v3 v4 v5 v6 v7 v8 v9 v10 v11 v12 v13 v14 v15 v16 v17 v18 v19 v20 v21 v22 v23 v24 v25 v26 v27 v28 v29 v30 v31 v32
          clear hR
          simp only [putAll, slotYC, Nat.reduceAdd, List.setIfInBounds_toArray, List.set_cons_zero, List.set_cons_succ, List.drop_succ_cons, List.drop_zero, v0, v1, v2, v3, v4, v5, v6, v7, v8, v9, v10, v11, v12, v13, v14, v15, v16, v17, v18, v19, v20, v21, v22, v23, v24, v25, v26, v27, v28, v29, v30, v31, v32]
          clear v0 v1 v2 v3 v4 v5 v6 v7 v8 v9 v10 v11 v12 v13 v14 v15 v16 v17 v18 v19 v20 v21 v22 v23 v24 v25 v26 v27 v28 v29 v30 v31 v32
          have HB5 := Lib.hid (HB.out.trans (hb.mono HB.out.size))
          clear hb
          go_wp2
          go_roundw
          case rel => exact ⟨k + 1, by omega, by go_num, HU', HB5⟩
          case measure => simp [intOf]; omega
      · obtain ⟨ey, hy⟩ : ∃ x, l[j]? = some x := ⟨_, List.getElem?_eq_getElem (by rw [HL.out]; omega)⟩
        have HY := Lib.hid hy
        have HKY : Hid (∀ w', Below wr.heap.size wr w' → w'.cell? ⟨b, o + j * 3, none⟩ = some (.string (str ey.name))) :=
          fun w' hb => (ets_at (HR0.out.below ((HB.out.trans (hb.mono HB.out.size)).mono hB)) HY.out).1
        have HOR := Lib.hid fun w' => refOrder_any ey.name x w' (HS.out _ (List.mem_of_getElem? hy)) (HS.out _ (List.mem_of_getElem? HX.out))
        obtain ⟨y, hy1⟩ : ∃ y, ey.name = y := ⟨_, rfl⟩
        obtain ⟨r, hr⟩ : ∃ r, ordT y x = r := ⟨_, rfl⟩
        rw [hy1] at HKY HOR
        rw [hr] at HOR
        by_cases hr1 : r = -1
        · have HU' : Hid (upE l (k + 1)) := by
            show upE _ _
            have h := HX.out
            have hu := HU.out
            rw [hkj] at h hu ⊢
            exact upE_succ hu HY.out h HOK.out (by show ordT ey.name x = -1; rw [hy1, hr, hr1])
          have hkn : (0 : Int) < (k : Int) := by omega
          have HKZ : Hid (0 < k) := show 0 < k by omega
          have HJN : Hid (j < n) := show j < n by omega
          have HWJ : Hid (IntKind.i64.wrap (j : Int) = (j : Int)) := wrap_i64 (by omega)
          have hjk : ((k : Int) - 1) = (j : Int) := by omega
          subst hr1
          clear hy hy1 hr hk hkj
          go_wp2_with fail
          refine wp_region_tail (by kernel_rfl) 33 47 slotYD waitYD (leaveYD b o n c k j x y q t (-1)) rfl
            (by kernel_rfl) (fun i v w w' _ _ h => by unfold leaveYD at *; split at h <;> exact h) ?_ ?_
          · intro i hi
            match i, hi with
            | 0, _ =>
              intro o ho a wc hk hb hd K hK
              cases ho
              have e0 := hk.rest 0 (.slice (some ⟨b, o, none⟩) n c) (by omega) (by kernel_rfl) rfl
              rw [Array.getD_eq_getD_getElem?] at e0
              go_simp
              exact hK _ _ (Below.refl _ _) rfl
            | 1, _ =>
              intro o ho a wc hk hb hd K hK
              cases ho
              have e0 := hk.rest 3 (.int .i64 (k : Int)) (by omega) (by kernel_rfl) rfl
              rw [Array.getD_eq_getD_getElem?] at e0
              go_simp
              exact hK _ _ (Below.refl _ _) rfl
            | 2, _ =>
              intro o ho a wc hk hb hd K hK
              cases ho
              have e0 := hd 0 (by simp [waitYD])
              have e1 := hd 1 (by simp [waitYD])
              simp only [leaveYD, slotYD, Nat.reduceAdd, Array.getD_eq_getD_getElem?] at e0 e1
              go_simp
              exact hK _ _ (Below.refl _ _) rfl
            | 3, _ =>
              intro o ho a wc hk hb hd K hK
              cases ho
              have e0 := hd 2 (by simp [waitYD])
              simp only [leaveYD, slotYD, Nat.reduceAdd, Array.getD_eq_getD_getElem?] at e0
              go_simp
              exact hK _ _ (Below.refl _ _) rfl
            | 4, _ =>
              intro o ho a wc hk hb hd K hK
              cases ho
              have e0 := hd 3 (by simp [waitYD])
              simp only [leaveYD, slotYD, Nat.reduceAdd, Array.getD_eq_getD_getElem?] at e0
              obtain ⟨c0, c1, c2⟩ := HKX.out _ hb
              go_simp
              exact hK _ _ (Below.refl _ _) rfl
            | 5, _ =>
              intro o ho a wc hk hb hd K hK
              cases ho
              have e0 := hd 4 (by simp [waitYD])
              simp only [leaveYD, slotYD, Nat.reduceAdd, Array.getD_eq_getD_getElem?] at e0
              go_simp
              refine (HIS.out _).mono ?_
              rintro e w3 ⟨rfl, hb3⟩
              exact hK _ _ hb3 rfl
            | 6, _ =>
              intro o ho a wc hk hb hd K hK
              cases ho
              have e0 := hd 5 (by simp [waitYD])
              simp only [leaveYD, slotYD, Nat.reduceAdd, Array.getD_eq_getD_getElem?] at e0
              go_simp
              exact hK _ _ (Below.refl _ _) rfl
            | 7, _ =>
              intro o ho a wc hk hb hd K hK
              cases ho
              have e0 := hd 6 (by simp [waitYD])
              simp only [leaveYD, slotYD, Nat.reduceAdd, Array.getD_eq_getD_getElem?] at e0
              go_simp
              exact hK _ _ (Below.refl _ _) rfl
            | 8, _ =>
              intro o ho a wc hk hb hd K hK
              cases ho
              have e0 := hk.rest 0 (.slice (some ⟨b, o, none⟩) n c) (by omega) (by kernel_rfl) rfl
              rw [Array.getD_eq_getD_getElem?] at e0
              have e1 := hd 7 (by simp [waitYD])
              simp only [leaveYD, slotYD, Nat.reduceAdd, Array.getD_eq_getD_getElem?] at e1
              have gs := hk.some_ (s := 17) (by omega) e1
              go_simp
              exact hK _ _ (Below.refl _ _) rfl
            | 9, _ =>
              intro o ho a wc hk hb hd K hK
              cases ho
              have e0 := hk.rest 3 (.int .i64 (k : Int)) (by omega) (by kernel_rfl) rfl
              rw [Array.getD_eq_getD_getElem?] at e0
              have e1 := hd 7 (by simp [waitYD])
              simp only [leaveYD, slotYD, Nat.reduceAdd, Array.getD_eq_getD_getElem?] at e1
              have gs := hk.some_ (s := 17) (by omega) e1
              go_simp
              exact hK _ _ (Below.refl _ _) rfl
            | 10, _ =>
              intro o ho a wc hk hb hd K hK
              cases ho
              have e0 := hd 7 (by simp [waitYD])
              have e1 := hd 8 (by simp [waitYD])
              have e2 := hd 9 (by simp [waitYD])
              simp only [leaveYD, slotYD, Nat.reduceAdd, Array.getD_eq_getD_getElem?] at e0 e1 e2
              have gs := hk.some_ (s := 17) (by omega) e0
              go_simp
              exact hK _ _ (Below.refl _ _) rfl
            | 11, _ =>
              intro o ho a wc hk hb hd K hK
              cases ho
              have e0 := hd 7 (by simp [waitYD])
              have e1 := hd 10 (by simp [waitYD])
              simp only [leaveYD, slotYD, Nat.reduceAdd, Array.getD_eq_getD_getElem?] at e0 e1
              have gs := hk.some_ (s := 17) (by omega) e0
              obtain ⟨c0, c1, c2⟩ := HKX.out _ hb
              go_simp
              exact hK _ _ (Below.refl _ _) rfl
            | 12, _ =>
              intro o ho a wc hk hb hd K hK
              cases ho
              have e0 := hd 7 (by simp [waitYD])
              have e1 := hd 11 (by simp [waitYD])
              simp only [leaveYD, slotYD, Nat.reduceAdd, Array.getD_eq_getD_getElem?] at e0 e1
              have gs := hk.some_ (s := 17) (by omega) e0
              go_simp
              refine (HRI.out _).mono ?_
              rintro e w3 ⟨rfl, hb3⟩
              exact hK _ _ hb3 rfl
            | 13, _ =>
              intro o ho a wc hk hb hd K hK
              cases ho
              have e0 := hd 7 (by simp [waitYD])
              have e1 := hd 12 (by simp [waitYD])
              simp only [leaveYD, slotYD, Nat.reduceAdd, Array.getD_eq_getD_getElem?] at e0 e1
              have gs := hk.some_ (s := 17) (by omega) e0
              go_simp
              exact hK _ _ (Below.refl _ _) rfl
            | 14, _ =>
              intro o ho a wc hk hb hd K hK
              cases ho
              have e0 := hd 7 (by simp [waitYD])
              have e1 := hd 13 (by simp [waitYD])
              simp only [leaveYD, slotYD, Nat.reduceAdd, Array.getD_eq_getD_getElem?] at e0 e1
              go_simp
              exact hK _ _ (Below.refl _ _) rfl
            | 15, _ =>
              intro o ho a wc hk hb hd K hK
              cases ho
              have e0 := hd 14 (by simp [waitYD])
              simp only [leaveYD, slotYD, Nat.reduceAdd, Array.getD_eq_getD_getElem?] at e0
              go_simp
              exact hK _ _ (Below.refl _ _) rfl
            | 16, _ =>
              intro o ho a wc hk hb hd K hK
              cases ho
              have e0 := hk.rest 3 (.int .i64 (k : Int)) (by omega) (by kernel_rfl) rfl
              rw [Array.getD_eq_getD_getElem?] at e0
              have e1 := hd 15 (by simp [waitYD])
              simp only [leaveYD, slotYD, Nat.reduceAdd, Array.getD_eq_getD_getElem?] at e1
              have gs := hk.some_ (s := 25) (by omega) e1
              go_simp
              exact hK _ _ (Below.refl _ _) rfl
            | 17, _ =>
              intro o ho a wc hk hb hd K hK
              cases ho
              have e0 := hd 15 (by simp [waitYD])
              have e1 := hd 16 (by simp [waitYD])
              simp only [leaveYD, slotYD, Nat.reduceAdd, Array.getD_eq_getD_getElem?] at e0 e1
              have gs := hk.some_ (s := 25) (by omega) e0
              have q := HKZ.out
              go_simp
              exact hK _ _ (Below.refl _ _) rfl
            | 18, _ =>
              intro o ho a wc hk hb hd K hK
              cases ho
              have e0 := hd 15 (by simp [waitYD])
              have e1 := hd 17 (by simp [waitYD])
              simp only [leaveYD, slotYD, Nat.reduceAdd, Array.getD_eq_getD_getElem?] at e0 e1
              have gs := hk.some_ (s := 25) (by omega) e0
              go_simp
              exact hK _ _ (Below.refl _ _) rfl
            | 19, _ =>
              intro o ho a wc hk hb hd K hK
              cases ho
              have e0 := hk.rest 0 (.slice (some ⟨b, o, none⟩) n c) (by omega) (by kernel_rfl) rfl
              rw [Array.getD_eq_getD_getElem?] at e0
              have e1 := hd 18 (by simp [waitYD])
              simp only [leaveYD, slotYD, Nat.reduceAdd, Array.getD_eq_getD_getElem?] at e1
              have gs := hk.some_ (s := 28) (by omega) e1
              go_simp
              exact hK _ _ (Below.refl _ _) rfl
            | 20, _ =>
              intro o ho a wc hk hb hd K hK
              cases ho
              have e0 := hk.rest 3 (.int .i64 (k : Int)) (by omega) (by kernel_rfl) rfl
              rw [Array.getD_eq_getD_getElem?] at e0
              have e1 := hd 18 (by simp [waitYD])
              simp only [leaveYD, slotYD, Nat.reduceAdd, Array.getD_eq_getD_getElem?] at e1
              have gs := hk.some_ (s := 28) (by omega) e1
              go_simp
              exact hK _ _ (Below.refl _ _) rfl
            | 21, _ =>
              intro o ho a wc hk hb hd K hK
              cases ho
              have e0 := hd 18 (by simp [waitYD])
              have e1 := hd 20 (by simp [waitYD])
              simp only [leaveYD, slotYD, Nat.reduceAdd, Array.getD_eq_getD_getElem?] at e0 e1
              have gs := hk.some_ (s := 28) (by omega) e0
              have q := HWJ.out
              go_simp
              exact hK _ _ (Below.refl _ _) rfl
            | 22, _ =>
              intro o ho a wc hk hb hd K hK
              cases ho
              have e0 := hd 18 (by simp [waitYD])
              have e1 := hd 19 (by simp [waitYD])
              have e2 := hd 21 (by simp [waitYD])
              simp only [leaveYD, slotYD, Nat.reduceAdd, Array.getD_eq_getD_getElem?] at e0 e1 e2
              have gs := hk.some_ (s := 28) (by omega) e0
              have q := HJN.out
              go_simp
              exact hK _ _ (Below.refl _ _) rfl
            | 23, _ =>
              intro o ho a wc hk hb hd K hK
              cases ho
              have e0 := hd 18 (by simp [waitYD])
              have e1 := hd 22 (by simp [waitYD])
              simp only [leaveYD, slotYD, Nat.reduceAdd, Array.getD_eq_getD_getElem?] at e0 e1
              have gs := hk.some_ (s := 28) (by omega) e0
              go_simp
              exact hK _ _ (Below.refl _ _) rfl
            | 24, _ =>
              intro o ho a wc hk hb hd K hK
              cases ho
              have e0 := hd 18 (by simp [waitYD])
              have e1 := hd 23 (by simp [waitYD])
              simp only [leaveYD, slotYD, Nat.reduceAdd, Array.getD_eq_getD_getElem?] at e0 e1
              have gs := hk.some_ (s := 28) (by omega) e0
              have c0 := HKY.out _ hb
              go_simp
              exact hK _ _ (Below.refl _ _) rfl
            | 25, _ =>
              intro o ho a wc hk hb hd K hK
              cases ho
              have e0 := hk.rest 0 (.slice (some ⟨b, o, none⟩) n c) (by omega) (by kernel_rfl) rfl
              rw [Array.getD_eq_getD_getElem?] at e0
              have e1 := hd 18 (by simp [waitYD])
              simp only [leaveYD, slotYD, Nat.reduceAdd, Array.getD_eq_getD_getElem?] at e1
              have gs := hk.some_ (s := 28) (by omega) e1
              go_simp
              exact hK _ _ (Below.refl _ _) rfl
            | 26, _ =>
              intro o ho a wc hk hb hd K hK
              cases ho
              have e0 := hk.rest 3 (.int .i64 (k : Int)) (by omega) (by kernel_rfl) rfl
              rw [Array.getD_eq_getD_getElem?] at e0
              have e1 := hd 18 (by simp [waitYD])
              simp only [leaveYD, slotYD, Nat.reduceAdd, Array.getD_eq_getD_getElem?] at e1
              have gs := hk.some_ (s := 28) (by omega) e1
              go_simp
              exact hK _ _ (Below.refl _ _) rfl
            | 27, _ =>
              intro o ho a wc hk hb hd K hK
              cases ho
              have e0 := hd 18 (by simp [waitYD])
              have e1 := hd 25 (by simp [waitYD])
              have e2 := hd 26 (by simp [waitYD])
              simp only [leaveYD, slotYD, Nat.reduceAdd, Array.getD_eq_getD_getElem?] at e0 e1 e2
              have gs := hk.some_ (s := 28) (by omega) e0
              go_simp
              exact hK _ _ (Below.refl _ _) rfl
            | 28, _ =>
              intro o ho a wc hk hb hd K hK
              cases ho
              have e0 := hd 18 (by simp [waitYD])
              have e1 := hd 27 (by simp [waitYD])
              simp only [leaveYD, slotYD, Nat.reduceAdd, Array.getD_eq_getD_getElem?] at e0 e1
              have gs := hk.some_ (s := 28) (by omega) e0
              go_simp
              exact hK _ _ (Below.refl _ _) rfl
            | 29, _ =>
              intro o ho a wc hk hb hd K hK
              cases ho
              have e0 := hd 18 (by simp [waitYD])
              have e1 := hd 28 (by simp [waitYD])
              simp only [leaveYD, slotYD, Nat.reduceAdd, Array.getD_eq_getD_getElem?] at e0 e1
              have gs := hk.some_ (s := 28) (by omega) e0
              obtain ⟨c0, c1, c2⟩ := HKX.out _ hb
              go_simp
              exact hK _ _ (Below.refl _ _) rfl
            | 30, _ =>
              intro o ho a wc hk hb hd K hK
              cases ho
              have e0 := hd 18 (by simp [waitYD])
              have e1 := hd 24 (by simp [waitYD])
              have e2 := hd 29 (by simp [waitYD])
              simp only [leaveYD, slotYD, Nat.reduceAdd, Array.getD_eq_getD_getElem?] at e0 e1 e2
              have gs := hk.some_ (s := 28) (by omega) e0
              go_simp
              refine (HOR.out _).mono ?_
              rintro e w3 ⟨rfl, hb3⟩
              exact hK _ _ hb3 rfl
            | 31, _ =>
              intro o ho a wc hk hb hd K hK
              cases ho
              have e0 := hd 18 (by simp [waitYD])
              have e1 := hd 30 (by simp [waitYD])
              simp only [leaveYD, slotYD, Nat.reduceAdd, Array.getD_eq_getD_getElem?] at e0 e1
              have gs := hk.some_ (s := 28) (by omega) e0
              go_simp
              exact hK _ _ (Below.refl _ _) rfl
            | 32, _ =>
              intro o ho a wc hk hb hd K hK
              cases ho
              have e0 := hd 15 (by simp [waitYD])
              have e1 := hd 18 (by simp [waitYD])
              have e2 := hd 31 (by simp [waitYD])
              simp only [leaveYD, slotYD, Nat.reduceAdd, Array.getD_eq_getD_getElem?] at e0 e1 e2
              have gs := hk.some_ (s := 25) (by omega) e0
              go_simp
              exact hK _ _ (Below.refl _ _) rfl
            | _ + 33, h => exact absurd h (by omega)
          · intro vals w5 hb hR
            have v0 := hR 0 (by omega)
            have v1 := hR 1 (by omega)
            have v2 := hR 2 (by omega)
            have v3 := hR 3 (by omega)
            have v4 := hR 4 (by omega)
            have v5 := hR 5 (by omega)
            have v6 := hR 6 (by omega)
            have v7 := hR 7 (by omega)
            have v8 := hR 8 (by omega)
            have v9 := hR 9 (by omega)
            have v10 := hR 10 (by omega)
            have v11 := hR 11 (by omega)
            have v12 := hR 12 (by omega)
            have v13 := hR 13 (by omega)
            have v14 := hR 14 (by omega)
            have v15 := hR 15 (by omega)
            have v16 := hR 16 (by omega)
            have v17 := hR 17 (by omega)
            have v18 := hR 18 (by omega)
            have v19 := hR 19 (by omega)
            have v20 := hR 20 (by omega)
            have v21 := hR 21 (by omega)
            have v22 := hR 22 (by omega)
            have v23 := hR 23 (by omega)
            have v24 := hR 24 (by omega)
            have v25 := hR 25 (by omega)
            have v26 := hR 26 (by omega)
            have v27 := hR 27 (by omega)
            have v28 := hR 28 (by omega)
            have v29 := hR 29 (by omega)
            have v30 := hR 30 (by omega)
            have v31 := hR 31 (by omega)
            have v32 := hR 32 (by omega)
            simp only [leaveYD] at v0 v1 v2 v3 v4 v5 v6 v7 v8 v9 v10 v11 v12 v13 v14 v15 v16 v17 v18 v19 v20 v21 v22 v23 v24 v25 v26 v27 v28 v29 v30 v31 v32
            clear hR
            simp only [putAll, slotYD, Nat.reduceAdd, List.setIfInBounds_toArray, List.set_cons_zero, List.set_cons_succ, List.drop_succ_cons, List.drop_zero, v0, v1, v2, v3, v4, v5, v6, v7, v8, v9, v10, v11, v12, v13, v14, v15, v16, v17, v18, v19, v20, v21, v22, v23, v24, v25, v26, v27, v28, v29, v30, v31, v32]
            clear v0 v1 v2 v3 v4 v5 v6 v7 v8 v9 v10 v11 v12 v13 v14 v15 v16 v17 v18 v19 v20 v21 v22 v23 v24 v25 v26 v27 v28 v29 v30 v31 v32
            have HB5 := Lib.hid (HB.out.trans (hb.mono HB.out.size))
            clear hb
            go_wp2
            go_roundw
            case rel => exact ⟨k + 1, by omega, by go_num, HU', HB5⟩
            case measure => simp [intOf]; omega
        · have hm0 : m = false := by
            rw [← HM.out]
            have h := HX.out
            rw [hkj] at h
            exact upE_swap HY.out h (by show ¬ ordT ey.name x = -1; rw [hy1, hr]; exact hr1)
          subst hm0
          have hkn : (0 : Int) < (k : Int) := by omega
          have HKZ : Hid (0 < k) := show 0 < k by omega
          have HJN : Hid (j < n) := show j < n by omega
          have HWJ : Hid (IntKind.i64.wrap (j : Int) = (j : Int)) := wrap_i64 (by omega)
          have hjk : ((k : Int) - 1) = (j : Int) := by omega
          have HRQ : Hid ((r != -1) = true) := by show _ = _; simp [hr1]
          clear hy hy1 hr hk hr1 hkj
          go_wp2_with fail
          refine wp_region_tail (by kernel_rfl) 33 47 slotYE waitYE (leaveYE b o n c k j x y q t r) rfl
            (by kernel_rfl) (fun i v w w' _ _ h => by unfold leaveYE at *; split at h <;> exact h) ?_ ?_
          · intro i hi
            match i, hi with
            | 0, _ =>
              intro o ho a wc hk hb hd K hK
              cases ho
              have e0 := hk.rest 0 (.slice (some ⟨b, o, none⟩) n c) (by omega) (by kernel_rfl) rfl
              rw [Array.getD_eq_getD_getElem?] at e0
              go_simp
              exact hK _ _ (Below.refl _ _) rfl
            | 1, _ =>
              intro o ho a wc hk hb hd K hK
              cases ho
              have e0 := hk.rest 3 (.int .i64 (k : Int)) (by omega) (by kernel_rfl) rfl
              rw [Array.getD_eq_getD_getElem?] at e0
              go_simp
              exact hK _ _ (Below.refl _ _) rfl
            | 2, _ =>
              intro o ho a wc hk hb hd K hK
              cases ho
              have e0 := hd 0 (by simp [waitYE])
              have e1 := hd 1 (by simp [waitYE])
              simp only [leaveYE, slotYE, Nat.reduceAdd, Array.getD_eq_getD_getElem?] at e0 e1
              go_simp
              exact hK _ _ (Below.refl _ _) rfl
            | 3, _ =>
              intro o ho a wc hk hb hd K hK
              cases ho
              have e0 := hd 2 (by simp [waitYE])
              simp only [leaveYE, slotYE, Nat.reduceAdd, Array.getD_eq_getD_getElem?] at e0
              go_simp
              exact hK _ _ (Below.refl _ _) rfl
            | 4, _ =>
              intro o ho a wc hk hb hd K hK
              cases ho
              have e0 := hd 3 (by simp [waitYE])
              simp only [leaveYE, slotYE, Nat.reduceAdd, Array.getD_eq_getD_getElem?] at e0
              obtain ⟨c0, c1, c2⟩ := HKX.out _ hb
              go_simp
              exact hK _ _ (Below.refl _ _) rfl
            | 5, _ =>
              intro o ho a wc hk hb hd K hK
              cases ho
              have e0 := hd 4 (by simp [waitYE])
              simp only [leaveYE, slotYE, Nat.reduceAdd, Array.getD_eq_getD_getElem?] at e0
              go_simp
              refine (HIS.out _).mono ?_
              rintro e w3 ⟨rfl, hb3⟩
              exact hK _ _ hb3 rfl
            | 6, _ =>
              intro o ho a wc hk hb hd K hK
              cases ho
              have e0 := hd 5 (by simp [waitYE])
              simp only [leaveYE, slotYE, Nat.reduceAdd, Array.getD_eq_getD_getElem?] at e0
              go_simp
              exact hK _ _ (Below.refl _ _) rfl
            | 7, _ =>
              intro o ho a wc hk hb hd K hK
              cases ho
              have e0 := hd 6 (by simp [waitYE])
              simp only [leaveYE, slotYE, Nat.reduceAdd, Array.getD_eq_getD_getElem?] at e0
              go_simp
              exact hK _ _ (Below.refl _ _) rfl
            | 8, _ =>
              intro o ho a wc hk hb hd K hK
              cases ho
              have e0 := hk.rest 0 (.slice (some ⟨b, o, none⟩) n c) (by omega) (by kernel_rfl) rfl
              rw [Array.getD_eq_getD_getElem?] at e0
              have e1 := hd 7 (by simp [waitYE])
              simp only [leaveYE, slotYE, Nat.reduceAdd, Array.getD_eq_getD_getElem?] at e1
              have gs := hk.some_ (s := 17) (by omega) e1
              go_simp
              exact hK _ _ (Below.refl _ _) rfl
            | 9, _ =>
              intro o ho a wc hk hb hd K hK
              cases ho
              have e0 := hk.rest 3 (.int .i64 (k : Int)) (by omega) (by kernel_rfl) rfl
              rw [Array.getD_eq_getD_getElem?] at e0
              have e1 := hd 7 (by simp [waitYE])
              simp only [leaveYE, slotYE, Nat.reduceAdd, Array.getD_eq_getD_getElem?] at e1
              have gs := hk.some_ (s := 17) (by omega) e1
              go_simp
              exact hK _ _ (Below.refl _ _) rfl
            | 10, _ =>
              intro o ho a wc hk hb hd K hK
              cases ho
              have e0 := hd 7 (by simp [waitYE])
              have e1 := hd 8 (by simp [waitYE])
              have e2 := hd 9 (by simp [waitYE])
              simp only [leaveYE, slotYE, Nat.reduceAdd, Array.getD_eq_getD_getElem?] at e0 e1 e2
              have gs := hk.some_ (s := 17) (by omega) e0
              go_simp
              exact hK _ _ (Below.refl _ _) rfl
            | 11, _ =>
              intro o ho a wc hk hb hd K hK
              cases ho
              have e0 := hd 7 (by simp [waitYE])
              have e1 := hd 10 (by simp [waitYE])
              simp only [leaveYE, slotYE, Nat.reduceAdd, Array.getD_eq_getD_getElem?] at e0 e1
              have gs := hk.some_ (s := 17) (by omega) e0
              obtain ⟨c0, c1, c2⟩ := HKX.out _ hb
              go_simp
              exact hK _ _ (Below.refl _ _) rfl
            | 12, _ =>
              intro o ho a wc hk hb hd K hK
              cases ho
              have e0 := hd 7 (by simp [waitYE])
              have e1 := hd 11 (by simp [waitYE])
              simp only [leaveYE, slotYE, Nat.reduceAdd, Array.getD_eq_getD_getElem?] at e0 e1
              have gs := hk.some_ (s := 17) (by omega) e0
              go_simp
              refine (HRI.out _).mono ?_
              rintro e w3 ⟨rfl, hb3⟩
              exact hK _ _ hb3 rfl
            | 13, _ =>
              intro o ho a wc hk hb hd K hK
              cases ho
              have e0 := hd 7 (by simp [waitYE])
              have e1 := hd 12 (by simp [waitYE])
              simp only [leaveYE, slotYE, Nat.reduceAdd, Array.getD_eq_getD_getElem?] at e0 e1
              have gs := hk.some_ (s := 17) (by omega) e0
              go_simp
              exact hK _ _ (Below.refl _ _) rfl
            | 14, _ =>
              intro o ho a wc hk hb hd K hK
              cases ho
              have e0 := hd 7 (by simp [waitYE])
              have e1 := hd 13 (by simp [waitYE])
              simp only [leaveYE, slotYE, Nat.reduceAdd, Array.getD_eq_getD_getElem?] at e0 e1
              go_simp
              exact hK _ _ (Below.refl _ _) rfl
            | 15, _ =>
              intro o ho a wc hk hb hd K hK
              cases ho
              have e0 := hd 14 (by simp [waitYE])
              simp only [leaveYE, slotYE, Nat.reduceAdd, Array.getD_eq_getD_getElem?] at e0
              go_simp
              exact hK _ _ (Below.refl _ _) rfl
            | 16, _ =>
              intro o ho a wc hk hb hd K hK
              cases ho
              have e0 := hk.rest 3 (.int .i64 (k : Int)) (by omega) (by kernel_rfl) rfl
              rw [Array.getD_eq_getD_getElem?] at e0
              have e1 := hd 15 (by simp [waitYE])
              simp only [leaveYE, slotYE, Nat.reduceAdd, Array.getD_eq_getD_getElem?] at e1
              have gs := hk.some_ (s := 25) (by omega) e1
              go_simp
              exact hK _ _ (Below.refl _ _) rfl
            | 17, _ =>
              intro o ho a wc hk hb hd K hK
              cases ho
              have e0 := hd 15 (by simp [waitYE])
              have e1 := hd 16 (by simp [waitYE])
              simp only [leaveYE, slotYE, Nat.reduceAdd, Array.getD_eq_getD_getElem?] at e0 e1
              have gs := hk.some_ (s := 25) (by omega) e0
              have q := HKZ.out
              go_simp
              exact hK _ _ (Below.refl _ _) rfl
            | 18, _ =>
              intro o ho a wc hk hb hd K hK
              cases ho
              have e0 := hd 15 (by simp [waitYE])
              have e1 := hd 17 (by simp [waitYE])
              simp only [leaveYE, slotYE, Nat.reduceAdd, Array.getD_eq_getD_getElem?] at e0 e1
              have gs := hk.some_ (s := 25) (by omega) e0
              go_simp
              exact hK _ _ (Below.refl _ _) rfl
            | 19, _ =>
              intro o ho a wc hk hb hd K hK
              cases ho
              have e0 := hk.rest 0 (.slice (some ⟨b, o, none⟩) n c) (by omega) (by kernel_rfl) rfl
              rw [Array.getD_eq_getD_getElem?] at e0
              have e1 := hd 18 (by simp [waitYE])
              simp only [leaveYE, slotYE, Nat.reduceAdd, Array.getD_eq_getD_getElem?] at e1
              have gs := hk.some_ (s := 28) (by omega) e1
              go_simp
              exact hK _ _ (Below.refl _ _) rfl
            | 20, _ =>
              intro o ho a wc hk hb hd K hK
              cases ho
              have e0 := hk.rest 3 (.int .i64 (k : Int)) (by omega) (by kernel_rfl) rfl
              rw [Array.getD_eq_getD_getElem?] at e0
              have e1 := hd 18 (by simp [waitYE])
              simp only [leaveYE, slotYE, Nat.reduceAdd, Array.getD_eq_getD_getElem?] at e1
              have gs := hk.some_ (s := 28) (by omega) e1
              go_simp
              exact hK _ _ (Below.refl _ _) rfl
            | 21, _ =>
              intro o ho a wc hk hb hd K hK
              cases ho
              have e0 := hd 18 (by simp [waitYE])
              have e1 := hd 20 (by simp [waitYE])
              simp only [leaveYE, slotYE, Nat.reduceAdd, Array.getD_eq_getD_getElem?] at e0 e1
              have gs := hk.some_ (s := 28) (by omega) e0
              have q := HWJ.out
              go_simp
              exact hK _ _ (Below.refl _ _) rfl
            | 22, _ =>
              intro o ho a wc hk hb hd K hK
              cases ho
              have e0 := hd 18 (by simp [waitYE])
              have e1 := hd 19 (by simp [waitYE])
              have e2 := hd 21 (by simp [waitYE])
              simp only [leaveYE, slotYE, Nat.reduceAdd, Array.getD_eq_getD_getElem?] at e0 e1 e2
              have gs := hk.some_ (s := 28) (by omega) e0
              have q := HJN.out
              go_simp
              exact hK _ _ (Below.refl _ _) rfl
            | 23, _ =>
              intro o ho a wc hk hb hd K hK
              cases ho
              have e0 := hd 18 (by simp [waitYE])
              have e1 := hd 22 (by simp [waitYE])
              simp only [leaveYE, slotYE, Nat.reduceAdd, Array.getD_eq_getD_getElem?] at e0 e1
              have gs := hk.some_ (s := 28) (by omega) e0
              go_simp
              exact hK _ _ (Below.refl _ _) rfl
            | 24, _ =>
              intro o ho a wc hk hb hd K hK
              cases ho
              have e0 := hd 18 (by simp [waitYE])
              have e1 := hd 23 (by simp [waitYE])
              simp only [leaveYE, slotYE, Nat.reduceAdd, Array.getD_eq_getD_getElem?] at e0 e1
              have gs := hk.some_ (s := 28) (by omega) e0
              have c0 := HKY.out _ hb
              go_simp
              exact hK _ _ (Below.refl _ _) rfl
            | 25, _ =>
              intro o ho a wc hk hb hd K hK
              cases ho
              have e0 := hk.rest 0 (.slice (some ⟨b, o, none⟩) n c) (by omega) (by kernel_rfl) rfl
              rw [Array.getD_eq_getD_getElem?] at e0
              have e1 := hd 18 (by simp [waitYE])
              simp only [leaveYE, slotYE, Nat.reduceAdd, Array.getD_eq_getD_getElem?] at e1
              have gs := hk.some_ (s := 28) (by omega) e1
              go_simp
              exact hK _ _ (Below.refl _ _) rfl
            | 26, _ =>
              intro o ho a wc hk hb hd K hK
              cases ho
              have e0 := hk.rest 3 (.int .i64 (k : Int)) (by omega) (by kernel_rfl) rfl
              rw [Array.getD_eq_getD_getElem?] at e0
              have e1 := hd 18 (by simp [waitYE])
              simp only [leaveYE, slotYE, Nat.reduceAdd, Array.getD_eq_getD_getElem?] at e1
              have gs := hk.some_ (s := 28) (by omega) e1
              go_simp
              exact hK _ _ (Below.refl _ _) rfl
            | 27, _ =>
              intro o ho a wc hk hb hd K hK
              cases ho
              have e0 := hd 18 (by simp [waitYE])
              have e1 := hd 25 (by simp [waitYE])
              have e2 := hd 26 (by simp [waitYE])
              simp only [leaveYE, slotYE, Nat.reduceAdd, Array.getD_eq_getD_getElem?] at e0 e1 e2
              have gs := hk.some_ (s := 28) (by omega) e0
              go_simp
              exact hK _ _ (Below.refl _ _) rfl
            | 28, _ =>
              intro o ho a wc hk hb hd K hK
              cases ho
              have e0 := hd 18 (by simp [waitYE])
              have e1 := hd 27 (by simp [waitYE])
              simp only [leaveYE, slotYE, Nat.reduceAdd, Array.getD_eq_getD_getElem?] at e0 e1
              have gs := hk.some_ (s := 28) (by omega) e0
              go_simp
              exact hK _ _ (Below.refl _ _) rfl
            | 29, _ =>
              intro o ho a wc hk hb hd K hK
              cases ho
              have e0 := hd 18 (by simp [waitYE])
              have e1 := hd 28 (by simp [waitYE])
              simp only [leaveYE, slotYE, Nat.reduceAdd, Array.getD_eq_getD_getElem?] at e0 e1
              have gs := hk.some_ (s := 28) (by omega) e0
              obtain ⟨c0, c1, c2⟩ := HKX.out _ hb
              go_simp
              exact hK _ _ (Below.refl _ _) rfl
            | 30, _ =>
              intro o ho a wc hk hb hd K hK
              cases ho
              have e0 := hd 18 (by simp [waitYE])
              have e1 := hd 24 (by simp [waitYE])
              have e2 := hd 29 (by simp [waitYE])
              simp only [leaveYE, slotYE, Nat.reduceAdd, Array.getD_eq_getD_getElem?] at e0 e1 e2
              have gs := hk.some_ (s := 28) (by omega) e0
              go_simp
              refine (HOR.out _).mono ?_
              rintro e w3 ⟨rfl, hb3⟩
              exact hK _ _ hb3 rfl
            | 31, _ =>
              intro o ho a wc hk hb hd K hK
              cases ho
              have e0 := hd 18 (by simp [waitYE])
              have e1 := hd 30 (by simp [waitYE])
              simp only [leaveYE, slotYE, Nat.reduceAdd, Array.getD_eq_getD_getElem?] at e0 e1
              have gs := hk.some_ (s := 28) (by omega) e0
              have q := HRQ.out
              go_simp
              exact hK _ _ (Below.refl _ _) rfl
            | 32, _ =>
              intro o ho a wc hk hb hd K hK
              cases ho
              have e0 := hd 15 (by simp [waitYE])
              have e1 := hd 18 (by simp [waitYE])
              have e2 := hd 31 (by simp [waitYE])
              simp only [leaveYE, slotYE, Nat.reduceAdd, Array.getD_eq_getD_getElem?] at e0 e1 e2
              have gs := hk.some_ (s := 25) (by omega) e0
              go_simp
              exact hK _ _ (Below.refl _ _) rfl
            | _ + 33, h => exact absurd h (by omega)
          · intro vals w5 hb hR
            have v0 := hR 0 (by omega)
            have v1 := hR 1 (by omega)
            have v2 := hR 2 (by omega)
            have v3 := hR 3 (by omega)
            have v4 := hR 4 (by omega)
            have v5 := hR 5 (by omega)
            have v6 := hR 6 (by omega)
            have v7 := hR 7 (by omega)
            have v8 := hR 8 (by omega)
            have v9 := hR 9 (by omega)
            have v10 := hR 10 (by omega)
            have v11 := hR 11 (by omega)
            have v12 := hR 12 (by omega)
            have v13 := hR 13 (by omega)
            have v14 := hR 14 (by omega)
            have v15 := hR 15 (by omega)
            have v16 := hR 16 (by omega)
            have v17 := hR 17 (by omega)
            have v18 := hR 18 (by omega)
            have v19 := hR 19 (by omega)
            have v20 := hR 20 (by omega)
            have v21 := hR 21 (by omega)
            have v22 := hR 22 (by omega)
            have v23 := hR 23 (by omega)
            have v24 := hR 24 (by omega)
            have v25 := hR 25 (by omega)
            have v26 := hR 26 (by omega)
            have v27 := hR 27 (by omega)
            have v28 := hR 28 (by omega)
            have v29 := hR 29 (by omega)
            have v30 := hR 30 (by omega)
            have v31 := hR 31 (by omega)
            have v32 := hR 32 (by omega)
            simp only [leaveYE] at v0 v1 v2 v3 v4 v5 v6 v7 v8 v9 v10 v11 v12 v13 v14 v15 v16 v17 v18 v19 v20 v21 v22 v23 v24 v25 v26 v27 v28 v29 v30 v31 v32
            clear hR
            simp only [putAll, slotYE, Nat.reduceAdd, List.setIfInBounds_toArray, List.set_cons_zero, List.set_cons_succ, List.drop_succ_cons, List.drop_zero, v0, v1, v2, v3, v4, v5, v6, v7, v8, v9, v10, v11, v12, v13, v14, v15, v16, v17, v18, v19, v20, v21, v22, v23, v24, v25, v26, v27, v28, v29, v30, v31, v32]
            clear v0 v1 v2 v3 v4 v5 v6 v7 v8 v9 v10 v11 v12 v13 v14 v15 v16 v17 v18 v19 v20 v21 v22 v23 v24 v25 v26 v27 v28 v29 v30 v31 v32
            go_wp2
            go_ret
            exact ⟨rfl, HB.out.trans (hb.mono HB.out.size)⟩
    · obtain rfl : k = n := by omega
      have hm1 := upE_all HU.out HL.out
      rw [HM.out] at hm1
      go_wp2
      go_ret
      exact ⟨ret_bool (by rw [hm1]; congr 1; exact propext (by omega)), HB.out⟩
end Go.Proofs.Ytgboccepgbeihaa
