/-
  Crash, New, Waits, and the statements' own blocks of one octet.
-/
import Derived.Test.YtpjdnbmeedcafaaDev7
namespace Go.Proofs.Ytpjdnbmeedcafaa
open Go.RowKit Go.Maps
set_option linter.unusedVariables false

def crashD (D : Dv) (far : List Int) : Dv := { execD D (farN far) with pow := false }
theorem Crash_any {base sb bb mb : Nat} {pv : Value} {D : Dv} (A : Option Addr) (n c B : Nat) (far : List Int) (w : World) (h : DevAt w base sb bb mb pv D) (hpl : D.pend.length ≤ 1000) (hn : far.length = n)
    (hr : ∀ w', Fr (Foot sb bb mb pv) w w' → Rd w' B A (far.map iv)) :
    Calls Try.prog 19 #[.pointer (some ⟨sb, 0, none⟩), .slice A n c] w fun e w' => e = .returned (.tuple #[]) ∧ ∃ pv', Turn base sb bb mb w pv w' pv' (crashD D far) := by
  obtain ⟨w1, hw1⟩ : ∃ w1, w.alloc (.cells #[.slice A n c] 30) = w1 := ⟨_, rfl⟩
  have hb1 : Below w.heap.size w w1 := by rw [← hw1]; exact (Below.refl _ _).alloc (Nat.le_refl _) _
  have hbk : Bk w1 w.heap.size 30 #[.slice A n c] := by rw [← hw1]; exact Bk.new _ _ _
  have hd1 := h.up hb1
  have hoff := hd1.off hbk (by decide) (by decide) (by decide)
  have HEX := Lib.hid (execute_any 41 (fun _ _ => rfl) #[.pointer (some ⟨w.heap.size, 0, none⟩)] (farN far) w1 hd1 (farN_le far) hpl (fun k hk w' hf => crash_closure k w.heap.size n c A B far w' ((hf.bk hbk hoff).cell 0) hn (hr w' ((Fr.of_below (S := Foot sb bb mb pv) hb1).trans hf fun k hk => .inl hk)) (by omega)))
  have HW1 := Lib.hid hw1
  have HB1 := Lib.hid hb1
  clear h hpl hr hb1 hbk hd1 hoff hw1
  go_enter Try.func19, Try.ntmps19
  go_wp2_with fail
  rw [HW1.out]
  refine HEX.out.mono ?_
  rintro e w2 ⟨rfl, pv2, ht⟩
  have HT2 := Lib.hid ht
  have c4 := ht.dev.c4
  have f4 := ht.dev.fz 4
  clear ht
  go_wp2
  go_end0
  exact ⟨rfl, pv2, Turn.pre HB1.out (HT2.out.trans (HT2.out.dev.put (D' := crashD D far) 4 (.bool false) (by omega) (HT2.out.dev.ok.pows _) rfl rfl rfl rfl rfl rfl))⟩

/-! ### New -/
def newD (n : Nat) : Dv := { n := n, has := fun _ => List.replicate 128 0, pend := [], flt := fun _ => 0, bud := -1, pow := true, mnt := true, cnt := 0 }
theorem newD_ok {n : Nat} (h1 : 1 ≤ n) (h2 : n ≤ 8192) : (newD n).Ok := ⟨h1, h2, fun _ => by simp [newD], fun p hp => (nomatch hp), fun _ => by simp [newD], by simp [newD]⟩
theorem New_no (n : Int) (w : World) (h : n < 1 ∨ 8192 < n) : Calls Try.prog 8 #[.int .i64 n] w fun e w' => e = .returned (.tuple #[.pointer none, .int .i64 1]) ∧ w = w' := by
  by_cases h1 : n < 1
  · clear h
    have hd : decide (n < 1) = true := by simpa using h1
    go_enter Try.func8, Try.ntmps8
    go_wp2
    go_ret2
    exact ⟨rfl, rfl⟩
  · have h2 : 8192 < n := by omega
    have hd : decide (n < 1) = false := by simp; omega
    clear h
    go_enter Try.func8, Try.ntmps8
    go_wp2
    go_ret2
    exact ⟨rfl, rfl⟩
theorem info_block3 : (Try.prog.info? 67).map (fun i => (i.zero, i.size, i.bytes)) = some (some (.agg (List.replicate 128 (.int .u8 0)).toArray), 128, 128) := by kernel_rfl
theorem make_blocks (n : Nat) (h2 : n ≤ 8192) : ∃ X : Array Value, Is128 n (fun _ => List.replicate 128 0) X ∧ ∀ w : World, (Instr.makeSlice 58 (.int .i64 (n : Int)) (.int .i64 (n : Int))).run Try.prog w = .ok (.slice (some ⟨w.heap.size, 0, none⟩) n n) (w.alloc (.cells X 67)) := by
  obtain ⟨i0, hi0, hib⟩ := Option.map_eq_some_iff.1 info_block3
  simp only [Prod.mk.injEq] at hib
  obtain ⟨hz, hs, hb⟩ := hib
  obtain ⟨m, hm⟩ : ∃ m, m = 128 := ⟨_, rfl⟩
  rw [← hm] at hz hs
  refine ⟨madeCells (List.replicate m (.int .u8 0)).toArray (n * m), ?_, fun w => ?_⟩
  · have hat : ∀ j, j < n * m → (madeCells (List.replicate m (.int .u8 0)).toArray (n * m))[j]? = some (.int .u8 0) := fun j hj => by
      have : j % m < m := Nat.mod_lt _ (by omega)
      simp [madeCells, hj, this]
    refine ⟨by simp [madeCells, hm], fun i hi j v hv => ?_⟩
    have hj : j < 128 := by have := (List.getElem?_eq_some_iff.1 hv).1; simpa using this
    rw [hat _ (by rw [hm]; omega)]
    rw [List.getElem?_map, List.getElem?_replicate, if_pos hj] at hv
    exact hv
  · have := run_make (P := Try.prog) w 58 67 i0 _ under_blocks hi0 hz .i64 .i64 (n : Int) (n : Int) (by omega) (Int.le_refl _) (by rw [hb]; omega) (by omega)
    simp only [Int.toNat_natCast, hs] at this
    exact this
theorem New_yes (n : Nat) (w : World) (h1 : 1 ≤ n) (h2 : n ≤ 8192) : Calls Try.prog 8 #[.int .i64 n] w fun e w' => ∃ sb bb mb, e = .returned (.tuple #[.pointer (some ⟨sb, 0, none⟩), .int .i64 0]) ∧ DevAt w' w.heap.size sb bb mb (.slice none 0 0) (newD n) ∧ Below w.heap.size w w' := by
  obtain ⟨X, hX, hmk⟩ := make_blocks n h2
  have HX := Lib.hid hX
  have hmm := @run_makeMap Try.prog
  have hd1 : decide ((n : Int) < 1) = false := by simp; omega
  have hd2 : decide ((n : Int) > 8192) = false := by simp; omega
  clear hX
  go_enter Try.func8, Try.ntmps8
  go_wp2
  go_ret2
  obtain ⟨wa, hwa⟩ : ∃ wa, w.alloc (.cells X 67) = wa := ⟨_, rfl⟩
  rw [hwa]
  have sa : wa.heap.size = w.heap.size + 1 := by rw [← hwa]; simp
  have ba : Bk wa w.heap.size 67 X := by rw [← hwa]; exact Bk.new _ _ _
  have la : Below w.heap.size w wa := by rw [← hwa]; exact (Below.refl _ _).alloc (Nat.le_refl _) _
  obtain ⟨wb, hwb⟩ : ∃ wb, wa.alloc (.map #[] 0) = wb := ⟨_, rfl⟩
  rw [hwb]
  have sbz : wb.heap.size = w.heap.size + 1 + 1 := by rw [← hwb]; simp [sa]
  have bbk : Bk wb w.heap.size 67 X := by rw [← hwb]; exact ba.alloc _
  have lb : Below w.heap.size w wb := by rw [← hwb]; exact la.alloc (by omega) _
  have mbk : wb.ownsMap (H := Unit) Try.prog 3 (plainElem Try.prog 3) (w.heap.size + 1) 0 (.map []) := by
    rw [← hwb, ← sa]; exact World.ownsMap_made _ _ _ _
  obtain ⟨cs, hcs⟩ : ∃ cs : Array Value, cs = #[Value.slice (some { block := w.heap.size, off := 0 }) n n, Value.slice none 0 0, Value.map (some (w.heap.size + 1)), Value.int IntKind.i64 (-1), Value.bool true, Value.bool true] := ⟨_, rfl⟩
  rw [← hcs]
  refine ⟨w.heap.size + 1 + 1, w.heap.size, w.heap.size + 1, rfl, ⟨newD_ok h1 h2, ?_, ⟨X, bbk.alloc _, HX.out⟩, World.ownsRow_nil _ _ _ _, ⟨.map [], mbk.alloc _, fun i => rfl⟩, by omega, by omega, by omega⟩, lb.alloc (by omega) _⟩
  rw [← sbz]
  have := Bk.new wb 62 cs
  rw [hcs] at this ⊢
  exact this

/-! ### a block of one octet -/
def cells128 : Array Value := (List.replicate 128 (.int .u8 0)).toArray
theorem make128 (w : World) : (Instr.makeSlice 33 (.int .i64 128) (.int .i64 128)).run Try.prog w = .ok (.slice (some ⟨w.heap.size, 0, none⟩) 128 128) (w.alloc (.cells cells128 5)) := by kernel_rfl
def partAll (c : UInt8) (k : Nat) : List Value := List.replicate k (bv c) ++ List.replicate (128 - k) (.int .u8 0)
theorem partAll_set (c : UInt8) (k : Nat) (h : k < 128) : (partAll c k).toArray.setIfInBounds k (bv c) = (partAll c (k + 1)).toArray := by
  apply Array.ext_getElem?
  intro j
  unfold partAll
  rw [Array.getElem?_setIfInBounds]
  simp only [List.size_toArray, List.length_append, List.length_replicate, List.getElem?_toArray, List.getElem?_append, List.getElem?_replicate]
  by_cases h1 : k = j
  · subst h1
    simp only [if_true]
    rw [if_pos (by omega), if_pos (by omega)]
    simp
  · rw [if_neg h1]
    by_cases h2 : j < k
    · rw [if_pos h2, if_pos h2, if_pos (by omega), if_pos (by omega)]
    · rw [if_neg h2, if_neg (show ¬ j < k + 1 by omega)]
      by_cases h3 : j < 128
      · rw [if_pos (by omega), if_pos (by omega)]
      · rw [if_neg (by omega), if_neg (by omega)]
def allOf (c : UInt8) : List UInt8 := List.replicate 128 c
theorem allOf_length (c : UInt8) : (allOf c).length = 128 := by simp [allOf]
set_option maxRecDepth 100000 in
theorem All_any (c : UInt8) (w : World) : Calls Try.prog 11 #[.int .u8 (c.toNat : Int)] w fun e w' => e = .returned (.slice (some ⟨w.heap.size, 0, none⟩) 128 128) ∧ Bk w' w.heap.size 5 ((allOf c).map bv).toArray ∧ Below w.heap.size w w' ∧ w'.heap.size = w.heap.size + 1 := by
  have hmk := make128 w
  obtain ⟨z, hz⟩ : ∃ z, z = bv c := ⟨_, rfl⟩
  have HZ := Lib.hid hz
  have hzz : Value.int .u8 (c.toNat : Int) = z := by rw [hz]; rfl
  have h1 : z.oneCell' = true := by rw [hz]; rfl
  obtain ⟨ci, hci⟩ : ∃ ci : Int, (c.toNat : Int) = ci := ⟨_, rfl⟩
  have hzi : z = .int .u8 ci := by rw [hz, bv, hci]
  have HZI := Lib.hid hzi
  rw [hci]
  clear hz hzz hzi h1 hci
  go_enter Try.func11, Try.ntmps11
  go_wp2_with fail
  have HB0 : Hid (Bk (w.alloc (.cells cells128 5)) w.heap.size 5 (partAll c 0).toArray) := by show Bk _ _ _ _; exact Bk.new _ _ _
  have HL0 : Hid (Below w.heap.size w (w.alloc (.cells cells128 5))) := (Below.refl _ _).alloc (Nat.le_refl _) _
  have HZ0 : Hid ((w.alloc (.cells cells128 5)).heap.size = w.heap.size + 1) := by show _ = _; simp
  clear hmk
  go_loopw [4] (fun x wr => ∃ k : Nat, k ≤ 128 ∧ x = .int .i64 (k : Int) ∧ Hid (Bk wr w.heap.size 5 (partAll c k).toArray) ∧ Hid (Below w.heap.size w wr) ∧ Hid (wr.heap.size = w.heap.size + 1)) (fun x _ => 128 - (intOf x).toNat)
  case atStart => exact ⟨0, by omega, rfl, HB0, HL0, HZ0⟩
  case round =>
    clear HB0 HL0 HZ0
    obtain ⟨k, hk, rfl, HB, HL, HSZ⟩ := hrel
    by_cases hlt : k < 128
    · have hc := HB.out.cell k
      have hf := HB.out.free k
      obtain ⟨old, hold⟩ : ∃ old, (partAll c k).toArray[k]? = some old := ⟨_, Array.getElem?_eq_getElem (by simp [partAll]; omega)⟩
      rw [hold] at hc
      have HB2 : Hid (Bk (wr.setCell ⟨w.heap.size, k, none⟩ (.int .u8 ci)) w.heap.size 5 (partAll c (k + 1)).toArray) := by
        show Bk _ _ _ _
        rw [← partAll_set c k hlt, ← HZI.out, HZ.out]
        exact HB.out.set_ k _
      have HL2 : Hid (Below w.heap.size w (wr.setCell ⟨w.heap.size, k, none⟩ (.int .u8 ci))) := HL.out.setCell (Nat.le_refl _) _
      have HSZ2 : Hid ((wr.setCell ⟨w.heap.size, k, none⟩ (.int .u8 ci)).heap.size = w.heap.size + 1) := by show _ = _; rw [World.setCell_size']; exact HSZ.out
      clear hold
      go_wp2_with fail
      go_roundw
      case rel => exact ⟨k + 1, by omega, by go_num, HB2, HL2, HSZ2⟩
      case measure => simp [intOf]; omega
    · obtain rfl : k = 128 := by omega
      go_wp2_with fail
      go_ret
      refine ⟨rfl, ?_, HL.out, HSZ.out⟩
      have := HB.out
      have e : (partAll c 128).toArray = ((allOf c).map bv).toArray := by unfold partAll allOf; simp
      rw [e] at this
      exact this
end Go.Proofs.Ytpjdnbmeedcafaa
