/-
  The statements' own examples of layer 4: they come out true.
-/
import Derived.Test.YtpjdnbmeedcafaaDev9
import Derived.Test.YtpjdnbmeedcafaaRegSt
namespace Go.Proofs.Ytpjdnbmeedcafaa
open Go.RowKit Go.Maps
set_option linter.unusedVariables false

def A0 : Dv := newD 2
def A1 : Dv := writeD A0 1 (allOf 7)
def A2 : Dv := crashD A1 [5]
def A3 : Dv := { A2 with pow := true, bud := -1, pend := [] }
def A4 : Dv := faultD A3 0 1
def A5 : Dv := writeD A4 0 (allOf 1)
def A6 : Dv := { A5 with bud := 1 }
def A7 : Dv := writeD A6 0 (allOf 2)
def A8 : Dv := flushD A7
theorem a0w : writeE A0 1 = 0 := by decide +kernel
theorem a0p : A0.pend.length ≤ 1000 := by decide +kernel
theorem a1p : A1.pend.length ≤ 1000 := by decide +kernel
theorem a2h : A2.has 1 = List.replicate 5 7 ++ List.replicate 123 0 := by decide +kernel
theorem a4r : readE A4 0 = 9 := by decide +kernel
theorem a4w : writeE A4 0 = 0 := by decide +kernel
theorem a4p : A4.pend.length ≤ 1000 := by decide +kernel
theorem a6w : writeE A6 0 = 0 := by decide +kernel
theorem a6p : A6.pend.length ≤ 1000 := by decide +kernel
theorem a7p : A7.pend.length ≤ 1000 := by decide +kernel
theorem a7f : startE A7 = 10 := by decide +kernel
theorem a3n : A3.n = 2 := by decide +kernel
theorem a3c : A3.cnt ≤ 1000 := by decide +kernel
theorem a4n : A4.n = 2 := by decide +kernel
theorem a6n : A6.n = 2 := by decide +kernel

/-- a block that is none of the device's, over what happens -/
structure Kept (sb bb mb : Nat) (pv : Value) (w : World) (g : Nat) (t : TypeId) (cs : Array Value) : Prop where
  bk : Bk w g t cs
  off : ¬ Foot sb bb mb pv g
theorem Kept.turn {base sb bb mb : Nat} {pv pv' : Value} {w w' : World} {D' : Dv} {g : Nat} {t : TypeId} {cs : Array Value} (h : Kept sb bb mb pv w g t cs) (ht : Turn base sb bb mb w pv w' pv' D') : Kept sb bb mb pv' w' g t cs :=
  let ⟨a, b⟩ := ht.bk h.bk h.off; ⟨a, b⟩
theorem Kept.up {sb bb mb : Nat} {pv : Value} {w w' : World} {g : Nat} {t : TypeId} {cs : Array Value} (h : Kept sb bb mb pv w g t cs) (hb : Below w.heap.size w w') : Kept sb bb mb pv w' g t cs := ⟨h.bk.below hb h.bk.lt, h.off⟩

/-- a write of a block of one octet -/
theorem Write_all {base sb bb mb : Nat} {pv : Value} {D : Dv} (k : Nat) (g : Nat) (x : UInt8) (w : World) (h : DevAt w base sb bb mb pv D) (hbase : base ≤ w.heap.size) (hk : k < D.n) (hb : Bk w g 5 ((allOf x).map bv).toArray) (hpl : D.pend.length ≤ 1000) :
    Calls Try.prog 14 #[.pointer (some ⟨sb, 0, none⟩), .int .i64 k, .slice (some ⟨g, 0, none⟩) 128 128] w fun e w' => e = .returned (.int .i64 (writeE D k)) ∧ ∃ pv', Turn base sb bb mb w pv w' pv' (writeD D k (allOf x)) :=
  Write_any k g 0 128 (allOf x) w h hbase hk (allOf_length x) (fun j v hv => by rw [hb.cell]; simpa using hv) (h.off hb (by decide) (by decide) (by decide)) hpl

/-- five octets of one block, and those of another behind them -/
def joined : List UInt8 := List.replicate 5 7 ++ List.replicate 123 0
theorem info_u8_3 : (Try.prog.info? 5).map (fun i => (i.zero, i.size, i.bytes)) = some (some (.int .u8 0), 1, 1) := by kernel_rfl
theorem join_run (w : World) (g g0 : Nat) (h7 : Bk w g 5 ((allOf 7).map bv).toArray) (h0 : Bk w g0 5 ((allOf 0).map bv).toArray) (hne : g ≠ g0) :
    ∃ w', (∀ ty, (Builtin.append_ #[33, 33] ty #[.slice (some ⟨g, 0, none⟩) 5 128, .slice (some ⟨g0, 5, none⟩) 123 123]).run Try.prog w = .ok (.slice (some ⟨g, 0, none⟩) 128 128) w') ∧ Bk w' g 5 (joined.map bv).toArray ∧ w.grownBy w' (some g) := by
  obtain ⟨i0, hi0, hz0, hz1, hz2⟩ := info_parts info_u8_3
  have hown : w.ownsRow 0 5 1 (.slice (some ⟨g, 0, none⟩) 5 128) 5 (List.replicate 5 (bv 7)) :=
    ⟨rfl, .inr ⟨g, 128, ((allOf 7).map bv).toArray, rfl, Nat.zero_le _, h7, by omega, by unfold maxLen; omega, by simp [allOf], by simp [allOf]⟩⟩
  obtain ⟨w', hrun, hown', hgr⟩ := run_append_fits (P := Try.prog) w 0 33 0 5 i0 1 Try.underlying33 hi0 hz1 g 5 128 _ hown ⟨g0, 5, none⟩ 123 123 (List.replicate 123 (bv 0)) (by simp) (fun j u hu => by
    rw [add_plain, h0.cell]
    rw [List.getElem?_replicate] at hu
    split at hu
    · rw [List.getElem?_toArray, List.getElem?_map, allOf, List.getElem?_replicate, if_pos (by omega)]; exact hu
    · cases hu) (fun u hu => by rw [List.eq_of_mem_replicate hu]; rfl) (by omega)
  refine ⟨w', fun ty => hrun, ?_, hgr⟩
  obtain ⟨hb, _⟩ := own_bk (n := 128) hown'
  have e : (List.replicate 5 (bv 7) ++ List.replicate 123 (bv 0)) = joined.map bv := by simp [joined]
  rw [e] at hb
  exact hb

def waits13 : Nat → List Nat
  | 1 => [0]
  | 2 => [1]
  | 3 => [2]
  | 4 => [2, 3]
  | 5 => [2]
  | 6 => [2, 5]
  | 7 => [2, 5]
  | 8 => [2, 7]
  | 9 => [2, 6, 8]
  | 10 => [2, 9]
  | 11 => [2, 4, 10]
  | 12 => [2, 11]
  | 13 => [12]
  | 14 => [13]
  | 15 => [13, 14]
  | 16 => [13, 15]
  | 17 => [16]
  | 18 => [17]
  | 19 => [17, 18]
  | 20 => [17, 19]
  | 21 => [20]
  | 22 => [21]
  | 23 => [21, 22]
  | 24 => [21, 23]
  | 25 => [24]
  | 26 => [25]
  | 27 => [25, 26]
  | 28 => [25, 27]
  | 29 => [28]
  | 30 => [29]
  | 31 => [29, 30]
  | 32 => [29, 31]
  | 33 => [32]
  | 34 => [33]
  | 35 => [33, 34]
  | 36 => [33, 35]
  | 37 => [36]
  | 38 => [37]
  | 39 => [38]
  | 40 => [39]
  | 41 => [40]
  | 42 => [41]
  | 43 => [42]
  | 44 => [43]
  | 45 => [44]
  | _ => []
/-- what holds of the world while the last test of the examples runs -/
def R13 (w0 : World) (L : Nat → Bool) (w : World) : Prop :=
  Below w0.heap.size w0 w ∧ (L 9 = false → w.heap.size = w0.heap.size + (if L 5 then 1 else 0) + (if L 7 then 1 else 0)) ∧ (L 5 = true → L 9 = false → Bk w w0.heap.size 5 ((allOf 7).map bv).toArray) ∧
  (L 7 = true → L 9 = false → Bk w (w0.heap.size + 1) 5 ((allOf 0).map bv).toArray) ∧ (L 9 = true → Bk w w0.heap.size 5 (joined.map bv).toArray)
theorem R13_pure {w0 : World} (i : Nat) (L : Nat → Bool) (w : World) (h5 : i ≠ 5) (h7 : i ≠ 7) (h9 : i ≠ 9) (h : R13 w0 L w) : R13 w0 (setL L i) w := by
  unfold R13 at h ⊢
  rw [setL_other _ (Ne.symm h5), setL_other _ (Ne.symm h7), setL_other _ (Ne.symm h9)]
  exact h
theorem under_str4 : Try.prog.underlying 9 = some .string := by kernel_rfl

set_option maxRecDepth 100000 in
set_option maxHeartbeats 8000000 in
theorem awake_any (w : World) : Calls Try.prog 9 #[] w fun e w' => e = .returned (.bool true) ∧ Below w.heap.size w w' := by
  go_enter Try.func9, Try.ntmps9
  go_wp2_with fail
  refine (New_yes 2 _ (by omega) (by omega)).mono ?_
  rintro e w1 ⟨sb, bb, mb, rfl, hd, hb⟩
  have HD1 : Hid (DevAt w1 w.heap.size sb bb mb (.slice none 0 0) A0) := hd
  have HB1 := Lib.hid hb
  have HS1 := Lib.hid hb.size
  clear hd hb
  go_wp2_with fail
  refine (All_any 7 _).mono ?_
  rintro e w2 ⟨rfl, hbk, hb, _⟩
  have HD2 := Lib.hid (HD1.out.up hb)
  have HB2 := Lib.hid (HB1.out.trans (hb.mono HS1.out))
  have HK := Lib.hid hbk
  have HS2 := Lib.hid HB2.out.size
  clear hbk hb
  go_wp2_with fail
  refine (Write_all 1 _ 7 _ HD2.out HS2.out (by decide) HK.out a0p).mono ?_
  rintro e w3 ⟨rfl, pv3, ht⟩
  rw [a0w]
  have HT3 : Hid (Turn w.heap.size sb bb mb w2 _ w3 pv3 A1) := ht
  have HB3 := Lib.hid (HB2.out.trans (ht.below HD2.out HS2.out))
  have HS3 := Lib.hid HB3.out.size
  have HD3 := Lib.hid HT3.out.dev
  clear ht HT3 HK HD2 HS2
  go_wp2_with fail
  obtain ⟨w4, hw4⟩ : ∃ w4, w3.alloc (.cells #[.int .i64 5] 3) = w4 := ⟨_, rfl⟩
  rw [hw4]
  have hb4 : Below w3.heap.size w3 w4 := by rw [← hw4]; exact (Below.refl _ _).alloc (Nat.le_refl _) _
  have hk4 : Bk w4 w3.heap.size 3 #[.int .i64 5] := by rw [← hw4]; exact Bk.new _ _ _
  have HD4 := Lib.hid (HD3.out.up hb4)
  have HB4 := Lib.hid (HB3.out.trans (hb4.mono HS3.out))
  have HS4 := Lib.hid HB4.out.size
  have hoff := HD4.out.off hk4 (by decide) (by decide) (by decide)
  refine (Crash_any (some ⟨w3.heap.size, 0, none⟩) 1 1 (w3.heap.size + 1) [5] _ HD4.out a1p rfl (fun w' hf j u hu => ?_)).mono ?_
  · have hk5 := hf.bk hk4 hoff
    refine ⟨_, rfl, by show w3.heap.size < _; omega, ?_⟩
    rw [add_plain, hk5.cell]
    match j, hu with
    | 0, hu => simpa [iv] using hu
  rintro e w5 ⟨rfl, pv5, ht⟩
  have HT5 : Hid (Turn w.heap.size sb bb mb w4 pv3 w5 pv5 A2) := ht
  have HB5 := Lib.hid (HB4.out.trans (ht.below HD4.out HS4.out))
  have HS5 := Lib.hid HB5.out.size
  have HD5 := Lib.hid HT5.out.dev
  clear ht HT5 hk4 hoff hb4 hw4 HD4 HS4
  go_wp2_with fail
  refine (Has_yes 1 _ HD5.out (by decide)).mono ?_
  rintro e w6 ⟨rfl, hw6⟩
  rw [a2h] at hw6
  have hb6 : Below w5.heap.size w5 w6 := by rw [hw6]; exact (Below.refl _ _).alloc (Nat.le_refl _) _
  obtain ⟨gb, hgb⟩ : ∃ gb, w5.heap.size = gb := ⟨_, rfl⟩
  have HK6 : Hid (Kept sb bb mb pv5 w6 gb 67 ((List.replicate 5 7 ++ List.replicate 123 0 : List UInt8).map bv).toArray) := by
    refine ⟨by rw [hw6, ← hgb]; exact Bk.new _ _ _, fun hf => ?_⟩
    have := (HD5.out.lt hf).2
    omega
  have HD6 := Lib.hid (HD5.out.up hb6)
  have HB6 := Lib.hid (HB5.out.trans (hb6.mono HS5.out))
  have HS6 := Lib.hid HB6.out.size
  rw [hgb]
  clear hb6 hw6 hgb HD5 HS5
  go_wp2_with fail
  refine (On_any _ HD6.out).mono ?_
  rintro e w7 ⟨rfl, ht⟩
  have HT7 : Hid (Turn w.heap.size sb bb mb w6 pv5 w7 _ A3) := ht
  have HB7 := Lib.hid (HB6.out.trans (ht.below HD6.out HS6.out))
  have HS7 := Lib.hid HB7.out.size
  have HD7 := Lib.hid HT7.out.dev
  have HK7 := Lib.hid (HK6.out.turn HT7.out)
  clear ht HT7 HK6 HD6 HS6
  go_wp2_with fail
  refine (Fault_yes 0 1 _ HD7.out (by rw [a3n]; omega) (by omega) a3c).mono ?_
  rintro e w8 ⟨rfl, ht⟩
  have HT8 : Hid (Turn w.heap.size sb bb mb w7 _ w8 _ A4) := ht
  have HB8 := Lib.hid (HB7.out.trans (ht.below HD7.out HS7.out))
  have HS8 := Lib.hid HB8.out.size
  have HD8 := Lib.hid HT8.out.dev
  have HK8 := Lib.hid (HK7.out.turn HT8.out)
  clear ht HT8 HK7 HD7 HS7
  go_wp2_with fail
  refine (Read_off 0 _ HD8.out (by rw [a4n]; omega) (by rw [a4r]; omega)).mono ?_
  rintro e w9 ⟨rfl, rfl⟩
  rw [a4r]
  go_wp2_with fail
  refine (All_any 1 _).mono ?_
  rintro e w10 ⟨rfl, hbk, hb, _⟩
  have HD10 := Lib.hid (HD8.out.up hb)
  have HB10 := Lib.hid (HB8.out.trans (hb.mono HS8.out))
  have HA10 := Lib.hid hbk
  have HS10 := Lib.hid HB10.out.size
  have HK10 := Lib.hid (HK8.out.up hb)
  clear hbk hb HK8 HD8 HS8
  go_wp2_with fail
  refine (Write_all 0 _ 1 _ HD10.out HS10.out (by rw [a4n]; omega) HA10.out a4p).mono ?_
  rintro e w11 ⟨rfl, pv11, ht⟩
  rw [a4w]
  have HT11 : Hid (Turn w.heap.size sb bb mb w10 _ w11 pv11 A5) := ht
  have HB11 := Lib.hid (HB10.out.trans (ht.below HD10.out HS10.out))
  have HS11 := Lib.hid HB11.out.size
  have HD11 := Lib.hid HT11.out.dev
  have HK11 := Lib.hid (HK10.out.turn HT11.out)
  clear ht HT11 HK10 HD10 HS10 HA10
  go_wp2_with fail
  refine (Budget_yes 1 _ HD11.out (by omega) (by omega)).mono ?_
  rintro e w12 ⟨rfl, ht⟩
  have HT12 : Hid (Turn w.heap.size sb bb mb w11 pv11 w12 pv11 A6) := ht
  have HB12 := Lib.hid (HB11.out.trans (ht.below HD11.out HS11.out))
  have HS12 := Lib.hid HB12.out.size
  have HD12 := Lib.hid HT12.out.dev
  have HK12 := Lib.hid (HK11.out.turn HT12.out)
  clear ht HT12 HK11 HD11 HS11
  go_wp2_with fail
  refine (All_any 2 _).mono ?_
  rintro e w13 ⟨rfl, hbk, hb, _⟩
  have HD13 := Lib.hid (HD12.out.up hb)
  have HB13 := Lib.hid (HB12.out.trans (hb.mono HS12.out))
  have HA13 := Lib.hid hbk
  have HS13 := Lib.hid HB13.out.size
  have HK13 := Lib.hid (HK12.out.up hb)
  clear hbk hb HK12 HD12 HS12
  go_wp2_with fail
  refine (Write_all 0 _ 2 _ HD13.out HS13.out (by rw [a6n]; omega) HA13.out a6p).mono ?_
  rintro e w14 ⟨rfl, pv14, ht⟩
  rw [a6w]
  have HT14 : Hid (Turn w.heap.size sb bb mb w13 pv11 w14 pv14 A7) := ht
  have HB14 := Lib.hid (HB13.out.trans (ht.below HD13.out HS13.out))
  have HS14 := Lib.hid HB14.out.size
  have HD14 := Lib.hid HT14.out.dev
  have HK14 := Lib.hid (HK13.out.turn HT14.out)
  clear ht HT14 HK13 HD13 HS13 HA13
  go_wp2_with fail
  refine (Flush_any _ HD14.out a7p).mono ?_
  rintro e w15 ⟨rfl, pv15, ht⟩
  rw [a7f]
  have HB15 := Lib.hid (HB14.out.trans (ht.below HD14.out HS14.out))
  have HK15 := Lib.hid (HK14.out.turn ht)
  clear ht HK14 HD14 HS14 HB1 HB2 HB3 HB4 HB5 HB6 HB7 HB8 HB10 HB11 HB12 HB13 HB14 HS1 HS3 HD1 HD3
  have HBK : Hid (Bk w15 gb 67 (joined.map bv).toArray) := HK15.out.bk
  obtain ⟨z, hz⟩ : ∃ z, w15.heap.size = z := ⟨_, rfl⟩
  have HZ := Lib.hid hz
  obtain ⟨S, hS⟩ : ∃ S, S = str joined := ⟨_, rfl⟩
  have HCX : Hid (∀ w', Below w15.heap.size w15 w' → (convert 33 9 (.slice (some ⟨gb, 0, none⟩) 128 128)).run Try.prog w' = .ok (.string S) w') := Lib.hid fun w' hb => by
    rw [hS]
    exact run_conv (P := Try.prog) 33 5 9 Try.underlying33 Try.underlying5 under_str4 (bs := joined) 128 128 (by simp [joined]) (by have := Rd.bk (HBK.out.below hb HBK.out.lt); simpa using this)
  have HCV : Hid (∀ w', Bk w' z 5 (joined.map bv).toArray → (convert 33 9 (.slice (some ⟨z, 0, none⟩) 128 128)).run Try.prog w' = .ok (.string S) w') := Lib.hid fun w' hb => by
    rw [hS]
    exact run_conv (P := Try.prog) 33 5 9 Try.underlying33 Try.underlying5 under_str4 (bs := joined) 128 128 (by simp [joined]) (by have := Rd.bk hb; simpa using this)
  have HPURE : Hid (∀ (i : Nat) (L : Nat → Bool) (w : World), i ≠ 5 → i ≠ 7 → i ≠ 9 → R13 w15 L w → R13 w15 (setL L i) w) := Lib.hid R13_pure
  clear hz hS
  go_wp2
  obtain ⟨V, hV⟩ : ∃ V : Nat → Value, V = fun i => ([.int .i64 0, .bool true, .bool true, .slice (some ⟨gb, 0, none⟩) 128 128, .string S, .slice (some ⟨z, 0, none⟩) 128 128, .slice (some ⟨z, 0, none⟩) 5 128, .slice (some ⟨z + 1, 0, none⟩) 128 128, .slice (some ⟨z + 1, 5, none⟩) 123 123, .slice (some ⟨z, 0, none⟩) 128 128, .string S, .bool true, .bool true, .bool true, .int .i64 0, .bool true, .bool true, .bool true, .int .i64 0, .bool true, .bool true, .bool true, .int .i64 9, .bool true, .bool true, .bool true, .int .i64 0, .bool true, .bool true, .bool true, .int .i64 0, .bool true, .bool true, .bool true, .int .i64 10, .bool true, .bool true, .bool true, .bool true, .bool true, .bool true, .bool true, .bool true, .bool true, .bool true, .bool true] : List Value).getD i undef := ⟨_, rfl⟩
  refine wp_region_states (by kernel_rfl) 46 97 (fun i => if i = 45 then 0 else 52 + i) waits13 (JR V (R13 w15)) (by kernel_rfl) rfl ⟨fun j hj => (nomatch hj), ⟨(Below.refl _ _).drew, fun _ => rfl, fun h => (nomatch h), fun h => (nomatch h), fun h => (nomatch h)⟩⟩ ?_ ?_
  · refine (all_succ (all_succ (all_succ (all_succ (all_succ (all_succ (all_succ (all_succ (all_succ (all_succ (all_succ (all_succ (all_succ (all_succ (all_succ (all_succ (all_succ (all_succ (all_succ (all_succ (all_succ (all_succ (all_succ (all_succ (all_succ (all_succ (all_succ (all_succ (all_succ (all_succ (all_succ (all_succ (all_succ (all_succ (all_succ (all_succ (all_succ (all_succ (all_succ (all_succ (all_succ (all_succ (all_succ (all_succ (all_succ (all_succ all_zero ?h0) ?h1) ?h2) ?h3) ?h4) ?h5) ?h6) ?h7) ?h8) ?h9) ?h10) ?h11) ?h12) ?h13) ?h14) ?h15) ?h16) ?h17) ?h18) ?h19) ?h20) ?h21) ?h22) ?h23) ?h24) ?h25) ?h26) ?h27) ?h28) ?h29) ?h30) ?h31) ?h32) ?h33) ?h34) ?h35) ?h36) ?h37) ?h38) ?h39) ?h40) ?h41) ?h42) ?h43) ?h44) ?h45)
    case h0 =>
      intro o ho L vals a w hs hi hcl hdl hJ K hK
      cases ho
      have e0 := hs.outS 3 (.int .i64 0) (by omega) (fun i hi => by show (if i = 45 then 0 else 52 + i) ≠ 3; split <;> omega) rfl
      go_simp
      exact hK _ _ (hJ.step (by rw [hV]; rfl) (HPURE.out _ _ _ (by decide) (by decide) (by decide) hJ.world))
    case h1 =>
      intro o ho L vals a w hs hi hcl hdl hJ K hK
      cases ho
      have e0 := hs.depS hJ 0 52 (.int .i64 0) (hdl 0 (by simp [waits13])) (by omega) rfl (by omega) (by rw [hV]; rfl)
      go_simp
      exact hK _ _ (hJ.step (by rw [hV]; rfl) (HPURE.out _ _ _ (by decide) (by decide) (by decide) hJ.world))
    case h2 =>
      intro o ho L vals a w hs hi hcl hdl hJ K hK
      cases ho
      have e0 := hs.depS hJ 1 53 (.bool true) (hdl 1 (by simp [waits13])) (by omega) rfl (by omega) (by rw [hV]; rfl)
      go_simp
      exact hK _ _ (hJ.step (by rw [hV]; rfl) (HPURE.out _ _ _ (by decide) (by decide) (by decide) hJ.world))
    case h3 =>
      intro o ho L vals a w hs hi hcl hdl hJ K hK
      cases ho
      have e0 := hs.outS 4 (.slice (some ⟨gb, 0, none⟩) 128 128) (by omega) (fun i hi => by show (if i = 45 then 0 else 52 + i) ≠ 4; split <;> omega) rfl
      have e1 := hs.depS hJ 2 54 (.bool true) (hdl 2 (by simp [waits13])) (by omega) rfl (by omega) (by rw [hV]; rfl)
      go_simp
      exact hK _ _ (hJ.step (by rw [hV]; rfl) (HPURE.out _ _ _ (by decide) (by decide) (by decide) hJ.world))
    case h4 =>
      intro o ho L vals a w hs hi hcl hdl hJ K hK
      cases ho
      have e0 := hs.depS hJ 2 54 (.bool true) (hdl 2 (by simp [waits13])) (by omega) rfl (by omega) (by rw [hV]; rfl)
      have e1 := hs.depS hJ 3 55 (.slice (some ⟨gb, 0, none⟩) 128 128) (hdl 3 (by simp [waits13])) (by omega) rfl (by omega) (by rw [hV]; rfl)
      have hcv := HCX.out w hJ.world.1
      go_simp
      exact hK _ _ (hJ.step (by rw [hV]; rfl) (HPURE.out _ _ _ (by decide) (by decide) (by decide) hJ.world))
    case h5 =>
      intro o ho L vals a w hs hi hcl hdl hJ K hK
      cases ho
      have e0 := hs.depS hJ 2 54 (.bool true) (hdl 2 (by simp [waits13])) (by omega) rfl (by omega) (by rw [hV]; rfl)
      have hR := hJ.world
      have l7 : L 7 = false := by
        cases h : L 7 with
        | false => rfl
        | true => rw [hcl 7 h 5 (by simp [waits13])] at hi; cases hi
      have l9 : L 9 = false := by
        cases h : L 9 with
        | false => rfl
        | true => rw [hcl 6 (hcl 9 h 6 (by simp [waits13])) 5 (by simp [waits13])] at hi; cases hi
      have HR := Lib.hid hR
      have hsz : w.heap.size = z := by have := hR.2.1 l9; rw [hi, l7] at this; simpa [HZ.out] using this
      have HSZ := Lib.hid hsz
      clear hR hsz
      go_simp
      refine (All_any 7 _).mono ?_
      rintro e w' ⟨rfl, hbk, hbl, hsz⟩
      rw [HSZ.out] at hbk hsz ⊢
      refine hK _ _ (hJ.step (by rw [hV]; rfl) ⟨HR.out.1.trans (hbl.mono HR.out.1.size), fun _ => ?_, fun _ _ => by rw [HZ.out]; exact hbk, fun h => ?_, fun h => ?_⟩)
      · rw [hsz, setL_same, setL_other _ (by decide), l7, HZ.out]; rfl
      · rw [setL_other _ (by decide), l7] at h; cases h
      · rw [setL_other _ (by decide), l9] at h; cases h
    case h6 =>
      intro o ho L vals a w hs hi hcl hdl hJ K hK
      cases ho
      have e0 := hs.depS hJ 2 54 (.bool true) (hdl 2 (by simp [waits13])) (by omega) rfl (by omega) (by rw [hV]; rfl)
      have e1 := hs.depS hJ 5 57 (.slice (some ⟨z, 0, none⟩) 128 128) (hdl 5 (by simp [waits13])) (by omega) rfl (by omega) (by rw [hV]; rfl)
      go_simp
      exact hK _ _ (hJ.step (by rw [hV]; rfl) (HPURE.out _ _ _ (by decide) (by decide) (by decide) hJ.world))
    case h7 =>
      intro o ho L vals a w hs hi hcl hdl hJ K hK
      cases ho
      have e0 := hs.depS hJ 2 54 (.bool true) (hdl 2 (by simp [waits13])) (by omega) rfl (by omega) (by rw [hV]; rfl)
      have hR := hJ.world
      have l5 : L 5 = true := hdl 5 (by simp [waits13])
      have l9 : L 9 = false := by
        cases h : L 9 with
        | false => rfl
        | true => rw [hcl 8 (hcl 9 h 8 (by simp [waits13])) 7 (by simp [waits13])] at hi; cases hi
      have HR := Lib.hid hR
      have hsz : w.heap.size = z + 1 := by have := hR.2.1 l9; rw [hi, l5] at this; simpa [HZ.out] using this
      have HSZ := Lib.hid hsz
      clear hR hsz
      go_simp
      refine (All_any 0 _).mono ?_
      rintro e w' ⟨rfl, hbk, hbl, hsz⟩
      have h7 := HR.out.2.2.1 l5 l9
      have hlt : w15.heap.size < w.heap.size := by rw [HSZ.out, HZ.out]; omega
      rw [HSZ.out] at hbk hsz ⊢
      refine hK _ _ (hJ.step (by rw [hV]; rfl) ⟨HR.out.1.trans (hbl.mono HR.out.1.size), fun _ => ?_, fun _ _ => h7.below hbl hlt, fun _ _ => by rw [HZ.out]; exact hbk, fun h => ?_⟩)
      · rw [hsz, setL_same, setL_other _ (by decide), l5, HZ.out]; rfl
      · rw [setL_other _ (by decide), l9] at h; cases h
    case h8 =>
      intro o ho L vals a w hs hi hcl hdl hJ K hK
      cases ho
      have e0 := hs.depS hJ 2 54 (.bool true) (hdl 2 (by simp [waits13])) (by omega) rfl (by omega) (by rw [hV]; rfl)
      have e1 := hs.depS hJ 7 59 (.slice (some ⟨z + 1, 0, none⟩) 128 128) (hdl 7 (by simp [waits13])) (by omega) rfl (by omega) (by rw [hV]; rfl)
      go_simp
      exact hK _ _ (hJ.step (by rw [hV]; rfl) (HPURE.out _ _ _ (by decide) (by decide) (by decide) hJ.world))
    case h9 =>
      intro o ho L vals a w hs hi hcl hdl hJ K hK
      cases ho
      have e0 := hs.depS hJ 2 54 (.bool true) (hdl 2 (by simp [waits13])) (by omega) rfl (by omega) (by rw [hV]; rfl)
      have e1 := hs.depS hJ 6 58 (.slice (some ⟨z, 0, none⟩) 5 128) (hdl 6 (by simp [waits13])) (by omega) rfl (by omega) (by rw [hV]; rfl)
      have e2 := hs.depS hJ 8 60 (.slice (some ⟨z + 1, 5, none⟩) 123 123) (hdl 8 (by simp [waits13])) (by omega) rfl (by omega) (by rw [hV]; rfl)
      have hR := hJ.world
      have l7 : L 7 = true := hcl 8 (hdl 8 (by simp [waits13])) 7 (by simp [waits13])
      have l5 : L 5 = true := hcl 7 l7 5 (by simp [waits13])
      have hb7 := hR.2.2.1 l5 hi
      have hb0 := hR.2.2.2.1 l7 hi
      rw [HZ.out] at hb7 hb0
      obtain ⟨w', hrun, hbj, hgr⟩ := join_run w z (z + 1) hb7 hb0 (by omega)
      rw [if_pos (by simp [Region.wanted, yielded, e0])]
      refine wp_append_run (.tmp 58) (.tmp 60) 33 rfl _ _ _ _ (by show a.tmps.getD 58 undef = _; rw [Array.getD_eq_getD_getElem?, e1]; rfl) (by show a.tmps.getD 60 undef = _; rw [Array.getD_eq_getD_getElem?, e2]; rfl) (hrun _) ?_
      have hz0 : w15.heap.size ≤ w.heap.size := hR.1.size
      refine hK _ _ (hJ.step (by rw [hV]; rfl) ⟨hR.1.grown hgr hz0 (fun k hk => by injection hk with hk; rw [← hk, HZ.out]; exact Nat.le_refl _), fun h => ?_, fun _ h => ?_, fun _ h => ?_, fun _ => by rw [HZ.out]; exact hbj⟩)
      · rw [setL_same] at h; cases h
      · rw [setL_same] at h; cases h
      · rw [setL_same] at h; cases h
    case h10 =>
      intro o ho L vals a w hs hi hcl hdl hJ K hK
      cases ho
      have e0 := hs.depS hJ 2 54 (.bool true) (hdl 2 (by simp [waits13])) (by omega) rfl (by omega) (by rw [hV]; rfl)
      have e1 := hs.depS hJ 9 61 (.slice (some ⟨z, 0, none⟩) 128 128) (hdl 9 (by simp [waits13])) (by omega) rfl (by omega) (by rw [hV]; rfl)
      have hcv := HCV.out w (by have := hJ.world.2.2.2.2 (hdl 9 (by simp [waits13])); rwa [HZ.out] at this)
      go_simp
      exact hK _ _ (hJ.step (by rw [hV]; rfl) (HPURE.out _ _ _ (by decide) (by decide) (by decide) hJ.world))
    case h11 =>
      intro o ho L vals a w hs hi hcl hdl hJ K hK
      cases ho
      have e0 := hs.depS hJ 2 54 (.bool true) (hdl 2 (by simp [waits13])) (by omega) rfl (by omega) (by rw [hV]; rfl)
      have e1 := hs.depS hJ 4 56 (.string S) (hdl 4 (by simp [waits13])) (by omega) rfl (by omega) (by rw [hV]; rfl)
      have e2 := hs.depS hJ 10 62 (.string S) (hdl 10 (by simp [waits13])) (by omega) rfl (by omega) (by rw [hV]; rfl)
      go_simp
      exact hK _ _ (hJ.step (by rw [hV]; rfl) (HPURE.out _ _ _ (by decide) (by decide) (by decide) hJ.world))
    case h12 =>
      intro o ho L vals a w hs hi hcl hdl hJ K hK
      cases ho
      have e0 := hs.depS hJ 2 54 (.bool true) (hdl 2 (by simp [waits13])) (by omega) rfl (by omega) (by rw [hV]; rfl)
      have e1 := hs.depS hJ 11 63 (.bool true) (hdl 11 (by simp [waits13])) (by omega) rfl (by omega) (by rw [hV]; rfl)
      go_simp
      exact hK _ _ (hJ.step (by rw [hV]; rfl) (HPURE.out _ _ _ (by decide) (by decide) (by decide) hJ.world))
    case h13 =>
      intro o ho L vals a w hs hi hcl hdl hJ K hK
      cases ho
      have e0 := hs.depS hJ 12 64 (.bool true) (hdl 12 (by simp [waits13])) (by omega) rfl (by omega) (by rw [hV]; rfl)
      go_simp
      exact hK _ _ (hJ.step (by rw [hV]; rfl) (HPURE.out _ _ _ (by decide) (by decide) (by decide) hJ.world))
    case h14 =>
      intro o ho L vals a w hs hi hcl hdl hJ K hK
      cases ho
      have e0 := hs.outS 5 (.int .i64 0) (by omega) (fun i hi => by show (if i = 45 then 0 else 52 + i) ≠ 5; split <;> omega) rfl
      have e1 := hs.depS hJ 13 65 (.bool true) (hdl 13 (by simp [waits13])) (by omega) rfl (by omega) (by rw [hV]; rfl)
      go_simp
      exact hK _ _ (hJ.step (by rw [hV]; rfl) (HPURE.out _ _ _ (by decide) (by decide) (by decide) hJ.world))
    case h15 =>
      intro o ho L vals a w hs hi hcl hdl hJ K hK
      cases ho
      have e0 := hs.depS hJ 13 65 (.bool true) (hdl 13 (by simp [waits13])) (by omega) rfl (by omega) (by rw [hV]; rfl)
      have e1 := hs.depS hJ 14 66 (.int .i64 0) (hdl 14 (by simp [waits13])) (by omega) rfl (by omega) (by rw [hV]; rfl)
      go_simp
      exact hK _ _ (hJ.step (by rw [hV]; rfl) (HPURE.out _ _ _ (by decide) (by decide) (by decide) hJ.world))
    case h16 =>
      intro o ho L vals a w hs hi hcl hdl hJ K hK
      cases ho
      have e0 := hs.depS hJ 13 65 (.bool true) (hdl 13 (by simp [waits13])) (by omega) rfl (by omega) (by rw [hV]; rfl)
      have e1 := hs.depS hJ 15 67 (.bool true) (hdl 15 (by simp [waits13])) (by omega) rfl (by omega) (by rw [hV]; rfl)
      go_simp
      exact hK _ _ (hJ.step (by rw [hV]; rfl) (HPURE.out _ _ _ (by decide) (by decide) (by decide) hJ.world))
    case h17 =>
      intro o ho L vals a w hs hi hcl hdl hJ K hK
      cases ho
      have e0 := hs.depS hJ 16 68 (.bool true) (hdl 16 (by simp [waits13])) (by omega) rfl (by omega) (by rw [hV]; rfl)
      go_simp
      exact hK _ _ (hJ.step (by rw [hV]; rfl) (HPURE.out _ _ _ (by decide) (by decide) (by decide) hJ.world))
    case h18 =>
      intro o ho L vals a w hs hi hcl hdl hJ K hK
      cases ho
      have e0 := hs.outS 6 (.int .i64 0) (by omega) (fun i hi => by show (if i = 45 then 0 else 52 + i) ≠ 6; split <;> omega) rfl
      have e1 := hs.depS hJ 17 69 (.bool true) (hdl 17 (by simp [waits13])) (by omega) rfl (by omega) (by rw [hV]; rfl)
      go_simp
      exact hK _ _ (hJ.step (by rw [hV]; rfl) (HPURE.out _ _ _ (by decide) (by decide) (by decide) hJ.world))
    case h19 =>
      intro o ho L vals a w hs hi hcl hdl hJ K hK
      cases ho
      have e0 := hs.depS hJ 17 69 (.bool true) (hdl 17 (by simp [waits13])) (by omega) rfl (by omega) (by rw [hV]; rfl)
      have e1 := hs.depS hJ 18 70 (.int .i64 0) (hdl 18 (by simp [waits13])) (by omega) rfl (by omega) (by rw [hV]; rfl)
      go_simp
      exact hK _ _ (hJ.step (by rw [hV]; rfl) (HPURE.out _ _ _ (by decide) (by decide) (by decide) hJ.world))
    case h20 =>
      intro o ho L vals a w hs hi hcl hdl hJ K hK
      cases ho
      have e0 := hs.depS hJ 17 69 (.bool true) (hdl 17 (by simp [waits13])) (by omega) rfl (by omega) (by rw [hV]; rfl)
      have e1 := hs.depS hJ 19 71 (.bool true) (hdl 19 (by simp [waits13])) (by omega) rfl (by omega) (by rw [hV]; rfl)
      go_simp
      exact hK _ _ (hJ.step (by rw [hV]; rfl) (HPURE.out _ _ _ (by decide) (by decide) (by decide) hJ.world))
    case h21 =>
      intro o ho L vals a w hs hi hcl hdl hJ K hK
      cases ho
      have e0 := hs.depS hJ 20 72 (.bool true) (hdl 20 (by simp [waits13])) (by omega) rfl (by omega) (by rw [hV]; rfl)
      go_simp
      exact hK _ _ (hJ.step (by rw [hV]; rfl) (HPURE.out _ _ _ (by decide) (by decide) (by decide) hJ.world))
    case h22 =>
      intro o ho L vals a w hs hi hcl hdl hJ K hK
      cases ho
      have e0 := hs.outS 8 (.int .i64 9) (by omega) (fun i hi => by show (if i = 45 then 0 else 52 + i) ≠ 8; split <;> omega) rfl
      have e1 := hs.depS hJ 21 73 (.bool true) (hdl 21 (by simp [waits13])) (by omega) rfl (by omega) (by rw [hV]; rfl)
      go_simp
      exact hK _ _ (hJ.step (by rw [hV]; rfl) (HPURE.out _ _ _ (by decide) (by decide) (by decide) hJ.world))
    case h23 =>
      intro o ho L vals a w hs hi hcl hdl hJ K hK
      cases ho
      have e0 := hs.depS hJ 21 73 (.bool true) (hdl 21 (by simp [waits13])) (by omega) rfl (by omega) (by rw [hV]; rfl)
      have e1 := hs.depS hJ 22 74 (.int .i64 9) (hdl 22 (by simp [waits13])) (by omega) rfl (by omega) (by rw [hV]; rfl)
      go_simp
      exact hK _ _ (hJ.step (by rw [hV]; rfl) (HPURE.out _ _ _ (by decide) (by decide) (by decide) hJ.world))
    case h24 =>
      intro o ho L vals a w hs hi hcl hdl hJ K hK
      cases ho
      have e0 := hs.depS hJ 21 73 (.bool true) (hdl 21 (by simp [waits13])) (by omega) rfl (by omega) (by rw [hV]; rfl)
      have e1 := hs.depS hJ 23 75 (.bool true) (hdl 23 (by simp [waits13])) (by omega) rfl (by omega) (by rw [hV]; rfl)
      go_simp
      exact hK _ _ (hJ.step (by rw [hV]; rfl) (HPURE.out _ _ _ (by decide) (by decide) (by decide) hJ.world))
    case h25 =>
      intro o ho L vals a w hs hi hcl hdl hJ K hK
      cases ho
      have e0 := hs.depS hJ 24 76 (.bool true) (hdl 24 (by simp [waits13])) (by omega) rfl (by omega) (by rw [hV]; rfl)
      go_simp
      exact hK _ _ (hJ.step (by rw [hV]; rfl) (HPURE.out _ _ _ (by decide) (by decide) (by decide) hJ.world))
    case h26 =>
      intro o ho L vals a w hs hi hcl hdl hJ K hK
      cases ho
      have e0 := hs.outS 9 (.int .i64 0) (by omega) (fun i hi => by show (if i = 45 then 0 else 52 + i) ≠ 9; split <;> omega) rfl
      have e1 := hs.depS hJ 25 77 (.bool true) (hdl 25 (by simp [waits13])) (by omega) rfl (by omega) (by rw [hV]; rfl)
      go_simp
      exact hK _ _ (hJ.step (by rw [hV]; rfl) (HPURE.out _ _ _ (by decide) (by decide) (by decide) hJ.world))
    case h27 =>
      intro o ho L vals a w hs hi hcl hdl hJ K hK
      cases ho
      have e0 := hs.depS hJ 25 77 (.bool true) (hdl 25 (by simp [waits13])) (by omega) rfl (by omega) (by rw [hV]; rfl)
      have e1 := hs.depS hJ 26 78 (.int .i64 0) (hdl 26 (by simp [waits13])) (by omega) rfl (by omega) (by rw [hV]; rfl)
      go_simp
      exact hK _ _ (hJ.step (by rw [hV]; rfl) (HPURE.out _ _ _ (by decide) (by decide) (by decide) hJ.world))
    case h28 =>
      intro o ho L vals a w hs hi hcl hdl hJ K hK
      cases ho
      have e0 := hs.depS hJ 25 77 (.bool true) (hdl 25 (by simp [waits13])) (by omega) rfl (by omega) (by rw [hV]; rfl)
      have e1 := hs.depS hJ 27 79 (.bool true) (hdl 27 (by simp [waits13])) (by omega) rfl (by omega) (by rw [hV]; rfl)
      go_simp
      exact hK _ _ (hJ.step (by rw [hV]; rfl) (HPURE.out _ _ _ (by decide) (by decide) (by decide) hJ.world))
    case h29 =>
      intro o ho L vals a w hs hi hcl hdl hJ K hK
      cases ho
      have e0 := hs.depS hJ 28 80 (.bool true) (hdl 28 (by simp [waits13])) (by omega) rfl (by omega) (by rw [hV]; rfl)
      go_simp
      exact hK _ _ (hJ.step (by rw [hV]; rfl) (HPURE.out _ _ _ (by decide) (by decide) (by decide) hJ.world))
    case h30 =>
      intro o ho L vals a w hs hi hcl hdl hJ K hK
      cases ho
      have e0 := hs.outS 10 (.int .i64 0) (by omega) (fun i hi => by show (if i = 45 then 0 else 52 + i) ≠ 10; split <;> omega) rfl
      have e1 := hs.depS hJ 29 81 (.bool true) (hdl 29 (by simp [waits13])) (by omega) rfl (by omega) (by rw [hV]; rfl)
      go_simp
      exact hK _ _ (hJ.step (by rw [hV]; rfl) (HPURE.out _ _ _ (by decide) (by decide) (by decide) hJ.world))
    case h31 =>
      intro o ho L vals a w hs hi hcl hdl hJ K hK
      cases ho
      have e0 := hs.depS hJ 29 81 (.bool true) (hdl 29 (by simp [waits13])) (by omega) rfl (by omega) (by rw [hV]; rfl)
      have e1 := hs.depS hJ 30 82 (.int .i64 0) (hdl 30 (by simp [waits13])) (by omega) rfl (by omega) (by rw [hV]; rfl)
      go_simp
      exact hK _ _ (hJ.step (by rw [hV]; rfl) (HPURE.out _ _ _ (by decide) (by decide) (by decide) hJ.world))
    case h32 =>
      intro o ho L vals a w hs hi hcl hdl hJ K hK
      cases ho
      have e0 := hs.depS hJ 29 81 (.bool true) (hdl 29 (by simp [waits13])) (by omega) rfl (by omega) (by rw [hV]; rfl)
      have e1 := hs.depS hJ 31 83 (.bool true) (hdl 31 (by simp [waits13])) (by omega) rfl (by omega) (by rw [hV]; rfl)
      go_simp
      exact hK _ _ (hJ.step (by rw [hV]; rfl) (HPURE.out _ _ _ (by decide) (by decide) (by decide) hJ.world))
    case h33 =>
      intro o ho L vals a w hs hi hcl hdl hJ K hK
      cases ho
      have e0 := hs.depS hJ 32 84 (.bool true) (hdl 32 (by simp [waits13])) (by omega) rfl (by omega) (by rw [hV]; rfl)
      go_simp
      exact hK _ _ (hJ.step (by rw [hV]; rfl) (HPURE.out _ _ _ (by decide) (by decide) (by decide) hJ.world))
    case h34 =>
      intro o ho L vals a w hs hi hcl hdl hJ K hK
      cases ho
      have e0 := hs.outS 11 (.int .i64 10) (by omega) (fun i hi => by show (if i = 45 then 0 else 52 + i) ≠ 11; split <;> omega) rfl
      have e1 := hs.depS hJ 33 85 (.bool true) (hdl 33 (by simp [waits13])) (by omega) rfl (by omega) (by rw [hV]; rfl)
      go_simp
      exact hK _ _ (hJ.step (by rw [hV]; rfl) (HPURE.out _ _ _ (by decide) (by decide) (by decide) hJ.world))
    case h35 =>
      intro o ho L vals a w hs hi hcl hdl hJ K hK
      cases ho
      have e0 := hs.depS hJ 33 85 (.bool true) (hdl 33 (by simp [waits13])) (by omega) rfl (by omega) (by rw [hV]; rfl)
      have e1 := hs.depS hJ 34 86 (.int .i64 10) (hdl 34 (by simp [waits13])) (by omega) rfl (by omega) (by rw [hV]; rfl)
      go_simp
      exact hK _ _ (hJ.step (by rw [hV]; rfl) (HPURE.out _ _ _ (by decide) (by decide) (by decide) hJ.world))
    case h36 =>
      intro o ho L vals a w hs hi hcl hdl hJ K hK
      cases ho
      have e0 := hs.depS hJ 33 85 (.bool true) (hdl 33 (by simp [waits13])) (by omega) rfl (by omega) (by rw [hV]; rfl)
      have e1 := hs.depS hJ 35 87 (.bool true) (hdl 35 (by simp [waits13])) (by omega) rfl (by omega) (by rw [hV]; rfl)
      go_simp
      exact hK _ _ (hJ.step (by rw [hV]; rfl) (HPURE.out _ _ _ (by decide) (by decide) (by decide) hJ.world))
    case h37 =>
      intro o ho L vals a w hs hi hcl hdl hJ K hK
      cases ho
      have e0 := hs.depS hJ 36 88 (.bool true) (hdl 36 (by simp [waits13])) (by omega) rfl (by omega) (by rw [hV]; rfl)
      go_simp
      exact hK _ _ (hJ.step (by rw [hV]; rfl) (HPURE.out _ _ _ (by decide) (by decide) (by decide) hJ.world))
    case h38 =>
      intro o ho L vals a w hs hi hcl hdl hJ K hK
      cases ho
      have e0 := hs.depS hJ 37 89 (.bool true) (hdl 37 (by simp [waits13])) (by omega) rfl (by omega) (by rw [hV]; rfl)
      go_simp
      exact hK _ _ (hJ.step (by rw [hV]; rfl) (HPURE.out _ _ _ (by decide) (by decide) (by decide) hJ.world))
    case h39 =>
      intro o ho L vals a w hs hi hcl hdl hJ K hK
      cases ho
      have e0 := hs.depS hJ 38 90 (.bool true) (hdl 38 (by simp [waits13])) (by omega) rfl (by omega) (by rw [hV]; rfl)
      go_simp
      exact hK _ _ (hJ.step (by rw [hV]; rfl) (HPURE.out _ _ _ (by decide) (by decide) (by decide) hJ.world))
    case h40 =>
      intro o ho L vals a w hs hi hcl hdl hJ K hK
      cases ho
      have e0 := hs.depS hJ 39 91 (.bool true) (hdl 39 (by simp [waits13])) (by omega) rfl (by omega) (by rw [hV]; rfl)
      go_simp
      exact hK _ _ (hJ.step (by rw [hV]; rfl) (HPURE.out _ _ _ (by decide) (by decide) (by decide) hJ.world))
    case h41 =>
      intro o ho L vals a w hs hi hcl hdl hJ K hK
      cases ho
      have e0 := hs.depS hJ 40 92 (.bool true) (hdl 40 (by simp [waits13])) (by omega) rfl (by omega) (by rw [hV]; rfl)
      go_simp
      exact hK _ _ (hJ.step (by rw [hV]; rfl) (HPURE.out _ _ _ (by decide) (by decide) (by decide) hJ.world))
    case h42 =>
      intro o ho L vals a w hs hi hcl hdl hJ K hK
      cases ho
      have e0 := hs.depS hJ 41 93 (.bool true) (hdl 41 (by simp [waits13])) (by omega) rfl (by omega) (by rw [hV]; rfl)
      go_simp
      exact hK _ _ (hJ.step (by rw [hV]; rfl) (HPURE.out _ _ _ (by decide) (by decide) (by decide) hJ.world))
    case h43 =>
      intro o ho L vals a w hs hi hcl hdl hJ K hK
      cases ho
      have e0 := hs.depS hJ 42 94 (.bool true) (hdl 42 (by simp [waits13])) (by omega) rfl (by omega) (by rw [hV]; rfl)
      go_simp
      exact hK _ _ (hJ.step (by rw [hV]; rfl) (HPURE.out _ _ _ (by decide) (by decide) (by decide) hJ.world))
    case h44 =>
      intro o ho L vals a w hs hi hcl hdl hJ K hK
      cases ho
      have e0 := hs.depS hJ 43 95 (.bool true) (hdl 43 (by simp [waits13])) (by omega) rfl (by omega) (by rw [hV]; rfl)
      go_simp
      exact hK _ _ (hJ.step (by rw [hV]; rfl) (HPURE.out _ _ _ (by decide) (by decide) (by decide) hJ.world))
    case h45 =>
      intro o ho L vals a w hs hi hcl hdl hJ K hK
      cases ho
      have e0 := hs.depS hJ 44 96 (.bool true) (hdl 44 (by simp [waits13])) (by omega) rfl (by omega) (by rw [hV]; rfl)
      go_simp
      exact hK _ _ (hJ.step (by rw [hV]; rfl) (HPURE.out _ _ _ (by decide) (by decide) (by decide) hJ.world))
  · intro vals a w hs hJ
    obtain ⟨ha, hw⟩ := hs.doneR rfl rfl (fun i j _ _ h => by show (if j = 45 then 0 else 52 + j) ≠ (if i = 45 then 0 else 52 + i); split <;> split <;> omega) hJ
    have HW := Lib.hid (HB15.out.trans (hw.1.mono HB15.out.size))
    clear hw hs hJ
    subst ha
    rw [hV]
    clear hV
    simp only [putAll, List.setIfInBounds_toArray, List.set_cons_zero, List.set_cons_succ, List.getD_cons_zero, List.getD_cons_succ, Nat.reduceAdd, Nat.reduceEqDiff, if_false, if_true]
    go_wp2
    go_ret
    exact ⟨rfl, HW.out⟩
end Go.Proofs.Ytpjdnbmeedcafaa
