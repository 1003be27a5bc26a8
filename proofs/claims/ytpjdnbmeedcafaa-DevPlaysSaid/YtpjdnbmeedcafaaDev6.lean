/-
  Write where it is refused; Erase; Waits; what is written is a block of one octet.
-/
import Derived.Test.YtpjdnbmeedcafaaDev5
import Derived.Deep.LoopGhost
namespace Go.Proofs.Ytpjdnbmeedcafaa
open Go.RowKit Go.Maps
set_option linter.unusedVariables false

theorem Write_no {base sb bb mb : Nat} {pv : Value} {D : Dv} (i : Int) (A : Option Addr) (n c : Nat) (t : Bool) (w : World) (h : DevAt w base sb bb mb pv D) (hi : inN D.n i = t) (hn : n ≤ 1000) (hbad : t = false ∨ n ≠ 128) :
    Calls Try.prog 14 #[.pointer (some ⟨sb, 0, none⟩), .int .i64 i, .slice A n c] w fun e w' => e = .returned (.int .i64 (if t = false then 4 else 1)) ∧ w = w' := by
  have HD := Lib.hid h
  have HT := Lib.hid hi
  have HN := Lib.hid hn
  have he : (if t = false then (4 : Int) else if n = 128 then 0 else 1) = if t = false then 4 else 1 := by
    rcases hbad with rfl | h
    · rfl
    · rw [if_neg h]
  obtain ⟨x, hx⟩ : ∃ x : Int, (if t = false then 4 else 1) = x := ⟨_, rfl⟩
  have hx0 : x = 4 ∨ x = 1 := by rw [← hx]; cases t <;> simp
  rw [hx] at he ⊢
  have HE := Lib.hid he
  clear h hi hn he hbad hx
  rcases hx0 with rfl | rfl
  all_goals
    go_enter Try.func14, Try.ntmps14
    go_wp2_with fail
    refine (takes_any i A n c t _ HD.out HT.out HN.out).mono ?_
    rintro e w1 ⟨rfl, rfl⟩
    rw [HE.out]
    go_wp2
    go_ret
    exact ⟨rfl, rfl⟩
theorem startE_cases (D : Dv) : startE D = 0 ∨ startE D = 9 ∨ startE D = 10 := by
  unfold startE; split
  · exact .inr (.inr rfl)
  · split
    · exact .inr (.inl rfl)
    · exact .inl rfl
theorem Write_off {base sb bb mb : Nat} {pv : Value} {D : Dv} (k : Nat) (A : Option Addr) (c : Nat) (w : World) (h : DevAt w base sb bb mb pv D) (hk : k < D.n) (h1 : startE D ≠ 0 ∨ incl (D.flt k) 2 = true) :
    Calls Try.prog 14 #[.pointer (some ⟨sb, 0, none⟩), .int .i64 k, .slice A 128 c] w fun e w' => e = .returned (.int .i64 (writeE D k)) ∧ Turn base sb bb mb w pv w' pv (startD D) := by
  have HD := Lib.hid h
  have HT := Lib.hid (show inN D.n k = true by simp [inN]; omega)
  have hn := h.ok.n2
  obtain ⟨x, hx⟩ : ∃ x, startE D = x := ⟨_, rfl⟩
  obtain ⟨f, hf⟩ : ∃ f, incl (D.flt k) 2 = f := ⟨_, rfl⟩
  have hc := startE_cases D
  have hwe : writeE D k = if x ≠ 0 then x else if f = true then 9 else 0 := by unfold writeE; rw [hx, hf]
  rw [hx] at h1 hc
  rw [hf] at h1
  have hnn : (startD D).n = D.n := startD_n D
  have HX := Lib.hid hx
  have HF : Hid (incl ((startD D).flt k) 2 = f) := by rw [startD_flt]; exact hf
  have HW := Lib.hid hwe
  clear h hx hf hwe hnn
  rcases hc with rfl | rfl | rfl
  · obtain rfl : f = true := by simpa using h1
    rw [show writeE D k = 9 by rw [HW.out]; rfl]
    clear h1
    go_enter Try.func14, Try.ntmps14
    go_wp2_with fail
    refine (takes_any _ A 128 c true _ HD.out HT.out (by omega)).mono ?_
    rintro e w1 ⟨rfl, rfl⟩
    go_wp2_with fail
    refine (start_any _ HD.out).mono ?_
    rintro e w1 ⟨rfl, ht⟩
    rw [HX.out]
    have HT1 := Lib.hid ht
    clear ht
    go_wp2_with fail
    refine (faulty_any _ _ _ HT1.out.dev (.inr rfl) (by omega) (by omega)).mono ?_
    rintro e w2 ⟨rfl, rfl⟩
    rw [HF.out]
    go_wp2
    go_ret
    exact ⟨rfl, HT1.out⟩
  · rw [show writeE D k = 9 by rw [HW.out]; rfl]
    go_enter Try.func14, Try.ntmps14
    go_wp2_with fail
    refine (takes_any _ A 128 c true _ HD.out HT.out (by omega)).mono ?_
    rintro e w1 ⟨rfl, rfl⟩
    go_wp2_with fail
    refine (start_any _ HD.out).mono ?_
    rintro e w1 ⟨rfl, ht⟩
    rw [HX.out]
    have HT1 := Lib.hid ht
    clear ht
    go_wp2
    go_ret
    exact ⟨rfl, HT1.out⟩
  · rw [show writeE D k = 10 by rw [HW.out]; rfl]
    go_enter Try.func14, Try.ntmps14
    go_wp2_with fail
    refine (takes_any _ A 128 c true _ HD.out HT.out (by omega)).mono ?_
    rintro e w1 ⟨rfl, rfl⟩
    go_wp2_with fail
    refine (start_any _ HD.out).mono ?_
    rintro e w1 ⟨rfl, ht⟩
    rw [HX.out]
    have HT1 := Lib.hid ht
    clear ht
    go_wp2
    go_ret
    exact ⟨rfl, HT1.out⟩

/-- a write of 128 octets, whatever comes of it -/
theorem Write_any {base sb bb mb : Nat} {pv : Value} {D : Dv} (k : Nat) (g o c : Nat) (b : List UInt8) (w : World) (h : DevAt w base sb bb mb pv D) (hbase : base ≤ w.heap.size) (hk : k < D.n) (hb : b.length = 128) (hr : w.rangeAt g o (b.map bv)) (hg0 : ¬ Foot sb bb mb pv g) (hpl : D.pend.length ≤ 1000) :
    Calls Try.prog 14 #[.pointer (some ⟨sb, 0, none⟩), .int .i64 k, .slice (some ⟨g, o, none⟩) 128 c] w fun e w' => e = .returned (.int .i64 (writeE D k)) ∧ ∃ pv', Turn base sb bb mb w pv w' pv' (writeD D k b) := by
  by_cases h1 : startE D = 0 ∧ incl (D.flt k) 2 = false
  · obtain ⟨h1, h2⟩ := h1
    have e1 : writeE D k = 0 := by unfold writeE; rw [h1, h2]; rfl
    refine (Write_try k g o c b w h hbase hk hb hr hg0 h1 h2 hpl).mono fun e w' ⟨he, pv', ht⟩ => ⟨by rw [e1]; exact he, pv', ?_⟩
    rw [writeD, if_pos e1]
    exact ht
  · have h2 : startE D ≠ 0 ∨ incl (D.flt k) 2 = true := by
      by_cases e : startE D = 0
      · right
        cases hf : incl (D.flt k) 2 with
        | true => rfl
        | false => exact absurd ⟨e, hf⟩ h1
      · exact .inl e
    have e1 : writeE D k ≠ 0 := by
      unfold writeE
      rcases h2 with h2 | h2
      · rw [if_pos h2]; exact h2
      · rw [h2]; split
        · assumption
        · simp
    refine (Write_off k _ c w h hk h2).mono fun e w' ⟨he, ht⟩ => ⟨he, pv, ?_⟩
    rw [writeD, if_neg e1]
    exact ht

/-! ### Erase -/
def eraseD (D : Dv) : Dv := if startE D = 0 then { startD D with has := fun _ => List.replicate 128 0, pend := [] } else startD D
theorem zero_block : (Try.prog.info? 67).map (fun i => (i.zero, i.size)) = some (some (.agg (List.replicate 128 (.int .u8 0)).toArray), 128) := by kernel_rfl
theorem under_blocks : Try.prog.underlying 58 = some (.slice 67) := by kernel_rfl
theorem zero_row (m : Nat) (x : Value) (n : Nat) (hm : 0 < m) : ∀ j, j < n * m → ((Builtin.zeroCells (List.replicate m x).toArray n).toList)[j]? = some x := by
  intro j hj
  have hs : (List.replicate m x).toArray.size = m := by simp
  simp only [Builtin.zeroCells, hs, Array.toList_map, List.getElem?_map]
  rw [show (Array.range (n * m)).toList[j]? = some j by simp [hj]]
  have : j % m < m := Nat.mod_lt _ hm
  simp [this]
theorem clear_run {w : World} {bb n c : Nat} {C : Array Value} (h : Bk w bb 67 C) (hs : C.size = n * 128) (hn : 0 < n) (ty : TypeId) :
    ∃ C', (Builtin.clear_ #[58] ty #[.slice (some ⟨bb, 0, none⟩) n c]).run Try.prog w = .ok (.tuple #[]) (w.setRow bb C') ∧ Is128 n (fun _ => List.replicate 128 0) C' := by
  obtain ⟨m, hm⟩ : ∃ m, m = 128 := ⟨_, rfl⟩
  obtain ⟨Z, hZ⟩ : ∃ Z : Array Value, Z = (List.replicate m (.int .u8 0)).toArray := ⟨_, rfl⟩
  have hz : (zeroValue 67).run Try.prog w = .ok (.agg Z) w := by rw [hZ, hm]; exact (zero_of_info zero_block).1 w
  obtain ⟨L, hL⟩ : ∃ L, (Builtin.zeroCells Z n).toList = L := ⟨_, rfl⟩
  have hat : ∀ j, j < n * 128 → L[j]? = some (.int .u8 0) := fun j hj => by rw [← hL, hZ]; exact zero_row m _ n (by omega) j (by rw [hm]; exact hj)
  have hlen : L.length = n * 128 := by rw [← hL, Array.length_toList, size_zeroCells, hZ]; simp [hm]
  have hall : ∀ v ∈ L, v.oneCell' = true := fun v hv => by
    obtain ⟨j, hj, rfl⟩ := List.mem_iff_getElem.1 hv
    have := hat j (by omega)
    rw [List.getElem?_eq_getElem hj] at this
    injection this with this
    rw [this]; rfl
  have hst := run_storeCells_at Try.prog bb 0 67 L 0 C w h (by omega) hall
  refine ⟨(C.toList.take (0 + 0) ++ L ++ C.toList.drop (0 + 0 + L.length)).toArray, ?_, ?_⟩
  · match n, hn with
    | n + 1, _ =>
      simp only [Builtin.clear_]
      simp [run_underlying under_blocks, hz, hst, Value.cells, hL]
  · have e : (C.toList.take (0 + 0) ++ L ++ C.toList.drop (0 + 0 + L.length)) = L := by
      rw [List.drop_eq_nil_of_le (by simp; omega)]; simp
    rw [e]
    refine ⟨by simp [hlen], fun i hi j v hv => ?_⟩
    have hj : j < 128 := by have := (List.getElem?_eq_some_iff.1 hv).1; simpa using this
    rw [List.getElem?_toArray, hat _ (by omega)]
    rw [List.getElem?_map, List.getElem?_replicate, if_pos hj] at hv
    exact hv
theorem DevAt.clear {w : World} {base sb bb mb : Nat} {pv : Value} {D : Dv} (h : DevAt w base sb bb mb pv D) {C' : Array Value} (hC : Is128 D.n (fun _ => List.replicate 128 0) C') :
    Turn base sb bb mb w pv (w.setRow bb C') pv { D with has := fun _ => List.replicate 128 0 } := by
  obtain ⟨a1, a2, a3, a4, a5, a6⟩ := h.apart
  obtain ⟨C, hB, hB'⟩ := h.blk
  obtain ⟨E, hE, hE'⟩ := h.flt
  exact ⟨⟨h.ok.hass (fun _ => by simp), (setRow_other w bb sb _ a1).trans h.str, ⟨_, hB.row _, hC⟩, own_keep h.pen fun j hj => setRow_other w bb j _ (fun e => by subst e; exact a5 hj), ⟨E, map_keep hE (setRow_other w bb mb _ (Ne.symm a3)), hE'⟩, h.bsb, h.bbb, h.bmb⟩, (Fr.refl _ _).setRow (.inl (.inr (.inl rfl))) _, fun j hj => .inl hj⟩

theorem Erase_any {base sb bb mb : Nat} {pv : Value} {D : Dv} (w : World) (h : DevAt w base sb bb mb pv D) :
    Calls Try.prog 26 #[.pointer (some ⟨sb, 0, none⟩)] w fun e w' => e = .returned (.int .i64 (startE D)) ∧ ∃ pv', Turn base sb bb mb w pv w' pv' (eraseD D) := by
  have HD := Lib.hid h
  have hn := h.ok.n2
  have hn1 := h.ok.n1
  obtain ⟨x, hx⟩ : ∃ x, startE D = x := ⟨_, rfl⟩
  have hc := startE_cases D
  rw [hx] at hc
  have HX := Lib.hid hx
  obtain ⟨D1, hD1⟩ : ∃ D1, startD D = D1 := ⟨_, rfl⟩
  have hed : eraseD D = if x = 0 then { D1 with has := fun _ => List.replicate 128 0, pend := [] } else D1 := by unfold eraseD; rw [hx, hD1]
  have HE := Lib.hid hed
  have HD1 := Lib.hid hD1
  rw [hx]
  clear h hx hed hD1
  by_cases h0 : x = 0
  · subst h0
    clear hc
    go_enter Try.func26, Try.ntmps26
    go_wp2_with fail
    refine (start_any _ HD.out).mono ?_
    rintro e w1 ⟨rfl, ht⟩
    rw [HX.out]
    rw [HD1.out] at ht
    have HT1 := Lib.hid ht
    have c0 := ht.dev.c0
    have c1 := ht.dev.c1
    have f1 := ht.dev.fz 1
    have hsb := ht.dev.apart.1
    obtain ⟨C, hC, hC'⟩ := ht.dev.blk
    obtain ⟨A, cap, hpv, _, _⟩ := own_len ht.dev.pen
    rw [hpv] at c1
    have hnn := ht.dev.ok.n1
    have hcl : ∃ C', (∀ ty, (Builtin.clear_ #[58] ty #[.slice (some ⟨bb, 0, none⟩) D1.n D1.n]).run Try.prog w1 = .ok (.tuple #[]) (w1.setRow bb C')) ∧ Is128 D1.n (fun _ => List.replicate 128 0) C' := by
      obtain ⟨C', h1, h2⟩ := clear_run hC hC'.1 (by omega) 0 (c := D1.n)
      exact ⟨C', fun ty => h1, h2⟩
    obtain ⟨C', hrun, hC2⟩ := hcl
    have HC2 := Lib.hid hC2
    have h5 := (HT1.out.dev.clear hC2).dev
    have c1' := h5.c1
    rw [hpv] at c1'
    have f1' := h5.fz 1
    have HPV := Lib.hid hpv
    clear ht hC hC' hC2 h5 hpv hsb
    go_wp2
    go_ret
    refine ⟨rfl, .slice none 0 0, ?_⟩
    rw [HE.out, if_pos trivial]
    have t1 := HT1.out.trans (HT1.out.dev.clear HC2.out)
    exact t1.trans t1.dev.drop
  · have hs := HE.out
    rw [if_neg h0] at hs
    have HE2 := Lib.hid hs
    have hc2 : x = 9 ∨ x = 10 := by omega
    clear hs hc h0
    rcases hc2 with rfl | rfl
    all_goals
      go_enter Try.func26, Try.ntmps26
      go_wp2_with fail
      refine (start_any _ HD.out).mono ?_
      rintro e w1 ⟨rfl, ht⟩
      rw [HX.out]
      rw [HD1.out] at ht
      have HT1 := Lib.hid ht
      clear ht
      go_wp2
      go_ret
      exact ⟨rfl, pv, by rw [HE2.out]; exact HT1.out⟩
end Go.Proofs.Ytpjdnbmeedcafaa
