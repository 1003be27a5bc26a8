/-
  Waits: the blocks of what is pending, in order.
-/
import Derived.Test.YtpjdnbmeedcafaaDev8
namespace Go.Proofs.Ytpjdnbmeedcafaa
open Go.RowKit Go.Maps
set_option linter.unusedVariables false

theorem info_int3 : (Try.prog.info? 3).map (fun i => (i.zero, i.size, i.bytes)) = some (some (.int .i64 0), 1, 8) := by kernel_rfl
def ats (l : List (Nat × List UInt8)) : List Value := l.map fun p => iv (p.1 : Int)
theorem make_ints (m : Nat) (hm : m ≤ 1000) : ∃ X : Array Value, X.size = m ∧ ∀ w : World, (Instr.makeSlice 30 (.int .i64 0) (.int .i64 (m : Int))).run Try.prog w = .ok (.slice (some ⟨w.heap.size, 0, none⟩) 0 m) (w.alloc (.cells X 3)) := by
  obtain ⟨i0, hi0, hib⟩ := Option.map_eq_some_iff.1 info_int3
  simp only [Prod.mk.injEq] at hib
  obtain ⟨hz, hs, hb⟩ := hib
  refine ⟨madeCells #[.int .i64 0] m, size_madeCells _ _, fun w => ?_⟩
  have := run_make (P := Try.prog) w 30 3 i0 _ Try.underlying30 hi0 hz .i64 .i64 0 (m : Int) (Int.le_refl _) (by omega) (by rw [hb]; omega) (by omega)
  simp only [Int.toNat_natCast, hs, Nat.mul_one] at this
  exact this

set_option maxRecDepth 100000 in
set_option maxHeartbeats 1000000 in
theorem Waits_any {base sb bb mb : Nat} {pv : Value} {D : Dv} (w : World) (h : DevAt w base sb bb mb pv D) (hpl : D.pend.length ≤ 1000) :
    Calls Try.prog 31 #[.pointer (some ⟨sb, 0, none⟩)] w fun e w' => ∃ A c, e = .returned (.slice A D.pend.length c) ∧ D.pend.length ≤ c ∧ c ≤ maxLen ∧ Rd w' w'.heap.size A (ats D.pend) ∧ Below w.heap.size w w' := by
  have HD := Lib.hid h
  obtain ⟨A, cp, hpv, hc1, hc2⟩ := own_len h.pen
  have c1 := h.c1
  rw [hpv] at c1
  have HPV := Lib.hid hpv
  have HPL := Lib.hid (fun q hq => (h.ok.pend q hq).2 : ∀ q ∈ D.pend, q.2.length = 128)
  have hsb := h.str.lt
  obtain ⟨m, hm⟩ : ∃ m, D.pend.length = m := ⟨_, rfl⟩
  rw [hm] at c1 hpl
  have HM := Lib.hid hm
  obtain ⟨X, hX, hmk⟩ := make_ints m hpl
  have c1' : ∀ o, (w.alloc o).cell? ⟨sb, 1, none⟩ = some (.slice A m cp) := fun o => by rw [World.cell?_alloc_lt _ _ _ hsb]; exact c1
  obtain ⟨i0, hi', hz0', hz1', hz2'⟩ := info_parts info_int3
  have hi := Lib.hid hi'
  have hz0 := Lib.hid hz0'
  have hz1 := Lib.hid hz1'
  have hz2 := Lib.hid hz2'
  have HO0 : Hid ((w.alloc (.cells X 3)).ownsRow w.heap.size 3 1 (.slice (some ⟨w.heap.size, 0, none⟩) 0 m) 0 (ats (D.pend.take 0))) :=
    ⟨rfl, .inr ⟨w.heap.size, m, X, rfl, Nat.le_refl _, heap_alloc_new w _, Nat.zero_le _, by unfold maxLen; omega, by omega, by simp [ats]⟩⟩
  have HB0 : Hid (Below w.heap.size w (w.alloc (.cells X 3))) := (Below.refl _ _).alloc (Nat.le_refl _) _
  rw [hm]
  clear h hpv hc1 hc2 hm hi' hz0' hz1' hz2' hX hsb
  go_enter Try.func31, Try.ntmps31
  go_wp2_with fail
  clear hmk c1'
  go_loopw [3, 17] (fun l x wr => ∃ k : Nat, k ≤ m ∧ x = .int .i64 (k : Int) ∧ Hid (wr.ownsRow w.heap.size 3 1 l k (ats (D.pend.take k))) ∧ Hid (Below w.heap.size w wr)) (fun _ x _ => m - (intOf x).toNat)
  case atStart => exact ⟨0, Nat.zero_le _, rfl, HO0, HB0⟩
  case round =>
    clear HO0 HB0
    obtain ⟨k, hk, rfl, HO, HB⟩ := hrel
    obtain ⟨Al, cl, rfl, hkc, hcm⟩ := own_len HO.out
    unfold maxLen at hcm
    by_cases hlt : k < m
    · obtain ⟨q, hq⟩ : ∃ q, D.pend[k]? = some q := ⟨_, List.getElem?_eq_getElem (by rw [HM.out]; exact hlt)⟩
      have hql := HPL.out q (List.mem_of_getElem? hq)
      have HQ := Lib.hid hq
      have hrd : Rd wr wr.heap.size A (pcells D.pend) := by
        have := (HD.out.up HB.out).pen
        rw [HPV.out] at this
        exact Rd.own this
      obtain ⟨pb, po, rfl, _, hcell⟩ := hrd.plain (by rw [pcells_length HPL.out, HM.out]; omega)
      have hrb : wr.rangeAt pb (po + k * 129) (pcell q) := by
        intro x v hv
        have hx : x < 129 := by have := (List.getElem?_eq_some_iff.1 hv).1; simpa [pcell, hql] using this
        have := hcell (k * 129 + x) v (by rw [pcells_at HPL.out hq hx]; exact hv)
        rw [← this]; congr 2; omega
      have HRB := Lib.hid hrb
      have HSW := Lib.hid (size_write hql)
      obtain ⟨fs, hfs⟩ := under_write
      have HFS := Lib.hid hfs
      obtain ⟨Z, hZe⟩ : ∃ Z : Array Value, Z = (.int .i64 0 :: List.replicate 128 (.int .u8 0)).toArray := ⟨_, rfl⟩
      have hZ : Z.size = 129 := by rw [hZe]; simp
      have hz : ∀ w, (zeroValue 69).run Try.prog w = .ok (.agg Z) w := by rw [hZe]; exact (zero_of_info zero_write2).1
      have HSZ : Hid (Z.size = (pcell q).toArray.size) := by show _ = _; rw [hZ]; simp [pcell, hql]
      have cq0 : (wr.alloc (.cells (pcell q).toArray 69)).cell? ⟨wr.heap.size, 0, none⟩ = some (.int .i64 (q.1 : Int)) := by
        rw [cell_of_row _ _ _ _ _ _ (heap_alloc_new wr _)]; rfl
      have hszr := HB.out.size
      have hki : (k : Int) + 1 ≤ 1000 := by omega
      clear hrd hcell hrb hq hZe hZ hfs hql
      go_wp2_with (first
        | ((with_reducible show wpList _ _ _ (⟨some 20, _, _, _, _, _⟩ :: _) _ _); go_must (refine wpList_load_mid rfl 69 (.tmp 19) rfl pb (po + k * 129) rfl _ (.struct fs) HRB.out HFS.out rfl HSW.out ?_))
        | ((with_reducible show wpList _ _ _ (⟨none, .store _ _ _, _, _, _, _⟩ :: _) _ _); go_must (refine wpList_store_new rfl 69 (.tmp 5) (.tmp 20) rfl Z (pcell q).toArray rfl rfl (by rw [List.size_toArray]; exact HSW.out) HSZ.out (all_oneCell_toArray (pcell_one q)) ?_))
        | (at_builtin; refine wpList_append_own _ rfl _ _ 30 rfl w.heap.size 3 i0 (.int .i64 0) 1 8 Try.underlying30 hi.out hz0.out hz1.out hz2.out rfl (by decide) _ _ _ rfl ((HO.out.alloc _).alloc _) ⟨wr.heap.size + 1, 0, none⟩ 1 1 [.int .i64 (q.1 : Int)] rfl rfl ?g1 ?g2 ?g3 ?g4 ?g5 ?_))
      case g1 =>
        intro j u hj
        match j, hj with
        | 0, hj =>
          simp at hj; subst hj
          have e : wr.heap.size + 1 = (wr.alloc (.cells (pcell q).toArray 69)).heap.size := by simp
          rw [add_plain, e, cell_of_row _ _ _ _ _ _ (heap_alloc_new _ _)]; rfl
      case g2 => intro u hu; simp at hu; subst hu; rfl
      case g3 => unfold maxLen; omega
      case g4 => omega
      case g5 => simp; omega
      intro v2 w3 hown3 hgrow3 _
      have HO3 : Hid (w3.ownsRow w.heap.size 3 1 v2 (k + 1) (ats (D.pend.take (k + 1)))) := by
        have e2 : ats (D.pend.take (k + 1)) = ats (D.pend.take k) ++ [.int .i64 (q.1 : Int)] := by rw [List.take_add_one, HQ.out]; simp [ats, iv]
        show World.ownsRow _ _ _ _ _ _ _
        rw [e2]; exact hown3
      have HB3 : Hid (Below w.heap.size w w3) := ((HB.out.alloc hszr _).alloc (by simp; omega) _).grown hgrow3 (by simp; omega) (fun g hg => (HO.out.lt g hg).1)
      clear hown3 hgrow3 hz HSZ
      go_wp2_with fail
      go_roundw
      case rel => exact ⟨k + 1, by omega, by go_num, HO3, HB3⟩
      case measure => simp [intOf]; omega
    · obtain rfl : k = m := by omega
      have hall : D.pend.take k = D.pend := List.take_of_length_le (by rw [HM.out]; exact Nat.le_refl _)
      have hO := HO.out
      rw [hall] at hO
      have HO2 := Lib.hid hO
      clear hO hall
      go_wp2_with fail
      go_ret
      exact ⟨Al, cl, rfl, hkc, by unfold maxLen; exact hcm, Rd.own HO2.out, HB.out⟩
end Go.Proofs.Ytpjdnbmeedcafaa
