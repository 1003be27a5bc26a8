/-
  What number, Super and Label of package label do, and the call that lays a record into a block.
-/
import Derived.Test.YthneomligbkmgaaDoorPack2
import Derived.Test.YthneomligbkmgaaDoorCrcSeal
import Derived.Test.YthneomligbkmgaaDoorAddr2
import Derived.Test.YthneomligbkmgaaDoorLabelMath
import Derived.Test.YthneomligbkmgaaDoorRegInv
namespace Go.Proofs.YthneomligbkmgaaDoor
open Go.RowKit
set_option linter.unusedVariables false

theorem two_cells {w : World} {g : Nat} {t : TypeId} {u v : Value} (h : Bk w g t #[u, v]) : w.cell? ⟨g, 0, none⟩ = some u ∧ w.cell? ⟨g, 1, none⟩ = some v ∧ w.frozen? ⟨g, 0, none⟩ = false ∧ w.frozen? ⟨g, 1, none⟩ = false := ⟨h.cell 0, h.cell 1, h.free 0, h.free 1⟩
theorem two_puts {w : World} {g : Nat} {t : TypeId} {x y : Value} (h : Bk w g t #[x, y]) (u v : Value) : (w.setCell ⟨g, 0, none⟩ u).cell? ⟨g, 0, none⟩ = some u ∧ ((w.setCell ⟨g, 0, none⟩ u).setCell ⟨g, 1, none⟩ v).cell? ⟨g, 0, none⟩ = some u ∧ ((w.setCell ⟨g, 0, none⟩ u).setCell ⟨g, 1, none⟩ v).cell? ⟨g, 1, none⟩ = some v
    ∧ Bk ((w.setCell ⟨g, 0, none⟩ u).setCell ⟨g, 1, none⟩ v) g t #[u, v] :=
  ⟨(h.set_ 0 u).cell 0, ((h.set_ 0 u).set_ 1 v).cell 0, ((h.set_ 0 u).set_ 1 v).cell 1, (h.set_ 0 u).set_ 1 v⟩

theorem number_any' (n v : Int) (w : World) (h0 : 0 ≤ v) (h1 : v ≤ 9223372036854775807) :
    Calls Tryd.prog 21 #[.int .i64 n, .int .i64 v] w fun e w' => e = .returned (.agg #[.int .i64 n, .int .u64 v]) ∧ Below w.heap.size w w' := by
  have K0 := Bk.new w 52 #[.int .i64 0, .int .u64 0]
  obtain ⟨k0, k1, f0, f1⟩ := two_cells K0
  obtain ⟨p0, p1, p2, _⟩ := two_puts K0 (.int .i64 n) (.int .u64 v)
  go_enter Tryd.func21, Tryd.ntmps21
  go_wp2
  refine bodyPost_ret (v := .agg #[.int .i64 n, .int .u64 v]) (by simp [results, Tryd.results21, go_sem]) rfl ⟨rfl, ?_⟩
  exact (Below.refl _ _).alloc (Nat.le_refl _) _

set_option maxHeartbeats 400000 in
theorem seal_any (B : Nat) (A : Option Addr) (n c : Nat) (l : List Num') (bs : List UInt8) (m : Nat) (w : World) (hl : l.length = n) (h0 : codeL l = 0) (hbs : recs l = bs) (hm : bs.length = m) (hr : Rd w B A (numsV l)) (hB : B ≤ w.heap.size) (hn : n ≤ 4096) (hm' : m ≤ 124) (hv : ∀ p ∈ l, p.2 < 18446744073709551616) (ht : Tab w) :
    Calls Tryd.prog 20 #[.slice A n c] w (Sealed bs w) := by
  have HL := Lib.hid hl
  have H0 := Lib.hid h0
  have HBS := Lib.hid hbs
  have HM := Lib.hid hm
  have HR := Lib.hid hr
  have HV := Lib.hid hv
  have HT := Lib.hid ht
  clear hl h0 hbs hm hr hv ht
  go_enter Tryd.func20, Tryd.ntmps20
  go_wp2_with fail
  refine (Pack_ok B A n c l bs m w HL.out H0.out HBS.out HM.out HR.out hB hn HV.out).mono ?_
  rintro e w1 ⟨A', c', rfl, hc, hcm, hrd, _, hb⟩
  have HB1 := Lib.hid hb
  have HRD := Lib.hid hrd
  have HT1 := Lib.hid (HT.out.up hb)
  clear hrd hb
  go_wp2_with fail
  have hS := Seal_any w1.heap.size A' c' bs w1 HRD.out (Nat.le_refl _) (by rw [HM.out]; exact hm') HT1.out
  rw [HM.out] at hS
  refine hS.mono ?_
  rintro e w2 ⟨g, rfl, hg, hbk, hb2⟩
  have HG := Lib.hid (show Bk w2 g 5 ((sealB bs).map bv).toArray ∧ w.heap.size ≤ g ∧ Below w.heap.size w w2 from ⟨hbk, by have := HB1.out.size; omega, HB1.out.trans (hb2.mono HB1.out.size)⟩)
  clear hbk hb2 hS hg
  go_wp2
  go_ret2
  exact ⟨g, rfl, HG.out.2.1, HG.out.1, HG.out.2.2⟩
end Go.Proofs.YthneomligbkmgaaDoor
