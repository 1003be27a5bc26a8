/-
  What the functions of reach answer, as properties (shown of the landed code elsewhere), and the chapter's examples by them.
-/
import Derived.Test.YtipeeidkfhddcaaDoorRef08c
import Derived.Test.YtipeeidkfhddcaaDoorRef08d
import Derived.Test.YtipeeidkfhddcaaDoorReachT
namespace Go.Proofs.YtipeeidkfhddcaaDoor
open Go.RowKit
set_option maxRecDepth 100000
set_option linter.unusedVariables false

def errP (n : Int) : Int := if 0 ≤ n ∧ n ≤ 3620 then 0 else 4
def errN (n : Int) : Int := if 0 ≤ n ∧ n < 258 then 0 else 4
def errR (r : Int) : Int := if r < 0 then 4 else 0
def valR (r : Int) : Int := if r < 0 then 0 else r
theorem via1 {a b : World} (h : Hid (Below a.heap.size a b)) : Below a.heap.size a b := h
theorem via2 {a b c : World} (h : Below b.heap.size b c) (h' : Hid (Below a.heap.size a b)) : Below a.heap.size a c := h'.out.trans (h.mono h'.out.size)
/-! Each is said of a base world: of any world that has it unchanged below. -/
structure PathC (w0 : World) : Prop where
  call : ∀ (n : Int) (l : List Int) (q : Int) (w : World), refP n = l → errP n = q → (hB : Below w0.heap.size w0 w := by first | exact Below.refl _ _ | assumption | exact via1 (by assumption) | exact via2 (by assumption) (by assumption)) → (hn : -9223372036854775808 ≤ n ∧ n ≤ 9223372036854775807 := by omega) →
  Calls Tryd.prog 10 #[.int .i64 n] w fun e w' => ∃ A k c, e = .returned (.tuple #[.slice A k c, .int .i64 q]) ∧ l.length = k ∧ k ≤ c ∧ c ≤ maxLen ∧ Rd w' w'.heap.size A (l.map iv) ∧ Below w.heap.size w w'
structure NodeC (w0 : World) : Prop where
  call : ∀ (n : Int) (l : List Int) (q : Int) (w : World), refN n = l → errN n = q → (hB : Below w0.heap.size w0 w := by first | exact Below.refl _ _ | assumption | exact via1 (by assumption) | exact via2 (by assumption) (by assumption)) → (hn : -9223372036854775808 ≤ n ∧ n ≤ 9223372036854775807 := by omega) →
  Calls Tryd.prog 18 #[.int .i64 n] w fun e w' => ∃ A k c, e = .returned (.tuple #[.slice A k c, .int .i64 q]) ∧ l.length = k ∧ k ≤ c ∧ c ≤ maxLen ∧ Rd w' w'.heap.size A (l.map iv) ∧ Below w.heap.size w w'
structure BlockC (w0 : World) : Prop where
  call : ∀ (A : Option Addr) (m c : Nat) (l : List Int) (r x q : Int) (w : World), l.length = m → m ≤ c → c ≤ maxLen → Rd w w.heap.size A (l.map iv) → IsBlk l r → valR r = x → errR r = q → (hB : Below w0.heap.size w0 w := by first | exact Below.refl _ _ | assumption | exact via1 (by assumption) | exact via2 (by assumption) (by assumption)) →
  Calls Tryd.prog 13 #[.slice A m c] w fun e w' => e = .returned (.tuple #[.int .i64 x, .int .i64 q]) ∧ Below w.heap.size w w'
structure NumberC (w0 : World) : Prop where
  call : ∀ (A : Option Addr) (m c : Nat) (l : List Int) (r x q : Int) (w : World), l.length = m → m ≤ c → c ≤ maxLen → Rd w w.heap.size A (l.map iv) → IsNum l r → valR r = x → errR r = q → (hB : Below w0.heap.size w0 w := by first | exact Below.refl _ _ | assumption | exact via1 (by assumption) | exact via2 (by assumption) (by assumption)) →
  Calls Tryd.prog 16 #[.slice A m c] w fun e w' => e = .returned (.tuple #[.int .i64 x, .int .i64 q]) ∧ Below w.heap.size w w'
structure CountC (w0 : World) : Prop where
  call : ∀ (n : Int) (x : Nat) (w : World), ndsI n = x → (hB : Below w0.heap.size w0 w := by first | exact Below.refl _ _ | assumption | exact via1 (by assumption) | exact via2 (by assumption) (by assumption)) → (hn : -9223372036854775808 ≤ n ∧ n ≤ 9223372036854775807 := by omega) →
  Calls Tryd.prog 23 #[.int .i64 n] w fun e w' => e = .returned (.int .i64 (x : Int)) ∧ Below w.heap.size w w'
/-- the blocks of a list that lie in a file -/
def okL (l : List Int) : Prop := ∀ b ∈ l, 0 ≤ b ∧ b ≤ 3620
structure NodesC (w0 : World) : Prop where
  call : ∀ (A : Option Addr) (m c : Nat) (l : List Int) (w : World), l.length = m → m ≤ c → c ≤ maxLen → m ≤ 1000 → Rd w w.heap.size A (l.map iv) → (∀ y ∈ l, -9223372036854775808 ≤ y ∧ y ≤ 9223372036854775807) → (hB : Below w0.heap.size w0 w := by first | exact Below.refl _ _ | assumption | exact via1 (by assumption) | exact via2 (by assumption) (by assumption)) →
  Calls Tryd.prog 20 #[.slice A m c] w fun e w' => ∃ A' k c' ns q, e = .returned (.tuple #[.slice A' k c', .int .i64 q]) ∧ ((okL l ∧ ns = idxF (onL (l.map Int.toNat)) 258 ∧ q = 0) ∨ (¬ okL l ∧ ns = [] ∧ q = 4)) ∧ ns.length = k ∧ k ≤ c' ∧ c' ≤ maxLen ∧ Rd w' w'.heap.size A' (ns.map iv) ∧ Below w.heap.size w w'
structure SizeC (w0 : World) : Prop where
  call : ∀ (n : Int) (w : World), -9223372036854775808 ≤ n → n ≤ 9223372036854775807 →
  Calls Tryd.prog 25 #[.int .i64 n] w fun e w' => e = .returned (.int .i64 (if 0 < n then (n + 127) / 128 else 0)) ∧ Below w.heap.size w w'
theorem PathC.up {a b : World} (h : PathC a) (hb : Below a.heap.size a b) : PathC b := ⟨fun n l q w h1 h2 h3 h4 => h.call n l q w h1 h2 (hb.trans (h3.mono hb.size)) h4⟩
theorem NumberC.up {a b : World} (h : NumberC a) (hb : Below a.heap.size a b) : NumberC b := ⟨fun A m c l r x q w h1 h2 h3 h4 h5 h6 h7 h8 => h.call A m c l r x q w h1 h2 h3 h4 h5 h6 h7 (hb.trans (h8.mono hb.size))⟩
theorem CountC.up {a b : World} (h : CountC a) (hb : Below a.heap.size a b) : CountC b := ⟨fun n x w h1 h2 h3 => h.call n x w h1 (hb.trans (h2.mono hb.size)) h3⟩
structure AwakeC (w0 : World) : Prop where
  call : ∀ (w : World), (hB : Below w0.heap.size w0 w := by first | exact Below.refl _ _ | assumption | exact via1 (by assumption) | exact via2 (by assumption) (by assumption)) → Calls Tryd.prog 15 #[] w fun e w' => e = .returned (.bool true) ∧ Below w.heap.size w w'
theorem isNum_5 : IsNum [7, 2] 5 := .inl ⟨5, by omega, by decide +kernel, rfl⟩
theorem isNum_49 : IsNum [8, 1, 1] 49 := .inl ⟨49, by omega, by decide +kernel, rfl⟩

set_option maxHeartbeats 2000000 in
theorem awakeR_base (w : World) (HPC : PathC w) (HNC : NumberC w) (HCC : CountC w) : Calls Tryd.prog 15 #[] w fun e w' => e = .returned (.bool true) ∧ Below w.heap.size w w' := by
  have HPC := Lib.hid HPC
  have HNC := Lib.hid HNC
  have HCC := Lib.hid HCC
  go_enter Tryd.func15, Tryd.ntmps15
  go_wp2_with fail
  refine (HPC.out.call 5 [5] 0 _ (by decide +kernel) (by decide +kernel)).mono ?_
  rintro e w1 ⟨A1, k1, c1, rfl, hl1, -, hm1, hr1, hb1⟩
  have HB := Lib.hid hb1
  obtain rfl : k1 = 1 := hl1.symm
  have HR1 := Lib.hid hr1
  clear hr1 hb1 hl1
  go_wp2_with fail
  refine (HPC.out.call 6 [6, 0] 0 _ (by decide +kernel) (by decide +kernel)).mono ?_
  rintro e w2 ⟨A2, k2, c2, rfl, hl2, -, hm2, hr2, hb2⟩
  have HR1 := Lib.hid ((HR1.out.below hb2).mono hb2.size)
  have HB := Lib.hid (HB.out.trans (hb2.mono HB.out.size))
  obtain rfl : k2 = 2 := hl2.symm
  have HR2 := Lib.hid hr2
  clear hr2 hb2 hl2
  go_wp2_with fail
  refine (HPC.out.call 21 [7, 0, 0] 0 _ (by decide +kernel) (by decide +kernel)).mono ?_
  rintro e w3 ⟨A3, k3, c3, rfl, hl3, -, hm3, hr3, hb3⟩
  have HR1 := Lib.hid ((HR1.out.below hb3).mono hb3.size)
  have HR2 := Lib.hid ((HR2.out.below hb3).mono hb3.size)
  have HB := Lib.hid (HB.out.trans (hb3.mono HB.out.size))
  obtain rfl : k3 = 3 := hl3.symm
  have HR3 := Lib.hid hr3
  clear hr3 hb3 hl3
  go_wp2_with fail
  refine (HPC.out.call 246 [8, 0, 0, 0] 0 _ (by decide +kernel) (by decide +kernel)).mono ?_
  rintro e w4 ⟨A4, k4, c4, rfl, hl4, -, hm4, hr4, hb4⟩
  have HR1 := Lib.hid ((HR1.out.below hb4).mono hb4.size)
  have HR2 := Lib.hid ((HR2.out.below hb4).mono hb4.size)
  have HR3 := Lib.hid ((HR3.out.below hb4).mono hb4.size)
  have HB := Lib.hid (HB.out.trans (hb4.mono HB.out.size))
  obtain rfl : k4 = 4 := hl4.symm
  have HR4 := Lib.hid hr4
  clear hr4 hb4 hl4
  go_wp2_with fail
  have hba := (Below.refl w4.heap.size w4).alloc (Nat.le_refl _) (.cells #[.int .i64 7, .int .i64 2] 3)
  refine (HNC.out.call _ 2 2 [7, 2] 5 5 0 _ rfl (Nat.le_refl _) (by simp [maxLen]) (Rd.bk (Bk.new w4 3 #[.int .i64 7, .int .i64 2])) isNum_5 (by decide +kernel) (by decide +kernel)).mono ?_
  rintro e w5 ⟨rfl, hb⟩
  have hbb := hba.trans (hb.mono hba.size)
  have HR1 := Lib.hid ((HR1.out.below hbb).mono hbb.size)
  have HR2 := Lib.hid ((HR2.out.below hbb).mono hbb.size)
  have HR3 := Lib.hid ((HR3.out.below hbb).mono hbb.size)
  have HR4 := Lib.hid ((HR4.out.below hbb).mono hbb.size)
  have HB := Lib.hid (HB.out.trans (hbb.mono HB.out.size))
  clear hba hb hbb
  go_wp2_with fail
  have hba := (Below.refl w5.heap.size w5).alloc (Nat.le_refl _) (.cells #[.int .i64 8, .int .i64 1, .int .i64 1] 3)
  refine (HNC.out.call _ 3 3 [8, 1, 1] 49 49 0 _ rfl (Nat.le_refl _) (by simp [maxLen]) (Rd.bk (Bk.new w5 3 #[.int .i64 8, .int .i64 1, .int .i64 1])) isNum_49 (by decide +kernel) (by decide +kernel)).mono ?_
  rintro e w6 ⟨rfl, hb⟩
  have hbb := hba.trans (hb.mono hba.size)
  have HR1 := Lib.hid ((HR1.out.below hbb).mono hbb.size)
  have HR2 := Lib.hid ((HR2.out.below hbb).mono hbb.size)
  have HR3 := Lib.hid ((HR3.out.below hbb).mono hbb.size)
  have HR4 := Lib.hid ((HR4.out.below hbb).mono hbb.size)
  have HB := Lib.hid (HB.out.trans (hbb.mono HB.out.size))
  clear hba hb hbb
  go_wp2_with fail
  have hba := (Below.refl w6.heap.size w6).alloc (Nat.le_refl _) (.cells #[.int .i64 5] 3)
  refine (refSame8_any w6.heap.size _ A1 _ 1 c1 1 1 [5] [5] true _ rfl rfl (by omega) (by omega) (HR1.out.below hba) (Rd.bk (Bk.new w6 3 #[.int .i64 5])) hba.size (Nat.le_refl _) (by simp)).mono ?_
  rintro e w7 ⟨rfl, hb⟩
  have hbb := hba.trans (hb.mono hba.size)
  have HR1 := Lib.hid ((HR1.out.below hbb).mono hbb.size)
  have HR2 := Lib.hid ((HR2.out.below hbb).mono hbb.size)
  have HR3 := Lib.hid ((HR3.out.below hbb).mono hbb.size)
  have HR4 := Lib.hid ((HR4.out.below hbb).mono hbb.size)
  have HB := Lib.hid (HB.out.trans (hbb.mono HB.out.size))
  clear hba hb hbb
  go_wp2_with fail
  have hba := (Below.refl w7.heap.size w7).alloc (Nat.le_refl _) (.cells #[.int .i64 6, .int .i64 0] 3)
  refine (refSame8_any w7.heap.size _ A2 _ 2 c2 2 2 [6, 0] [6, 0] true _ rfl rfl (by omega) (by omega) (HR2.out.below hba) (Rd.bk (Bk.new w7 3 #[.int .i64 6, .int .i64 0])) hba.size (Nat.le_refl _) (by simp)).mono ?_
  rintro e w8 ⟨rfl, hb⟩
  have hbb := hba.trans (hb.mono hba.size)
  have HR1 := Lib.hid ((HR1.out.below hbb).mono hbb.size)
  have HR2 := Lib.hid ((HR2.out.below hbb).mono hbb.size)
  have HR3 := Lib.hid ((HR3.out.below hbb).mono hbb.size)
  have HR4 := Lib.hid ((HR4.out.below hbb).mono hbb.size)
  have HB := Lib.hid (HB.out.trans (hbb.mono HB.out.size))
  clear hba hb hbb
  go_wp2_with fail
  have hba := (Below.refl w8.heap.size w8).alloc (Nat.le_refl _) (.cells #[.int .i64 7, .int .i64 0, .int .i64 0] 3)
  refine (refSame8_any w8.heap.size _ A3 _ 3 c3 3 3 [7, 0, 0] [7, 0, 0] true _ rfl rfl (by omega) (by omega) (HR3.out.below hba) (Rd.bk (Bk.new w8 3 #[.int .i64 7, .int .i64 0, .int .i64 0])) hba.size (Nat.le_refl _) (by simp)).mono ?_
  rintro e w9 ⟨rfl, hb⟩
  have hbb := hba.trans (hb.mono hba.size)
  have HR1 := Lib.hid ((HR1.out.below hbb).mono hbb.size)
  have HR2 := Lib.hid ((HR2.out.below hbb).mono hbb.size)
  have HR3 := Lib.hid ((HR3.out.below hbb).mono hbb.size)
  have HR4 := Lib.hid ((HR4.out.below hbb).mono hbb.size)
  have HB := Lib.hid (HB.out.trans (hbb.mono HB.out.size))
  clear hba hb hbb
  go_wp2_with fail
  have hba := (Below.refl w9.heap.size w9).alloc (Nat.le_refl _) (.cells #[.int .i64 8, .int .i64 0, .int .i64 0, .int .i64 0] 3)
  refine (refSame8_any w9.heap.size _ A4 _ 4 c4 4 4 [8, 0, 0, 0] [8, 0, 0, 0] true _ rfl rfl (by omega) (by omega) (HR4.out.below hba) (Rd.bk (Bk.new w9 3 #[.int .i64 8, .int .i64 0, .int .i64 0, .int .i64 0])) hba.size (Nat.le_refl _) (by simp)).mono ?_
  rintro e w10 ⟨rfl, hb⟩
  have hbb := hba.trans (hb.mono hba.size)
  have HR1 := Lib.hid ((HR1.out.below hbb).mono hbb.size)
  have HR2 := Lib.hid ((HR2.out.below hbb).mono hbb.size)
  have HR3 := Lib.hid ((HR3.out.below hbb).mono hbb.size)
  have HR4 := Lib.hid ((HR4.out.below hbb).mono hbb.size)
  have HB := Lib.hid (HB.out.trans (hbb.mono HB.out.size))
  clear hba hb hbb
  go_wp2_with fail
  refine (HCC.out.call 22 3 _ (by decide +kernel)).mono ?_
  rintro e w11 ⟨rfl, hb⟩
  have HB := Lib.hid (HB.out.trans (hb.mono HB.out.size))
  clear hb
  go_wp2
  go_ret
  exact ⟨rfl, HB.out⟩
theorem awakeR_any {w0 : World} (HPC : PathC w0) (HNC : NumberC w0) (HCC : CountC w0) : AwakeC w0 := ⟨fun w hb => awakeR_base w (HPC.up hb) (HNC.up hb) (HCC.up hb)⟩
end Go.Proofs.YtipeeidkfhddcaaDoor
