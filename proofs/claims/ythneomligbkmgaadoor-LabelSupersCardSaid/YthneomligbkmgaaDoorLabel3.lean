/-
  What bytes.Equal does, and what label makes anew of the numbers of a block.
-/
import Derived.Test.YthneomligbkmgaaDoorLabel2
import Derived.Test.YthneomligbkmgaaDoorUnpack
import Derived.BigQuiet
import Derived.BigRegion
namespace Go.Proofs.YthneomligbkmgaaDoor
open Go.RowKit
set_option linter.unusedVariables false

theorem under_str3 : Tryd.prog.underlying 9 = some .string := by kernel_rfl
theorem Equal_any (B B' : Nat) (A A' : Option Addr) (n n' c c' : Nat) (a b : List UInt8) (t : Bool) (w : World) (ha : a.length = n) (hb : b.length = n') (ra : Rd w B A (a.map bv)) (rb : Rd w B' A' (b.map bv)) (ht : (a == b) = t) :
    Calls Tryd.prog 34 #[.slice A n c, .slice A' n' c'] w fun e w' => e = .returned (.bool t) ∧ w = w' := by
  have h1 := run_conv (P := Tryd.prog) 24 5 9 Tryd.underlying24 Tryd.underlying5 under_str3 n c ha ra
  have h2 := run_conv (P := Tryd.prog) 24 5 9 Tryd.underlying24 Tryd.underlying5 under_str3 n' c' hb rb
  have HE : Hid (((str a).toList == (str b).toList) = t) := by rw [str_toList, str_toList]; exact ht
  clear ra rb ha hb ht
  go_enter Tryd.func34, Tryd.ntmps34
  go_wp2
  go_ret
  exact ⟨ret_bool HE.out, rfl⟩

theorem four_cells {w : World} {g : Nat} {t : TypeId} {a b c d : Value} (h : Bk w g t #[a, b, c, d]) : w.cell? ⟨g, 0, none⟩ = some a ∧ w.cell? ⟨g, 1, none⟩ = some b ∧ w.cell? ⟨g, 2, none⟩ = some c ∧ w.cell? ⟨g, 3, none⟩ = some d
    ∧ w.frozen? ⟨g, 0, none⟩ = false ∧ w.frozen? ⟨g, 1, none⟩ = false ∧ w.frozen? ⟨g, 2, none⟩ = false ∧ w.frozen? ⟨g, 3, none⟩ = false := ⟨h.cell 0, h.cell 1, h.cell 2, h.cell 3, h.free 0, h.free 1, h.free 2, h.free 3⟩

/-- what is made anew: a block, or the refusal -/
def Made (base : Nat) (ok : Bool) (bs : List UInt8) (e : Ending) (w' : World) : Prop :=
  ∃ r, e = .returned (.tuple #[r, .int .i64 (if ok then 0 else 1)]) ∧ (ok = true → BlockAt base bs r w') ∧ (ok = false → r = .slice none 0 0)
theorem Made.no (base : Nat) (bs : List UInt8) (w' : World) : Made base false bs (.returned (.tuple #[.slice none 0 0, .int .i64 1])) w' := ⟨_, rfl, fun h => (nomatch h), fun _ => rfl⟩
theorem Made.yes {base : Nat} {bs : List UInt8} {r : Value} {w' : World} (h : BlockAt base bs r w') : Made base true bs (.returned (.tuple #[r, .int .i64 0])) w' := ⟨_, rfl, fun _ => h, fun h => (nomatch h)⟩

theorem drew_size (w : World) : w.drew.heap.size = w.heap.size := rfl
/-- four cells stored twice -/
def put8 (w : World) (g : Nat) (a b c d a' b' c' d' : Value) : World :=
  (((((((w.setCell ⟨g, 0, none⟩ a).setCell ⟨g, 1, none⟩ b).setCell ⟨g, 2, none⟩ c).setCell ⟨g, 3, none⟩ d).setCell ⟨g, 0, none⟩ a').setCell ⟨g, 1, none⟩ b').setCell ⟨g, 2, none⟩ c').setCell ⟨g, 3, none⟩ d'
theorem set4_0 {w : World} {g : Nat} {t : TypeId} {a b c d : Value} (h : Bk w g t #[a, b, c, d]) (u : Value) : Bk (w.setCell ⟨g, 0, none⟩ u) g t #[u, b, c, d] := h.set_ 0 u
theorem set4_1 {w : World} {g : Nat} {t : TypeId} {a b c d : Value} (h : Bk w g t #[a, b, c, d]) (u : Value) : Bk (w.setCell ⟨g, 1, none⟩ u) g t #[a, u, c, d] := h.set_ 1 u
theorem set4_2 {w : World} {g : Nat} {t : TypeId} {a b c d : Value} (h : Bk w g t #[a, b, c, d]) (u : Value) : Bk (w.setCell ⟨g, 2, none⟩ u) g t #[a, b, u, d] := h.set_ 2 u
theorem set4_3 {w : World} {g : Nat} {t : TypeId} {a b c d : Value} (h : Bk w g t #[a, b, c, d]) (u : Value) : Bk (w.setCell ⟨g, 3, none⟩ u) g t #[a, b, c, u] := h.set_ 3 u
theorem put8_bk {w : World} {g : Nat} {t : TypeId} {x0 x1 x2 x3 : Value} (h : Bk w g t #[x0, x1, x2, x3]) (a b c d a' b' c' d' : Value) : Bk (put8 w g a b c d a' b' c' d') g t #[a', b', c', d'] :=
  set4_3 (set4_2 (set4_1 (set4_0 (set4_3 (set4_2 (set4_1 (set4_0 h a) b) c) d) a') b') c') d'
theorem put8_below (w : World) (g : Nat) (a b c d a' b' c' d' : Value) : Below g w (put8 w g a b c d a' b' c' d') :=
  (((((((((Below.refl g w).setCell (p := ⟨g, 0, none⟩) (Nat.le_refl _) a).setCell (p := ⟨g, 1, none⟩) (Nat.le_refl _) b).setCell (p := ⟨g, 2, none⟩) (Nat.le_refl _) c).setCell (p := ⟨g, 3, none⟩) (Nat.le_refl _) d).setCell (p := ⟨g, 0, none⟩) (Nat.le_refl _) a').setCell (p := ⟨g, 1, none⟩) (Nat.le_refl _) b').setCell (p := ⟨g, 2, none⟩) (Nat.le_refl _) c').setCell (p := ⟨g, 3, none⟩) (Nat.le_refl _) d')
theorem put8_size (w : World) (g : Nat) (a b c d a' b' c' d' : Value) : (put8 w g a b c d a' b' c' d').heap.size = w.heap.size := by simp only [put8, World.setCell_size']

set_option maxRecDepth 100000 in
set_option maxHeartbeats 2000000 in
theorem makeSuper_any (B : Nat) (A : Option Addr) (c g x d l v s : Nat) (a0 a1 a2 a3 : Value) (t : Bool) (w : World) (hr : Rd w B A ([x, d, l, v, s].map uv)) (hk : Bk w g 23 #[a0, a1, a2, a3]) (hd : d < 65536) (hl : l < 65536) (hv : v < 65536) (hs : s < 65536) (ht : mayB d l v s = t) (hB : B ≤ w.heap.size) (hT : Tab w) (hg : 0 < g) (hne : ∀ ad, A = some ad → g < ad.block) :
    Calls Tryd.prog 23 #[.slice A 5 c, .pointer (some ⟨g, 0, none⟩)] w fun e w' => Made w.heap.size t (superB d l v s) e w' ∧ Bk w' g 23 #[.int .i64 d, .int .i64 l, .int .i64 v, .int .i64 s] ∧ Below g w w' := by
  obtain ⟨b, o, rfl, hbB, hcell⟩ := hr.plain (by simp)
  have c1 := hcell 1 _ rfl
  have c2 := hcell 2 _ rfl
  have c3 := hcell 3 _ rfl
  have c4 := hcell 4 _ rfl
  unfold uv at c1 c2 c3 c4
  obtain ⟨k0, k1, k2, k3, f0, f1, f2, f3⟩ := four_cells hk
  have n1 := hne _ rfl
  simp only at n1
  have n2 : b ≠ g := by omega
  have n3 : g ≠ b := by omega
  clear hcell hr hne
  go_enter Tryd.func23, Tryd.ntmps23
  go_wp2_with fail
  go_region
  change Exit.then _ _ _ _ (put8 w g (.int .i64 0) (.int .i64 0) (.int .i64 0) (.int .i64 0) (.int .i64 (d : Int)) (.int .i64 (l : Int)) (.int .i64 (v : Int)) (.int .i64 (s : Int))).drew
  obtain ⟨w8, hw8⟩ : ∃ w8, (put8 w g (.int .i64 0) (.int .i64 0) (.int .i64 0) (.int .i64 0) (.int .i64 (d : Int)) (.int .i64 (l : Int)) (.int .i64 (v : Int)) (.int .i64 (s : Int))).drew = w8 := ⟨_, rfl⟩
  have K8 : Hid (Bk w8 g 23 #[.int .i64 (d : Int), .int .i64 (l : Int), .int .i64 (v : Int), .int .i64 (s : Int)]) := by rw [← hw8]; exact (put8_bk hk _ _ _ _ _ _ _ _).drew
  have HB8 : Hid (Below g w w8) := by rw [← hw8]; exact (put8_below w g _ _ _ _ _ _ _ _).drew
  have HZ8 : Hid (w8.heap.size = w.heap.size) := by show _ = _; rw [← hw8, drew_size, put8_size]
  have HT8 := Lib.hid (hT.below HB8.out hg)
  have HGL := Lib.hid hk.lt
  rw [hw8]
  clear hw8 k0 k1 k2 k3 f0 f1 f2 f3 c1 c2 c3 c4 hk hT
  obtain ⟨k0, k1, k2, k3, -⟩ := four_cells K8.out
  have HM := Lib.hid ht
  clear ht
  go_wp2_with fail
  cases t
  · refine (Super_no _ _ _ _ _ HM.out).mono ?_
    rintro e w9 ⟨rfl, hb9⟩
    have HB9 := Lib.hid hb9
    clear hb9
    go_wp2
    go_ret2
    exact ⟨Made.no _ _ _, K8.out.below HB9.out K8.out.lt, HB8.out.trans (HB9.out.mono (Nat.le_of_lt K8.out.lt))⟩
  · refine (Super_yes _ _ _ _ _ HM.out HT8.out).mono ?_
    rintro e w9 ⟨g2, rfl, hg2, hbk, hb9⟩
    have HB9 := Lib.hid hb9
    have HBK := Lib.hid hbk
    have HG2 := Lib.hid hg2
    clear hb9 hbk hg2
    go_wp2
    go_ret2
    exact ⟨Made.yes ⟨g2, rfl, by rw [← HZ8.out]; exact HG2.out, HBK.out⟩, K8.out.below HB9.out K8.out.lt, HB8.out.trans (HB9.out.mono (Nat.le_of_lt K8.out.lt))⟩
end Go.Proofs.YthneomligbkmgaaDoor
