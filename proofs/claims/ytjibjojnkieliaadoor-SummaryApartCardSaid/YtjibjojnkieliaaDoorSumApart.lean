/-
  Two parts have the same summary just if they are the same. Conditions: crc.halves holds what its text lays, tied to the program.
-/
import Derived.Test.YtjibjojnkieliaaDoorSumAwake
import Derived.Test.YtjibjojnkieliaaDoorCrcTab
import Derived.Test.YtjibjojnkieliaaDoorOpenPart
import Derived.Test.YtjibjojnkieliaaDoorRegTail
import Derived.Test.YtjibjojnkieliaaDoorSumTwo
import Derived.Test.YtjibjojnkieliaaDoorCards
import Derived.Test.YtjibjojnkieliaaDoorTie
import Derived.SevenTiedAt
import Derived.Deep.RegionHeld3
import Derived.BigQuiet
namespace Go.Proofs.YtjibjojnkieliaaDoor.summaryApart
open Go.ChangeShapes Go.WideShapes Go.ChangeAt Go.RowKit
set_option linter.unusedVariables false

theorem str_beqA (a b : List UInt8) : ((str a).toList == (str b).toList) = (a == b) := by rw [str_toList, str_toList]
def slotA6 (i : Nat) : Nat := 52 + i
def waitA6 : Nat → List Nat
  | 1 => [0]
  | 3 => [2]
  | 4 => [1, 3]
  | 7 => [5, 6]
  | 8 => [4, 7]
  | 9 => [8]
  | _ => []
def leaveA6 (z1 z2 : Nat) (s x : Int) (f : Bool) (A : Option Addr) (m c : Nat) (s' x' : Int) (f' : Bool) (A' : Option Addr) (m' c' : Nat) (y1 y2 : ByteArray) (t : Bool) : Nat → Value → World → Prop
  | 0, v, _ => v = .slice (some ⟨z1, 0, none⟩) 128 128
  | 1, v, _ => v = .string y1
  | 2, v, _ => v = .slice (some ⟨z2, 0, none⟩) 128 128
  | 3, v, _ => v = .string y2
  | 4, v, _ => v = .bool t
  | 5, v, _ => v = .agg #[.int .i64 s, .int .i64 x, .bool f, .slice A m c]
  | 6, v, _ => v = .agg #[.int .i64 s', .int .i64 x', .bool f', .slice A' m' c']
  | 7, v, _ => v = .bool t
  | 8, v, _ => v = .bool true
  | _, _, _ => True

set_option maxRecDepth 100000 in
set_option maxHeartbeats 4000000 in
theorem cut (s x : Int) (f : Bool) (A : Option Addr) (n m c : Nat) (L : List En) (s' x' : Int) (f' : Bool) (A' : Option Addr) (n' m' c' : Nat) (L' : List En) (w : World) (hl : L.length = m) (hl' : L'.length = m') (hm : m ≤ 20) (hm' : m' ≤ 20) (hr : Rd w w.heap.size A (ensV L)) (hr' : Rd w w.heap.size A' (ensV L')) (hs : sumsOk L) (hs' : sumsOk L') (ht : Tab w)
    (hfew : ∀ w', Below w.heap.size w w' → Calls Tryd.prog 8 #[.slice A n c] w' fun e w'' => e = .returned (.slice A m c) ∧ w' = w'')
    (hfew' : ∀ w', Below w.heap.size w w' → Calls Tryd.prog 8 #[.slice A' n' c'] w' fun e w'' => e = .returned (.slice A' m' c') ∧ w' = w'') :
    Calls Tryd.prog 7 #[ptV s x f A n c, ptV s' x' f' A' n' c'] w fun e w' => e = .returned (.bool true) ∧ Below w.heap.size w w' := by
  unfold ptV
  have HFEW := Lib.hid hfew
  have HFEW2 := Lib.hid hfew'
  have HL := Lib.hid hl
  have HL2 := Lib.hid hl'
  have HR := Lib.hid hr
  have HR2 := Lib.hid hr'
  have HS := Lib.hid hs
  have HS2 := Lib.hid hs'
  have HT := Lib.hid ht
  have K0 := Bk.new w 24 #[.int .i64 s, .int .i64 x, .bool f, .slice A n c]
  obtain ⟨wa, hwa⟩ : ∃ wa, w.alloc (.cells #[.int .i64 s, .int .i64 x, .bool f, .slice A n c] 24) = wa := ⟨_, rfl⟩
  have hza : wa.heap.size = w.heap.size + 1 := by rw [← hwa]; simp
  have hba : Below w.heap.size w wa := by rw [← hwa]; exact (Below.refl w.heap.size w).alloc (Nat.le_refl _) _
  rw [hwa] at K0
  have K1 := Bk.new wa 24 #[.int .i64 s', .int .i64 x', .bool f', .slice A' n' c']
  obtain ⟨wb, hwb⟩ : ∃ wb, wa.alloc (.cells #[.int .i64 s', .int .i64 x', .bool f', .slice A' n' c'] 24) = wb := ⟨_, rfl⟩
  have hbb : Below w.heap.size w wb := by rw [← hwb]; exact hba.alloc hba.size _
  have K0 := K0.alloc (.cells #[.int .i64 s', .int .i64 x', .bool f', .slice A' n' c'] 24)
  rw [hwb] at K0 K1
  rw [hza] at K1
  have HK0 := Lib.hid K0
  have HK1 := Lib.hid K1
  have HBB := Lib.hid hbb
  have HZA := Lib.hid hza
  have HWA := Lib.hid hwa
  have HWB := Lib.hid hwb
  obtain ⟨VV, hVV⟩ : ∃ VV : Nat → Value, VV = fun ix => ([(.pointer (some ⟨w.heap.size, 3, none⟩)), (.slice A n c), (.slice A m c), (.pointer (some ⟨w.heap.size + 1, 3, none⟩)), (.slice A' n' c'), (.slice A' m' c'), (.pointer (some ⟨w.heap.size, 3, none⟩)), undef, (.pointer (some ⟨w.heap.size + 1, 3, none⟩)), undef] : List Value).getD ix undef := ⟨_, rfl⟩
  have HVV := Lib.hid hVV
  clear hfew hfew' hl hl' hr hr' hs hs' ht K0 K1 hwa hwb hza hba hbb hVV
  go_enter Tryd.func7, Tryd.ntmps7
  go_upto_region 1 with fail
  first | rw [HWA.out] | skip
  first | rw [HZA.out] | skip
  first | rw [HWB.out] | skip
  refine wp_region_states (by kernel_rfl) 10 64 twD twW (TwoJ w.heap.size w.heap.size (w.heap.size + 1) wb VV #[.int .i64 s, .int .i64 x, .bool f, .slice A n c] #[.int .i64 s, .int .i64 x, .bool f, .slice A m c] #[.int .i64 s', .int .i64 x', .bool f', .slice A' n' c'] #[.int .i64 s', .int .i64 x', .bool f', .slice A' m' c']) (by kernel_rfl) rfl ⟨(Below.refl _ _).drew, fun j _ _ _ hj => (nomatch hj), HK0.out.below (Below.refl _ _).drew HK0.out.lt, HK1.out.below (Below.refl _ _).drew HK1.out.lt⟩ ?_ ?_
  · refine (all_succ (all_succ (all_succ (all_succ (all_succ (all_succ (all_succ (all_succ (all_succ (all_succ all_zero ?h0) ?h1) ?h2) ?h3) ?h4) ?h5) ?h6) ?h7) ?h8) ?h9)
    case h0 =>
      intro o ho LL vals aa w' hs hi hcl hdl hJ K hK
      cases ho
      have e0 := hs.outS 2 (.pointer (some ⟨w.heap.size, 0, none⟩)) (by omega) (fun ix hix => twD_ne 2 (by omega) ix) rfl
      go_simp
      exact hK _ _ (hJ.plainE 0 _ (by omega) (by omega) (by omega) (by rw [HVV.out]; rfl))
    case h1 =>
      intro o ho LL vals aa w' hs hi hcl hdl hJ K hK
      cases ho
      have e0 := hs.vs 0 9 (.pointer (some ⟨w.heap.size, 3, none⟩)) (hdl 0 (by simp [twW])) (by omega) rfl (by omega) ((hJ.val 0 (by omega) (by omega) (by omega) (hdl 0 (by simp [twW]))).trans (by rw [HVV.out]; rfl))
      have h7 : LL 7 = false := by
        rw [Bool.eq_false_iff]
        intro h
        rw [hcl 2 (hcl 7 h 2 (by simp [twW])) 1 (by simp [twW])] at hi
        cases hi
      have hb := hJ.b0
      rw [h7, if_neg (by decide)] at hb
      obtain ⟨c0, c1, c2, c3, -⟩ := ent_cells hb
      go_simp
      exact hK _ _ (hJ.plainE 1 _ (by omega) (by omega) (by omega) (by rw [HVV.out]; rfl))
    case h2 =>
      intro o ho LL vals aa w' hs hi hcl hdl hJ K hK
      cases ho
      have e0 := hs.vs 1 10 (.slice A n c) (hdl 1 (by simp [twW])) (by omega) rfl (by omega) ((hJ.val 1 (by omega) (by omega) (by omega) (hdl 1 (by simp [twW]))).trans (by rw [HVV.out]; rfl))
      go_simp
      refine (HFEW.out _ (HBB.out.trans (hJ.below.mono (Nat.le_refl _)))).mono ?_
      rintro e w9 ⟨rfl, rfl⟩
      exact hK _ _ (hJ.plainE 2 _ (by omega) (by omega) (by omega) (by rw [HVV.out]; rfl))
    case h3 =>
      intro o ho LL vals aa w' hs hi hcl hdl hJ K hK
      cases ho
      have e0 := hs.outS 3 (.pointer (some ⟨w.heap.size + 1, 0, none⟩)) (by omega) (fun ix hix => twD_ne 3 (by omega) ix) rfl
      go_simp
      exact hK _ _ (hJ.plainE 3 _ (by omega) (by omega) (by omega) (by rw [HVV.out]; rfl))
    case h4 =>
      intro o ho LL vals aa w' hs hi hcl hdl hJ K hK
      cases ho
      have e0 := hs.vs 3 12 (.pointer (some ⟨w.heap.size + 1, 3, none⟩)) (hdl 3 (by simp [twW])) (by omega) rfl (by omega) ((hJ.val 3 (by omega) (by omega) (by omega) (hdl 3 (by simp [twW]))).trans (by rw [HVV.out]; rfl))
      have h7 : LL 9 = false := by
        rw [Bool.eq_false_iff]
        intro h
        rw [hcl 5 (hcl 9 h 5 (by simp [twW])) 4 (by simp [twW])] at hi
        cases hi
      have hb := hJ.b1
      rw [h7, if_neg (by decide)] at hb
      obtain ⟨c0, c1, c2, c3, -⟩ := ent_cells hb
      go_simp
      exact hK _ _ (hJ.plainE 4 _ (by omega) (by omega) (by omega) (by rw [HVV.out]; rfl))
    case h5 =>
      intro o ho LL vals aa w' hs hi hcl hdl hJ K hK
      cases ho
      have e0 := hs.vs 4 13 (.slice A' n' c') (hdl 4 (by simp [twW])) (by omega) rfl (by omega) ((hJ.val 4 (by omega) (by omega) (by omega) (hdl 4 (by simp [twW]))).trans (by rw [HVV.out]; rfl))
      go_simp
      refine (HFEW2.out _ (HBB.out.trans (hJ.below.mono (Nat.le_refl _)))).mono ?_
      rintro e w9 ⟨rfl, rfl⟩
      exact hK _ _ (hJ.plainE 5 _ (by omega) (by omega) (by omega) (by rw [HVV.out]; rfl))
    case h6 =>
      intro o ho LL vals aa w' hs hi hcl hdl hJ K hK
      cases ho
      have e0 := hs.outS 2 (.pointer (some ⟨w.heap.size, 0, none⟩)) (by omega) (fun ix hix => twD_ne 2 (by omega) ix) rfl
      go_simp
      exact hK _ _ (hJ.plainE 6 _ (by omega) (by omega) (by omega) (by rw [HVV.out]; rfl))
    case h7 =>
      intro o ho LL vals aa w' hs hi hcl hdl hJ K hK
      cases ho
      have e0 := hs.vs 2 11 (.slice A m c) (hdl 2 (by simp [twW])) (by omega) rfl (by omega) ((hJ.val 2 (by omega) (by omega) (by omega) (hdl 2 (by simp [twW]))).trans (by rw [HVV.out]; rfl))
      have e1 := hs.vs 6 15 (.pointer (some ⟨w.heap.size, 3, none⟩)) (hdl 6 (by simp [twW])) (by omega) rfl (by omega) ((hJ.val 6 (by omega) (by omega) (by omega) (hdl 6 (by simp [twW]))).trans (by rw [HVV.out]; rfl))
      have hb := hJ.b0
      rw [hi, if_neg (by decide)] at hb
      obtain ⟨c0, c1, c2, c3, f0, f1, f2, f3⟩ := ent_cells hb
      go_simp
      exact hK undef _ (hJ.st0 (ent3 hb (.slice A m c)) (fun cs h => h.far (p := ⟨w.heap.size, 3, none⟩) (by show w.heap.size + 1 ≠ w.heap.size; omega) _) (hJ.below.setCell (p := ⟨w.heap.size, 3, none⟩) (Nat.le_refl _) _) undef)
    case h8 =>
      intro o ho LL vals aa w' hs hi hcl hdl hJ K hK
      cases ho
      have e0 := hs.outS 3 (.pointer (some ⟨w.heap.size + 1, 0, none⟩)) (by omega) (fun ix hix => twD_ne 3 (by omega) ix) rfl
      go_simp
      exact hK _ _ (hJ.plainE 8 _ (by omega) (by omega) (by omega) (by rw [HVV.out]; rfl))
    case h9 =>
      intro o ho LL vals aa w' hs hi hcl hdl hJ K hK
      cases ho
      have e0 := hs.vs 5 14 (.slice A' m' c') (hdl 5 (by simp [twW])) (by omega) rfl (by omega) ((hJ.val 5 (by omega) (by omega) (by omega) (hdl 5 (by simp [twW]))).trans (by rw [HVV.out]; rfl))
      have e1 := hs.vs 8 16 (.pointer (some ⟨w.heap.size + 1, 3, none⟩)) (hdl 8 (by simp [twW])) (by omega) rfl (by omega) ((hJ.val 8 (by omega) (by omega) (by omega) (hdl 8 (by simp [twW]))).trans (by rw [HVV.out]; rfl))
      have hb := hJ.b1
      rw [hi, if_neg (by decide)] at hb
      obtain ⟨c0, c1, c2, c3, f0, f1, f2, f3⟩ := ent_cells hb
      go_simp
      exact hK undef _ (hJ.st1 (ent3 hb (.slice A' m' c')) (fun cs h => h.far (p := ⟨w.heap.size + 1, 3, none⟩) (by show w.heap.size ≠ w.heap.size + 1; omega) _) (hJ.below.setCell (p := ⟨w.heap.size + 1, 3, none⟩) (Nat.le_succ _) _) undef)
  · intro vals a2 w2 hs hJ
    have G0 : Hid (Bk w2 w.heap.size 24 #[.int .i64 s, .int .i64 x, .bool f, .slice A m c]) := hJ.b0
    have G1 : Hid (Bk w2 (w.heap.size + 1) 24 #[.int .i64 s', .int .i64 x', .bool f', .slice A' m' c']) := hJ.b1
    have HB2 := Lib.hid (HBB.out.trans (hJ.below.mono (Nat.le_refl _)))
    have hval : ∀ i, i < 10 → vals i = ([(.pointer (some ⟨w.heap.size, 3, none⟩)), (.slice A n c), (.slice A m c), (.pointer (some ⟨w.heap.size + 1, 3, none⟩)), (.slice A' n' c'), (.slice A' m' c'), (.pointer (some ⟨w.heap.size, 3, none⟩)), vals 7, (.pointer (some ⟨w.heap.size + 1, 3, none⟩)), vals 9] : List Value).getD i undef := by
      refine (all_succ (all_succ (all_succ (all_succ (all_succ (all_succ (all_succ (all_succ (all_succ (all_succ all_zero ?h0) ?h1) ?h2) ?h3) ?h4) ?h5) ?h6) ?h7) ?h8) ?h9)
      case h0 => exact (hJ.val 0 (by omega) (by omega) (by omega) (by decide)).trans (by rw [HVV.out]; rfl)
      case h1 => exact (hJ.val 1 (by omega) (by omega) (by omega) (by decide)).trans (by rw [HVV.out]; rfl)
      case h2 => exact (hJ.val 2 (by omega) (by omega) (by omega) (by decide)).trans (by rw [HVV.out]; rfl)
      case h3 => exact (hJ.val 3 (by omega) (by omega) (by omega) (by decide)).trans (by rw [HVV.out]; rfl)
      case h4 => exact (hJ.val 4 (by omega) (by omega) (by omega) (by decide)).trans (by rw [HVV.out]; rfl)
      case h5 => exact (hJ.val 5 (by omega) (by omega) (by omega) (by decide)).trans (by rw [HVV.out]; rfl)
      case h6 => exact (hJ.val 6 (by omega) (by omega) (by omega) (by decide)).trans (by rw [HVV.out]; rfl)
      case h7 => rfl
      case h8 => exact (hJ.val 8 (by omega) (by omega) (by omega) (by decide)).trans (by rw [HVV.out]; rfl)
      case h9 => rfl
    have ha := hs.frame rfl rfl (fun ix jx _ _ h => twD_apart ix jx h)
    rw [putAll_congr 10 _ hval] at ha
    clear hs hJ hval HVV HK0 HK1 HBB
    subst ha
    simp only [putAll, twD, List.setIfInBounds_toArray, List.set_cons_zero, List.set_cons_succ, List.set_nil, List.getD_cons_zero, List.getD_cons_succ, Nat.reduceAdd, Nat.reduceLT, Nat.reduceEqDiff, if_true, if_false]
    cases hok : ptOk ⟨s, x, f, L⟩ <;> cases hok2 : ptOk ⟨s', x', f', L'⟩
    all_goals
      have HOK := Lib.hid hok
      have HOK2 := Lib.hid hok2
      clear hok hok2
    · obtain ⟨c0, c1, c2, c3, -⟩ := ent_cells G0.out
      go_wp2_with fail
      have HEN := sumEncode_no s x f w.heap.size A m c L w2 HL.out (by omega) (HR.out.below HB2.out) HB2.out.size HOK.out
      unfold ptV at HEN
      refine HEN.mono ?_
      rintro e w3 ⟨rfl, hb⟩
      clear HEN
      have HB3 := Lib.hid (HB2.out.trans (hb.mono HB2.out.size))
      have G0 := Lib.hid (G0.out.below hb G0.out.lt)
      have G1 := Lib.hid (G1.out.below hb G1.out.lt)
      clear hb c0 c1 c2 c3
      obtain ⟨c0, c1, c2, c3, -⟩ := ent_cells G1.out
      go_wp2_with fail
      have HEN := sumEncode_no s' x' f' w.heap.size A' m' c' L' w3 HL2.out (by omega) (HR2.out.below HB3.out) HB3.out.size HOK2.out
      unfold ptV at HEN
      refine HEN.mono ?_
      rintro e w4 ⟨rfl, hb⟩
      clear HEN
      have HB4 := Lib.hid (HB3.out.trans (hb.mono HB3.out.size))
      have G0 := Lib.hid (G0.out.below hb G0.out.lt)
      have G1 := Lib.hid (G1.out.below hb G1.out.lt)
      clear hb c0 c1 c2 c3
      obtain ⟨c0, c1, c2, c3, -⟩ := ent_cells G0.out
      go_wp2_with fail
      have HMY := sumMay_any s x f w.heap.size A m c L false w4 HL.out (by omega) (HR.out.below HB4.out) HB4.out.size HOK.out
      unfold ptV at HMY
      refine HMY.mono ?_
      rintro e w5 ⟨rfl, hb⟩
      have HB5 := Lib.hid (HB4.out.trans (hb.mono HB4.out.size))
      have G0 := Lib.hid (G0.out.below hb G0.out.lt)
      have G1 := Lib.hid (G1.out.below hb G1.out.lt)
      clear hb c0 c1 c2 c3 HMY
      obtain ⟨c0, c1, c2, c3, -⟩ := ent_cells G1.out
      go_wp2_with fail
      have HMY := sumMay_any s' x' f' w.heap.size A' m' c' L' false w5 HL2.out (by omega) (HR2.out.below HB5.out) HB5.out.size HOK2.out
      unfold ptV at HMY
      refine HMY.mono ?_
      rintro e w6 ⟨rfl, hb⟩
      have HB6 := Lib.hid (HB5.out.trans (hb.mono HB5.out.size))
      have G0 := Lib.hid (G0.out.below hb G0.out.lt)
      have G1 := Lib.hid (G1.out.below hb G1.out.lt)
      clear hb c0 c1 c2 c3 HMY
      go_wp2_with fail
      refine (awake_any _ (HT.out.up HB6.out)).mono ?_
      rintro e w7 ⟨rfl, hb⟩
      have HBZ := Lib.hid (HB6.out.trans (hb.mono HB6.out.size))
      clear hb
      go_wp2
      go_ret
      exact ⟨rfl, HBZ.out⟩
    · obtain ⟨c0, c1, c2, c3, -⟩ := ent_cells G0.out
      go_wp2_with fail
      have HEN := sumEncode_no s x f w.heap.size A m c L w2 HL.out (by omega) (HR.out.below HB2.out) HB2.out.size HOK.out
      unfold ptV at HEN
      refine HEN.mono ?_
      rintro e w3 ⟨rfl, hb⟩
      clear HEN
      have HB3 := Lib.hid (HB2.out.trans (hb.mono HB2.out.size))
      have G0 := Lib.hid (G0.out.below hb G0.out.lt)
      have G1 := Lib.hid (G1.out.below hb G1.out.lt)
      clear hb c0 c1 c2 c3
      obtain ⟨c0, c1, c2, c3, -⟩ := ent_cells G1.out
      go_wp2_with fail
      have HEN := sumEncode_yes s' x' f' w.heap.size A' m' c' L' w3 HL2.out (HR2.out.below HB3.out) HB3.out.size HOK2.out HS2.out (HT.out.up HB3.out)
      unfold ptV at HEN
      refine HEN.mono ?_
      rintro e w4 ⟨z2, rfl, hg, hkg, hb⟩
      have Z2 := Lib.hid hkg
      have HZ2 := Lib.hid hg
      clear hg hkg HEN
      have HB4 := Lib.hid (HB3.out.trans (hb.mono HB3.out.size))
      have G0 := Lib.hid (G0.out.below hb G0.out.lt)
      have G1 := Lib.hid (G1.out.below hb G1.out.lt)
      clear hb c0 c1 c2 c3
      obtain ⟨c0, c1, c2, c3, -⟩ := ent_cells G0.out
      go_wp2_with fail
      have HMY := sumMay_any s x f w.heap.size A m c L false w4 HL.out (by omega) (HR.out.below HB4.out) HB4.out.size HOK.out
      unfold ptV at HMY
      refine HMY.mono ?_
      rintro e w5 ⟨rfl, hb⟩
      have HB5 := Lib.hid (HB4.out.trans (hb.mono HB4.out.size))
      have G0 := Lib.hid (G0.out.below hb G0.out.lt)
      have G1 := Lib.hid (G1.out.below hb G1.out.lt)
      clear hb c0 c1 c2 c3 HMY
      go_wp2_with fail
      refine (awake_any _ (HT.out.up HB5.out)).mono ?_
      rintro e w6 ⟨rfl, hb⟩
      have HBZ := Lib.hid (HB5.out.trans (hb.mono HB5.out.size))
      clear hb
      go_wp2
      go_ret
      exact ⟨rfl, HBZ.out⟩
    · obtain ⟨c0, c1, c2, c3, -⟩ := ent_cells G0.out
      go_wp2_with fail
      have HEN := sumEncode_yes s x f w.heap.size A m c L w2 HL.out (HR.out.below HB2.out) HB2.out.size HOK.out HS.out (HT.out.up HB2.out)
      unfold ptV at HEN
      refine HEN.mono ?_
      rintro e w3 ⟨z1, rfl, hg, hkg, hb⟩
      have Z1 := Lib.hid hkg
      have HZ1 := Lib.hid hg
      clear hg hkg HEN
      have HB3 := Lib.hid (HB2.out.trans (hb.mono HB2.out.size))
      have G0 := Lib.hid (G0.out.below hb G0.out.lt)
      have G1 := Lib.hid (G1.out.below hb G1.out.lt)
      clear hb c0 c1 c2 c3
      obtain ⟨c0, c1, c2, c3, -⟩ := ent_cells G1.out
      go_wp2_with fail
      have HEN := sumEncode_no s' x' f' w.heap.size A' m' c' L' w3 HL2.out (by omega) (HR2.out.below HB3.out) HB3.out.size HOK2.out
      unfold ptV at HEN
      refine HEN.mono ?_
      rintro e w4 ⟨rfl, hb⟩
      clear HEN
      have HB4 := Lib.hid (HB3.out.trans (hb.mono HB3.out.size))
      have G0 := Lib.hid (G0.out.below hb G0.out.lt)
      have G1 := Lib.hid (G1.out.below hb G1.out.lt)
      have Z1 := Lib.hid (Z1.out.below hb Z1.out.lt)
      clear hb c0 c1 c2 c3
      obtain ⟨c0, c1, c2, c3, -⟩ := ent_cells G1.out
      go_wp2_with fail
      have HMY := sumMay_any s' x' f' w.heap.size A' m' c' L' false w4 HL2.out (by omega) (HR2.out.below HB4.out) HB4.out.size HOK2.out
      unfold ptV at HMY
      refine HMY.mono ?_
      rintro e w5 ⟨rfl, hb⟩
      have HB5 := Lib.hid (HB4.out.trans (hb.mono HB4.out.size))
      have G0 := Lib.hid (G0.out.below hb G0.out.lt)
      have G1 := Lib.hid (G1.out.below hb G1.out.lt)
      clear hb c0 c1 c2 c3 HMY
      go_wp2_with fail
      refine (awake_any _ (HT.out.up HB5.out)).mono ?_
      rintro e w6 ⟨rfl, hb⟩
      have HBZ := Lib.hid (HB5.out.trans (hb.mono HB5.out.size))
      clear hb
      go_wp2
      go_ret
      exact ⟨rfl, HBZ.out⟩
    · obtain ⟨c0, c1, c2, c3, -⟩ := ent_cells G0.out
      go_wp2_with fail
      have HEN := sumEncode_yes s x f w.heap.size A m c L w2 HL.out (HR.out.below HB2.out) HB2.out.size HOK.out HS.out (HT.out.up HB2.out)
      unfold ptV at HEN
      refine HEN.mono ?_
      rintro e w3 ⟨z1, rfl, hg, hkg, hb⟩
      have Z1 := Lib.hid hkg
      have HZ1 := Lib.hid hg
      clear hg hkg HEN
      have HB3 := Lib.hid (HB2.out.trans (hb.mono HB2.out.size))
      have G0 := Lib.hid (G0.out.below hb G0.out.lt)
      have G1 := Lib.hid (G1.out.below hb G1.out.lt)
      clear hb c0 c1 c2 c3
      obtain ⟨c0, c1, c2, c3, -⟩ := ent_cells G1.out
      go_wp2_with fail
      have HEN := sumEncode_yes s' x' f' w.heap.size A' m' c' L' w3 HL2.out (HR2.out.below HB3.out) HB3.out.size HOK2.out HS2.out (HT.out.up HB3.out)
      unfold ptV at HEN
      refine HEN.mono ?_
      rintro e w4 ⟨z2, rfl, hg, hkg, hb⟩
      have Z2 := Lib.hid hkg
      have HZ2 := Lib.hid hg
      clear hg hkg HEN
      have HB4 := Lib.hid (HB3.out.trans (hb.mono HB3.out.size))
      have G0 := Lib.hid (G0.out.below hb G0.out.lt)
      have G1 := Lib.hid (G1.out.below hb G1.out.lt)
      have Z1 := Lib.hid (Z1.out.below hb Z1.out.lt)
      clear hb c0 c1 c2 c3
      have HRG1 : Hid (∀ w', Below w4.heap.size w4 w' → Rd w' w'.heap.size (some ⟨z1, 0, none⟩) ((octB ⟨s, x, f, L⟩).map bv)) := fun w' hb => by
        have h := Rd.row (Z1.out.below hb Z1.out.lt)
        simpa using h
      have HRG2 : Hid (∀ w', Below w4.heap.size w4 w' → Rd w' w'.heap.size (some ⟨z2, 0, none⟩) ((octB ⟨s', x', f', L'⟩).map bv)) := fun w' hb => by
        have h := Rd.row (Z2.out.below hb Z2.out.lt)
        simpa using h
      obtain ⟨y1, hy1⟩ : ∃ y, str (octB ⟨s, x, f, L⟩) = y := ⟨_, rfl⟩
      obtain ⟨y2, hy2⟩ : ∃ y, str (octB ⟨s', x', f', L'⟩) = y := ⟨_, rfl⟩
      obtain ⟨t, htt⟩ : ∃ t, (octB ⟨s, x, f, L⟩ == octB ⟨s', x', f', L'⟩) = t := ⟨_, rfl⟩
      have HE : Hid ((y1.toList == y2.toList) = t) := by show _ = _; rw [← hy1, ← hy2, str_beqA, htt]
      have HTT : Hid (t = true ↔ (⟨s, x, f, L⟩ : Pt) = ⟨s', x', f', L'⟩) := by show _ ↔ _; rw [← htt, beq_iff_eq]; exact octB_inj HOK.out HOK2.out HS.out HS2.out
      have HBL1 : Hid ((octB ⟨s, x, f, L⟩).length = 128) := octB_len _ (headOk_yes (ptOk_yes HOK.out).1).2.2.2.2.2
      have HBL2 : Hid ((octB ⟨s', x', f', L'⟩).length = 128) := octB_len _ (headOk_yes (ptOk_yes HOK2.out).1).2.2.2.2.2
      have HCV1 : Hid (∀ w', Below w4.heap.size w4 w' → (convert 26 9 (.slice (some ⟨z1, 0, none⟩) 128 128)).run Tryd.prog w' = .ok (.string y1) w') := fun w' hb => by
        rw [← hy1]
        exact run_conv 26 5 9 Tryd.underlying26 Tryd.underlying5 under_strC 128 128 HBL1.out (HRG1.out w' hb)
      have HCV2 : Hid (∀ w', Below w4.heap.size w4 w' → (convert 26 9 (.slice (some ⟨z2, 0, none⟩) 128 128)).run Tryd.prog w' = .ok (.string y2) w') := fun w' hb => by
        rw [← hy2]
        exact run_conv 26 5 9 Tryd.underlying26 Tryd.underlying5 under_strC 128 128 HBL2.out (HRG2.out w' hb)
      have HG0 : Hid (∀ w', Below w4.heap.size w4 w' → Bk w' w.heap.size 24 #[.int .i64 s, .int .i64 x, .bool f, .slice A m c]) := fun w' hb => G0.out.below hb G0.out.lt
      have HG1 : Hid (∀ w', Below w4.heap.size w4 w' → Bk w' (w.heap.size + 1) 24 #[.int .i64 s', .int .i64 x', .bool f', .slice A' m' c']) := fun w' hb => G1.out.below hb G1.out.lt
      have HSAME : Hid (∀ w', Below w4.heap.size w4 w' → Calls Tryd.prog 15 #[.agg #[.int .i64 s, .int .i64 x, .bool f, .slice A m c], .agg #[.int .i64 s', .int .i64 x', .bool f', .slice A' m' c']] w' fun e w'' => e = .returned (.bool t) ∧ Below w'.heap.size w' w'') := fun w' hb => by
        have hbb := HB4.out.trans (hb.mono HB4.out.size)
        have h := refSame_any s x f A m c L s' x' f' A' m' c' L' t w' HL.out HL2.out (by omega) (by omega) ((HR.out.below hbb).mono hbb.size) ((HR2.out.below hbb).mono hbb.size) HTT.out
        unfold ptV at h
        exact h
      clear hy1 hy2 htt
      go_upto_region 6 with fail
      refine wp_region_tail (by kernel_rfl) 9 64 slotA6 waitA6 (leaveA6 z1 z2 s x f A m c s' x' f' A' m' c' y1 y2 t) rfl
        (by kernel_rfl) (fun i v w w' _ _ h => by unfold leaveA6 at *; split at h <;> exact h) ?_ ?_
      · intro i hi
        match i, hi with
        | 0, _ =>
          intro o ho a wc hk hb hd K hK
          cases ho
          have e0 := hk.rest 5 (.slice (some ⟨z1, 0, none⟩) 128 128) (by omega) (by kernel_rfl) rfl
          rw [Array.getD_eq_getD_getElem?] at e0
          go_simp
          exact hK _ _ (Below.refl _ _) rfl
        | 1, _ =>
          intro o ho a wc hk hb hd K hK
          cases ho
          have e0 := hd 0 (by simp [waitA6])
          simp only [leaveA6, slotA6, Nat.reduceAdd, Array.getD_eq_getD_getElem?] at e0
          have hcv := HCV1.out _ hb
          go_simp
          exact hK _ _ (Below.refl _ _) rfl
        | 2, _ =>
          intro o ho a wc hk hb hd K hK
          cases ho
          have e0 := hk.rest 7 (.slice (some ⟨z2, 0, none⟩) 128 128) (by omega) (by kernel_rfl) rfl
          rw [Array.getD_eq_getD_getElem?] at e0
          go_simp
          exact hK _ _ (Below.refl _ _) rfl
        | 3, _ =>
          intro o ho a wc hk hb hd K hK
          cases ho
          have e0 := hd 2 (by simp [waitA6])
          simp only [leaveA6, slotA6, Nat.reduceAdd, Array.getD_eq_getD_getElem?] at e0
          have hcv := HCV2.out _ hb
          go_simp
          exact hK _ _ (Below.refl _ _) rfl
        | 4, _ =>
          intro o ho a wc hk hb hd K hK
          cases ho
          have e0 := hd 1 (by simp [waitA6])
          have e1 := hd 3 (by simp [waitA6])
          simp only [leaveA6, slotA6, Nat.reduceAdd, Array.getD_eq_getD_getElem?] at e0 e1
          have hE := HE.out
          go_simp
          exact hK _ _ (Below.refl _ _) rfl
        | 5, _ =>
          intro o ho a wc hk hb hd K hK
          cases ho
          have e0 := hk.rest 2 (.pointer (some ⟨w.heap.size, 0, none⟩)) (by omega) (by kernel_rfl) rfl
          rw [Array.getD_eq_getD_getElem?] at e0
          obtain ⟨c0, c1, c2, c3, -⟩ := ent_cells (HG0.out _ hb)
          go_simp
          exact hK _ _ (Below.refl _ _) rfl
        | 6, _ =>
          intro o ho a wc hk hb hd K hK
          cases ho
          have e0 := hk.rest 3 (.pointer (some ⟨w.heap.size + 1, 0, none⟩)) (by omega) (by kernel_rfl) rfl
          rw [Array.getD_eq_getD_getElem?] at e0
          obtain ⟨c0, c1, c2, c3, -⟩ := ent_cells (HG1.out _ hb)
          go_simp
          exact hK _ _ (Below.refl _ _) rfl
        | 7, _ =>
          intro o ho a wc hk hb hd K hK
          cases ho
          have e0 := hd 5 (by simp [waitA6])
          have e1 := hd 6 (by simp [waitA6])
          simp only [leaveA6, slotA6, Nat.reduceAdd, Array.getD_eq_getD_getElem?] at e0 e1
          go_simp
          refine (HSAME.out _ hb).mono ?_
          rintro e w9 ⟨rfl, hb9⟩
          exact hK _ _ hb9 rfl
        | 8, _ =>
          intro o ho a wc hk hb hd K hK
          cases ho
          have e0 := hd 4 (by simp [waitA6])
          have e1 := hd 7 (by simp [waitA6])
          simp only [leaveA6, slotA6, Nat.reduceAdd, Array.getD_eq_getD_getElem?] at e0 e1
          go_simp
          exact hK _ _ (Below.refl _ _) rfl
        | _ + 9, h => exact absurd h (by omega)
      · intro vals w6 hb hR
        have v0 := hR 0 (by omega)
        have v1 := hR 1 (by omega)
        have v2 := hR 2 (by omega)
        have v3 := hR 3 (by omega)
        have v4 := hR 4 (by omega)
        have v5 := hR 5 (by omega)
        have v6 := hR 6 (by omega)
        have v7 := hR 7 (by omega)
        have v8 := hR 8 (by omega)
        simp only [leaveA6] at v0 v1 v2 v3 v4 v5 v6 v7 v8
        clear hR
        simp only [putAll, slotA6, Nat.reduceAdd, List.setIfInBounds_toArray, List.set_cons_zero, List.set_cons_succ, List.drop_succ_cons, List.drop_zero, v0, v1, v2, v3, v4, v5, v6, v7, v8]
        clear v0 v1 v2 v3 v4 v5 v6 v7 v8
        have HB6 := Lib.hid (HB4.out.trans (hb.mono HB4.out.size))
        clear hb
        go_wp2_with fail
        refine (awake_any _ (HT.out.up HB6.out)).mono ?_
        rintro e w9 ⟨rfl, hb⟩
        have HBZ := Lib.hid (HB6.out.trans (hb.mono HB6.out.size))
        clear hb
        go_wp2
        go_ret
        exact ⟨rfl, HBZ.out⟩
theorem walk (s x : Int) (f : Bool) (A : Option Addr) (c : Nat) (l : List En) (s' x' : Int) (f' : Bool) (A' : Option Addr) (c' : Nat) (l' : List En) (w : World) (h : EntsAt w A c l) (h' : EntsAt w A' c' l') (ht : Tab w) :
    Calls Tryd.prog 7 #[ptV s x f A l.length c, ptV s' x' f' A' l'.length c'] w fun e w' => e = .returned (.bool true) ∧ Below w.heap.size w w' := by
  obtain ⟨hc, hcm, hr, hs⟩ := h
  obtain ⟨hc', hcm', hr', hs'⟩ := h'
  exact cut s x f A _ (l.take 20).length c (l.take 20) s' x' f' A' _ (l'.take 20).length c' (l'.take 20) w rfl rfl (by rw [List.length_take]; omega) (by rw [List.length_take]; omega) (by rw [ensV_take]; exact hr.take _) (by rw [ensV_take]; exact hr'.take _) (sumsOk_take hs 20) (sumsOk_take hs' 20) ht
    (fun w' hb => fewEn_any w.heap.size A _ c l w' rfl (hr.below hb) hc hcm) (fun w' hb => fewEn_any w.heap.size A' _ c' l' w' rfl (hr'.below hb) hc' hcm')

set_option maxRecDepth 100000 in
theorem lifted (os : Os) (started : os.Started) (H : Type) (enc : TypeId × Value → H) :
    ReturnsInHanded {} Tryd.checked os 7 .any (fun w args => (Rows.summaryApartSpec.pre enc Tryd.prog Tryd.f7 [] false w args ∧ laidMetH Tryd.prog laidHalves w) ∧ sizedMet enc Tryd.prog Tryd.f7 (OpenSpec.ofChange Rows.summaryApartSpec) false w args) (Rows.summaryApartSpec.post enc Tryd.prog Tryd.f7 false true false false) := by
  refine returnsInHanded_of_change_and (C := Tryd.checked) (X := fun w _ => laidMetH Tryd.prog laidHalves w) (fun _ _ _ hh h => h.of_heap hh) own started (by kernel_rfl) Tryd.func7
    (ChangeSpec.witness_shaped (enc := enc) (C := Tryd.checked) (os := os) (X := fun w _ => laidMetH Tryd.prog laidHalves w) false (World.doorLaid Tryd.prog 400 os) #[.agg #[.int .i64 0, .int .i64 0, .bool false, .slice none 0 0], .agg #[.int .i64 0, .int .i64 0, .bool false, .slice none 0 0]] 8 rfl (World.shaped_of_RefB (by kernel_rfl) (by kernel_rfl)) (by kernel_rfl) (by kernel_rfl) (by kernel_rfl) (door_met os _)) ?_
  intro W base args ds gs before hval0 hW _ _ hL _
  have hTab := tab_of_laid hL
  have hval : ∀ (j : Nat) t v, Tryd.f7.params[j]? = some t → args[j]? = some v → Value.okWide Tryd.prog W .any base t v := hval0
  have hW' := hW
  obtain ⟨p, q, hA0, hV, rfl, hfz, hnd⟩ := hW
  have hA : DataW.TrodAll enc Tryd.prog W 0 (fun _ => true) true Tryd.f7.params.toList args.toList ds p := hA0
  rw [Tryd.params7] at hA hval
  obtain ⟨v0, vs0, d0, ds0, p0, q0, hargs, rfl, rfl, h0, r0⟩ := trodAll_cons hA
  obtain ⟨v1, vs1, d1, ds1, p1, q1, rfl, rfl, rfl, h1, r1⟩ := trodAll_cons r0
  obtain ⟨rfl, rfl, rfl⟩ := trodAll_nil r1
  obtain rfl : args = #[v0, v1] := by cases args; simp_all
  obtain ⟨rfl, rfl⟩ := trodVars_none hV
  have lt0 : ∀ x ∈ p0, x.block < W.heap.size := by obtain ⟨m, hm⟩ := h0; exact DataW.trod_lt m _ _ _ hm
  obtain ⟨y0_0, y0_1, y0_2, y0_3, y0_4, y0_5, hb0, rfl⟩ := part_in (hval 0 24 v0 rfl rfl) h0
  have lt1 : ∀ x ∈ p1, x.block < W.heap.size := by obtain ⟨m, hm⟩ := h1; exact DataW.trod_lt m _ _ _ hm
  obtain ⟨y1_0, y1_1, y1_2, y1_3, y1_4, y1_5, hb1, rfl⟩ := part_in (hval 1 24 v1 rfl rfl) h1
  clear hA0 hval0
  refine (walk y0_0 y0_1 y0_2 y0_3 y0_4 y0_5 y1_0 y1_1 y1_2 y1_3 y1_4 y1_5 W hb0 hb1 hTab).mono fun e W' ⟨he, bel⟩ => ?_
  subst he
  exact ⟨_, rfl, _, _, _, [], _, [], hW', trodAll_mk1 (shut_bool Tryd.underlying4 _), (trodAll_cons_mk (Below.trod laidOut (by kernel_rfl) (of_decide_eq_true (by kernel_rfl)) h0 bel lt0) (trodAll_cons_mk (Below.trod laidOut (by kernel_rfl) (of_decide_eq_true (by kernel_rfl)) h1 bel lt1) trodAll_mk0)), rfl, bel.frame _, fun h => by cases h⟩

theorem over : Rows.summaryApartRow.holds Tryd.pinned (OpenSpec.ofChange Rows.summaryApartSpec) :=
  OpenClaim.holds_of_wide 7 Tryd.f7 rfl rfl rfl rfl rfl rfl rfl ⟨rfl, rfl, rfl, rfl, rfl⟩ rfl rfl rfl rfl rfl (by kernel_rfl) Tryd.func7 (by kernel_rfl)
    (of_decide_eq_true (by kernel_rfl)) (by unfold Func.isWrapper; first | (rw [if_pos (by decide +kernel)]; kernel_rfl) | (rw [if_neg (by decide +kernel)]; exact ⟨rfl, rfl⟩))
    (fun os started H enc _ => lifted os started H enc)

theorem proved : Rows.SummaryApartCardSaid :=
  Claim7.holds_tied_plain_at .later [] [.data] true _ false
    over (fun _ h => by cases h) (by kernel_rfl) (fun _ h => by cases h) summaryApart_row_tie rfl ⟨rfl, rfl⟩ (by kernel_rfl) rfl
    (fun f fn hf hfn => by
      obtain rfl : f = 7 := Option.some.inj ((show Tryd.prog.funcNamed "haymow/haymowlaw06.SummaryApart" = some 7 by kernel_rfl).symm.trans hf) |>.symm
      obtain rfl : fn = Tryd.f7 := (Option.some.inj (Tryd.func7.symm.trans hfn)).symm
      exact ⟨by kernel_rfl, fun j t ht => by
        rw [Tryd.params7] at ht
        have hm : t ∈ [24, 24] := by simpa using Array.mem_of_getElem? ht
        have hall : ([24, 24].all fun u => !Tryd.prog.wantsStandIn u) = true := by kernel_rfl
        exact (show Tryd.prog.wantsStandIn t = false by simpa using List.all_eq_true.1 hall t hm)⟩)
    (by kernel_rfl)
#print axioms proved
end Go.Proofs.YtjibjojnkieliaaDoor.summaryApart
