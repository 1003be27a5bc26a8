/-
  What within, number, valid, May of package inode do, one contract each.
-/
import Derived.Test.YtnipfonglheofaaDoorInoMem
import Derived.Test.YtnipfonglheofaaDoorPack2
import Derived.Test.YtnipfonglheofaaDoorCrc
namespace Go.Proofs.YtnipfonglheofaaDoor
open Go.RowKit
set_option linter.unusedVariables false

theorem inoWithin_any (n a b : Int) (t : Bool) (w : World) (ht : decide (a ≤ n ∧ n ≤ b) = t) :
    Calls Tryd.prog 19 #[.int .i64 n, .int .i64 a, .int .i64 b] w fun e w' => e = .returned (.bool t) ∧ w = w' := by
  by_cases h1 : a ≤ n
  · have h2 : decide (n ≤ b) = t := by rw [← ht]; simp [h1]
    clear ht
    go_enter Tryd.func19, Tryd.ntmps19
    go_wp2
    go_ret
    exact ⟨rfl, rfl⟩
  · have h2 : t = false := by rw [← ht]; simp [h1]
    have h3 : n < a := by omega
    subst h2
    clear ht h1
    go_enter Tryd.func19, Tryd.ntmps19
    go_wp2
    go_ret
    exact ⟨rfl, rfl⟩

theorem ino_cells2 {w : World} {g : Nat} {t : TypeId} {u v : Value} (h : Bk w g t #[u, v]) : w.cell? ⟨g, 0, none⟩ = some u ∧ w.cell? ⟨g, 1, none⟩ = some v ∧ w.frozen? ⟨g, 0, none⟩ = false ∧ w.frozen? ⟨g, 1, none⟩ = false := ⟨h.cell 0, h.cell 1, h.free 0, h.free 1⟩
theorem ino_puts2 {w : World} {g : Nat} {t : TypeId} {x y : Value} (h : Bk w g t #[x, y]) (u v : Value) : (w.setCell ⟨g, 0, none⟩ u).cell? ⟨g, 0, none⟩ = some u ∧ ((w.setCell ⟨g, 0, none⟩ u).setCell ⟨g, 1, none⟩ v).cell? ⟨g, 0, none⟩ = some u ∧ ((w.setCell ⟨g, 0, none⟩ u).setCell ⟨g, 1, none⟩ v).cell? ⟨g, 1, none⟩ = some v
    ∧ Bk ((w.setCell ⟨g, 0, none⟩ u).setCell ⟨g, 1, none⟩ v) g t #[u, v] :=
  ⟨(h.set_ 0 u).cell 0, ((h.set_ 0 u).set_ 1 v).cell 0, ((h.set_ 0 u).set_ 1 v).cell 1, (h.set_ 0 u).set_ 1 v⟩

theorem inoNumber_any (n v : Int) (w : World) (h0 : 0 ≤ v) (h1 : v ≤ 9223372036854775807) :
    Calls Tryd.prog 29 #[.int .i64 n, .int .i64 v] w fun e w' => e = .returned (.agg #[.int .i64 n, .int .u64 v]) ∧ Below w.heap.size w w' := by
  have K0 := Bk.new w 74 #[.int .i64 0, .int .u64 0]
  obtain ⟨k0, k1, f0, f1⟩ := ino_cells2 K0
  obtain ⟨p0, p1, p2, _⟩ := ino_puts2 K0 (.int .i64 n) (.int .u64 v)
  go_enter Tryd.func29, Tryd.ntmps29
  go_wp2
  refine bodyPost_ret (v := .agg #[.int .i64 n, .int .u64 v]) (by simp [results, Tryd.results29, go_sem]) rfl ⟨rfl, ?_⟩
  exact (Below.refl _ _).alloc (Nat.le_refl _) _

set_option maxHeartbeats 1000000 in
theorem inoValid_any (B : Nat) (A : Option Addr) (n c : Nat) (l : List Pr) (t : Bool) (w : World) (hl : l.length = n) (hn : n ≤ 9223372036854775807) (hr : Rd w B A (prsV l)) (hB : B ≤ w.heap.size) (ht : l.all prOk = t) :
    Calls Tryd.prog 16 #[.slice A n c] w fun e w' => e = .returned (.bool t) ∧ Below w.heap.size w w' := by
  have HR := Lib.hid hr
  have HL := Lib.hid hl
  have HT := Lib.hid ht
  clear hr hl ht
  go_enter Tryd.func16, Tryd.ntmps16
  go_wp2
  go_loopw [7] (fun i wr => ∃ k : Nat, k ≤ n ∧ i = .int .i64 k ∧ (∀ j y, j < k → l[j]? = some y → prOk y = true) ∧ Hid (Below w.heap.size w wr)) (fun i _ => n - (intOf i).toNat)
  case atStart => exact ⟨0, Nat.zero_le _, rfl, fun j p h => absurd h (by omega), Below.refl _ _⟩
  case round =>
    obtain ⟨k, hk, rfl, hall, HB⟩ := hrel
    have HALL := Lib.hid hall
    clear hall
    by_cases hlt : k < n
    · obtain ⟨y, hy⟩ : ∃ y, l[k]? = some y := ⟨_, List.getElem?_eq_getElem (by have := HL.out; omega)⟩
      obtain ⟨b, o, rfl, hbB, hc⟩ := (HR.out.below (HB.out.mono hB)).plain (by rw [prsV_length]; have := HL.out; omega)
      obtain ⟨n0, n1⟩ := prsV_get l k y hy
      have c0 := hc _ _ n0
      have c1 := hc _ _ n1
      rw [← Nat.add_assoc] at c1
      have HY := Lib.hid hy
      obtain ⟨y1, y2⟩ := y
      have K2 := Bk.new wr 29 #[.int .i64 y1, .int .u32 (y2 : Int)]
      obtain ⟨p0, p1, -⟩ := ino_cells2 K2
      have HB2 := Lib.hid (HB.out.alloc HB.out.size (.cells #[.int .i64 y1, .int .u32 (y2 : Int)] 29))
      simp only at c0 c1
      clear hc n0 n1 hy K2
      go_wp2_with fail
      obtain ⟨w5, hw5⟩ : ∃ w5, wr.alloc (.cells #[.int .i64 y1, .int .u32 (y2 : Int)] 29) = w5 := ⟨_, rfl⟩
      rw [hw5] at p0 p1 HB2 ⊢
      clear hw5 c0 c1
      cases hok : prOk ⟨y1, y2⟩ with
      | true =>
        obtain ⟨q1, q2, q3⟩ := prOk_yes hok
        have HOK := Lib.hid hok
        simp only at q1 q2 q3
        clear hok
        refine (inoWithin_any _ _ _ true _ (decide_eq_true ⟨q1, q2⟩)).mono ?_
        rintro e w1 ⟨rfl, rfl⟩
        by_cases hz : y1 = 0
        · obtain rfl := q3 hz
          subst hz
          go_wp2
          go_roundw
          case rel =>
            refine ⟨k + 1, by omega, by go_num, fun j z hj hz => ?_, HB2.out⟩
            by_cases e : j = k
            · subst e; rw [HY.out] at hz; cases hz; exact HOK.out
            · exact HALL.out j z (by omega) hz
          case measure => simp [intOf]; omega
        · have hz' : (y1 == 0) = false := by simp [hz]
          clear q3 hz
          go_wp2
          go_roundw
          case rel =>
            refine ⟨k + 1, by omega, by go_num, fun j z hj hz => ?_, HB2.out⟩
            by_cases e : j = k
            · subst e; rw [HY.out] at hz; cases hz; exact HOK.out
            · exact HALL.out j z (by omega) hz
          case measure => simp [intOf]; omega
      | false =>
        have HF : Hid (t = false) := by
          show _ = _
          rw [← HT.out]
          exact all_at HY.out hok
        have HBAD := Lib.hid (prOk_no hok)
        clear hok HALL
        by_cases q1 : 0 ≤ y1 ∧ y1 ≤ 2147483647
        · have hz : y1 = 0 ∧ y2 ≠ 0 := by have := HBAD.out; simp only at this; omega
          obtain ⟨rfl, hz⟩ := hz
          have hz' : ((y2 : Int) == 0) = false := by simp [hz]
          refine (inoWithin_any _ _ _ true _ (decide_eq_true q1)).mono ?_
          rintro e w1 ⟨rfl, rfl⟩
          clear q1 hz
          go_wp2
          go_ret
          exact ⟨ret_bool HF.out.symm, HB2.out⟩
        · refine (inoWithin_any _ _ _ false _ (decide_eq_false q1)).mono ?_
          rintro e w1 ⟨rfl, rfl⟩
          clear q1
          go_wp2
          go_ret
          exact ⟨ret_bool HF.out.symm, HB2.out⟩
    · have HF : Hid (t = true) := by
        show _ = _
        rw [← HT.out]
        exact all_of fun j z hz => HALL.out j _ (by have := (List.getElem?_eq_some_iff.1 hz).1; have := HL.out; omega) hz
      clear HALL
      go_wp2
      go_ret
      exact ⟨ret_bool HF.out.symm, HB.out⟩
end Go.Proofs.YtnipfonglheofaaDoor
