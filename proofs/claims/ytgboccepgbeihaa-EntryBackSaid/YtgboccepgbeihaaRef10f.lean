/-
  What the document's answers of layer 10 are: Find.
-/
import Derived.Test.YtgboccepgbeihaaRef10c
namespace Go.Proofs.Ytgboccepgbeihaa
open Go.RowKit
set_option maxRecDepth 100000
set_option linter.unusedVariables false

theorem et_puts {w : World} {g : Nat} {t : TypeId} {x y z : Value} (h : Bk w g t #[x, y, z]) (v s o : Value) : (w.setCell ⟨g, 0, none⟩ v).cell? ⟨g, 0, none⟩ = some v ∧ ((w.setCell ⟨g, 0, none⟩ v).setCell ⟨g, 1, none⟩ s).cell? ⟨g, 1, none⟩ = some s
    ∧ (((w.setCell ⟨g, 0, none⟩ v).setCell ⟨g, 1, none⟩ s).setCell ⟨g, 2, none⟩ o).cell? ⟨g, 2, none⟩ = some o ∧ Bk (((w.setCell ⟨g, 0, none⟩ v).setCell ⟨g, 1, none⟩ s).setCell ⟨g, 2, none⟩ o) g t #[v, s, o] :=
  ⟨(h.set_ 0 v).cell 0, ((h.set_ 0 v).set_ 1 s).cell 1, (((h.set_ 0 v).set_ 1 s).set_ 2 o).cell 2, ((h.set_ 0 v).set_ 1 s).set_ 2 o⟩
theorem results_et {fn : Func} {p q : Tmp} (h : fn.results = #[.cell p 38, .tmp q]) (tmps : Array Value) (w : World) (g : Nat) (t : TypeId) (x y z v : Value) (hp : tmps.getD p undef = .pointer (some ⟨g, 0, none⟩)) (hq : tmps.getD q undef = v) (hk : Bk w g t #[x, y, z]) :
    (results fn tmps).run Try.prog w = .ok (.tuple #[.agg #[x, y, z], v]) w := by
  obtain ⟨c0, c1, c2, -⟩ := et_cells hk
  rw [Array.getD_eq_getD_getElem?] at hp hq
  simp [results, h, go_sem, hp, hq, c0, c1, c2]

set_option maxHeartbeats 4000000 in
theorem refFind10_any (B : Nat) (A : Option Addr) (n c : Nat) (l : List Et) (s : List UInt8) (w : World) (hl : l.length = n) (hn : n ≤ 1000000) (hr : Rd w B A (etsV l)) (hB : B ≤ w.heap.size) (hs : ∀ x ∈ l, x.name.length ≤ 4398046511104) (hss : s.length ≤ 4398046511104) :
    Calls Try.prog 18 #[.slice A n c, .string (str s)] w fun e w' => e = .returned (.tuple #[etG (findR l s), .int .i64 (findQ l s)]) ∧ Below w.heap.size w w' := by
  have HL := Lib.hid hl
  have HR0 := Lib.hid hr
  have HM := Lib.hid fun w' (hb : Below w.heap.size w w') => refMay10_any B A n c l w' hl (by omega) (hr.below (hb.mono hB)) (Nat.le_trans hB hb.size) hs
  have HI := Lib.hid fun w' => refIs_any s w' hss
  have HA := Lib.hid fun w' (hb : Below w.heap.size w w') => refAt_any B A n c l s w' hl (by omega) (hr.below (hb.mono hB)) (Nat.le_trans hB hb.size)
  have HB0 := Lib.hid ((Below.refl w.heap.size w).alloc (Nat.le_refl _) (.cells #[.string ByteArray.empty, .int .i64 0, .int .i64 0] 38))
  have K0 := Lib.hid (Bk.new w 38 #[.string ByteArray.empty, .int .i64 0, .int .i64 0])
  obtain ⟨m, hm⟩ : ∃ m, mayE l = m := ⟨_, rfl⟩
  obtain ⟨i, hi⟩ : ∃ i, isT s = i := ⟨_, rfl⟩
  obtain ⟨qq, hqq⟩ : ∃ qq, findQ l s = qq := ⟨_, rfl⟩
  obtain ⟨FF, hFF⟩ : ∃ FF, etG (findR l s) = FF := ⟨_, rfl⟩
  have HQ : Hid (qq = if m = false then 1 else if i = false then 11 else if hasE l s = false then 6 else 0) := by show _ = _; rw [← hqq, ← hm, ← hi]; rfl
  have HF : Hid (FF = if qq = 0 then etG (getE l s) else etG noE) := by show _ = _; rw [← hFF, ← hqq, findR]; split <;> rfl
  rw [hqq, hFF]
  rw [hm] at HM
  rw [hi] at HI
  have HNE : Hid (etG noE = .agg #[.string ByteArray.empty, .int .i64 0, .int .i64 0]) := rfl
  obtain ⟨S, hS⟩ : ∃ S, str s = S := ⟨_, rfl⟩
  rw [hS] at HI HA ⊢
  clear hl hr hs hm hi hS hqq hFF
  go_enter Try.func18, Try.ntmps18
  go_wp2_with fail
  refine (HM.out _ HB0.out).mono ?_
  rintro e w1 ⟨rfl, hb⟩
  have K1 := Lib.hid (K0.out.below hb K0.out.lt)
  have HB1 := Lib.hid (HB0.out.trans (hb.mono HB0.out.size))
  clear hb HM K0 HB0
  cases m with
  | false =>
    obtain rfl : qq = 1 := by rw [HQ.out]; rfl
    obtain rfl : FF = etG noE := HF.out
    obtain ⟨k0, k1, k2, f0, f1, f2⟩ := et_cells K1.out
    obtain ⟨p0, p1, p2, K2⟩ := et_puts K1.out (.string ByteArray.empty) (.int .i64 0) (.int .i64 0)
    have K2 := Lib.hid K2
    go_wp2
    refine bodyPost_ret (results_et rfl _ _ w.heap.size _ _ _ _ _ rfl rfl K2.out) rfl ⟨rfl, ?_⟩
    exact ((HB1.out.setCell (p := ⟨w.heap.size, 0, none⟩) (Nat.le_refl _) _).setCell (p := ⟨w.heap.size, 1, none⟩) (Nat.le_refl _) _).setCell (p := ⟨w.heap.size, 2, none⟩) (Nat.le_refl _) _
  | true =>
    go_wp2_with fail
    refine (HI.out _).mono ?_
    rintro e w2 ⟨rfl, hb⟩
    have K2 := Lib.hid (K1.out.below hb K1.out.lt)
    have HB2 := Lib.hid (HB1.out.trans (hb.mono HB1.out.size))
    clear hb K1 HB1 HI
    cases i with
    | false =>
      obtain rfl : qq = 11 := by rw [HQ.out]; rfl
      obtain rfl : FF = etG noE := HF.out
      obtain ⟨k0, k1, k2, f0, f1, f2⟩ := et_cells K2.out
      obtain ⟨p0, p1, p2, K3⟩ := et_puts K2.out (.string ByteArray.empty) (.int .i64 0) (.int .i64 0)
      have K3 := Lib.hid K3
      go_wp2
      refine bodyPost_ret (results_et rfl _ _ w.heap.size _ _ _ _ _ rfl rfl K3.out) rfl ⟨rfl, ?_⟩
      exact ((HB2.out.setCell (p := ⟨w.heap.size, 0, none⟩) (Nat.le_refl _) _).setCell (p := ⟨w.heap.size, 1, none⟩) (Nat.le_refl _) _).setCell (p := ⟨w.heap.size, 2, none⟩) (Nat.le_refl _) _
    | true =>
      go_wp2_with fail
      refine (HA.out _ HB2.out).mono ?_
      rintro e w3 ⟨rfl, rfl⟩
      cases hh : hasE l s with
      | false =>
        obtain rfl : qq = 6 := by rw [HQ.out, hh]; rfl
        obtain rfl : FF = etG noE := HF.out
        have ha : atI l s = -1 := by rw [atI, hh]; rfl
        obtain ⟨k0, k1, k2, f0, f1, f2⟩ := et_cells K2.out
        obtain ⟨p0, p1, p2, K3⟩ := et_puts K2.out (.string ByteArray.empty) (.int .i64 0) (.int .i64 0)
        have K3 := Lib.hid K3
        rw [ha]
        clear ha hh
        go_wp2
        refine bodyPost_ret (results_et rfl _ _ w.heap.size _ _ _ _ _ rfl rfl K3.out) rfl ⟨rfl, ?_⟩
        exact ((HB2.out.setCell (p := ⟨w.heap.size, 0, none⟩) (Nat.le_refl _) _).setCell (p := ⟨w.heap.size, 1, none⟩) (Nat.le_refl _) _).setCell (p := ⟨w.heap.size, 2, none⟩) (Nat.le_refl _) _
      | true =>
        obtain rfl : qq = 0 := by rw [HQ.out, hh]; rfl
        have hf : FF = etG (getE l s) := HF.out
        obtain ⟨k, x, hx, ha, hg⟩ : ∃ (k : Nat) (x : Et), l[k]? = some x ∧ atI l s = k ∧ getE l s = x := by
          have hlt : l.findIdx (fun x => decide (x.name = s)) < l.length := by
            rw [List.findIdx_lt_length]
            obtain ⟨x, h1, h2⟩ := (hasE_iff l s).1 hh
            exact ⟨x, h1, decide_eq_true h2⟩
          have hget := List.findIdx_getElem (w := hlt)
          rw [decide_eq_true_eq] at hget
          have h3 := atI_at (s := s) (List.getElem?_eq_getElem hlt) hget fun j y hj hy e => by
            have := List.not_of_lt_findIdx hj
            obtain ⟨h4, h5⟩ := List.getElem?_eq_some_iff.1 hy
            rw [h5] at this
            simp [e] at this
          exact ⟨_, _, List.getElem?_eq_getElem hlt, h3.1, h3.2.2⟩
        have hkn : k < n := by have := (List.getElem?_eq_some_iff.1 hx).1; have := HL.out; omega
        obtain ⟨b, o, rfl, hbB, -⟩ := HR0.out.plain (by rw [etsV_length, HL.out]; omega)
        obtain ⟨c0, c1, c2⟩ := ets_at (HR0.out.below (HB2.out.mono hB)) hx
        rw [ha]
        rw [hg] at hf
        subst hf
        obtain ⟨nm, q, t⟩ := x
        obtain ⟨k0, k1, k2, f0, f1, f2⟩ := et_cells K2.out
        obtain ⟨p0, p1, p2, K3⟩ := et_puts K2.out (.string (str nm)) (.int .i64 q) (.int .i64 t)
        have K3 := Lib.hid K3
        simp only at c0 c1 c2
        clear hg ha hh hx
        go_wp2
        refine bodyPost_ret (results_et rfl _ _ w.heap.size _ _ _ _ _ rfl rfl K3.out) rfl ⟨rfl, ?_⟩
        exact ((HB2.out.setCell (p := ⟨w.heap.size, 0, none⟩) (Nat.le_refl _) _).setCell (p := ⟨w.heap.size, 1, none⟩) (Nat.le_refl _) _).setCell (p := ⟨w.heap.size, 2, none⟩) (Nat.le_refl _) _
end Go.Proofs.Ytgboccepgbeihaa
