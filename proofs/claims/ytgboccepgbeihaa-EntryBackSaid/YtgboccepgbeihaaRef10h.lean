/-
  What the document's answers of layer 10 are: Take.
-/
import Derived.Test.YtgboccepgbeihaaRef10e
import Derived.Test.YtgboccepgbeihaaRef10f
namespace Go.Proofs.Ytgboccepgbeihaa
open Go.RowKit
set_option maxRecDepth 100000
set_option linter.unusedVariables false

set_option maxHeartbeats 8000000 in
theorem refTake10_any (B : Nat) (A : Option Addr) (n c : Nat) (l : List Et) (s : List UInt8) (w : World) (hl : l.length = n) (hn : n ≤ 1000000) (hr : Rd w B A (etsV l)) (hB : B ≤ w.heap.size) (hs : ∀ x ∈ l, x.name.length ≤ 4398046511104) (hss : s.length ≤ 4398046511104) :
    Calls Try.prog 22 #[.slice A n c, .string (str s)] w fun e w' => ∃ v, e = .returned (.tuple #[v, .int .i64 (findQ l s)]) ∧ EtsW w' (takeR l s) v ∧ Below w.heap.size w w' := by
  obtain ⟨i0, hi, hz0, hz1, hz2⟩ := info_parts info_entry
  have hi := Lib.hid hi
  have hz0 := Lib.hid hz0
  have hz1 := Lib.hid hz1
  have hz2 := Lib.hid hz2
  have HL := Lib.hid hl
  have HR0 := Lib.hid hr
  have HFI := Lib.hid (refFind10_any B A n c l s w hl hn hr hB hs hss)
  obtain ⟨F, hF⟩ : ∃ F, findR l s = F := ⟨_, rfl⟩
  obtain ⟨q, hq⟩ : ∃ q, findQ l s = q := ⟨_, rfl⟩
  obtain ⟨RR, hRR⟩ : ∃ RR, takeR l s = RR := ⟨_, rfl⟩
  have HQ : Hid ((if q = 0 then cutE l s else []) = RR) := by show _ = _; rw [← hRR, ← hq]; rfl
  have HST : Hid ((str s).toList = s) := str_toList s
  obtain ⟨S, hS⟩ : ∃ S, str s = S := ⟨_, rfl⟩
  rw [hF, hq, hS] at HFI
  rw [hS] at HST ⊢
  rw [hq, hRR]
  obtain ⟨f1, f2, f3⟩ := F
  have HFI : Hid (Calls Try.prog 18 #[.slice A n c, .string S] w fun e w' => e = .returned (.tuple #[.agg #[.string (str f1), .int .i64 f2, .int .i64 f3], .int .i64 q]) ∧ Below w.heap.size w w') := HFI.out
  clear hl hr hs hss hF hq hRR hS
  go_enter Try.func22, Try.ntmps22
  go_wp2_with fail
  refine HFI.out.mono ?_
  rintro e w1 ⟨rfl, hb⟩
  have HB1 := Lib.hid (hb.alloc hb.size (.cells #[.string (str f1), .int .i64 f2, .int .i64 f3] 38))
  clear hb
  by_cases hq : q = 0
  · subst hq
    obtain rfl : RR = cutE l s := HQ.out.symm
    go_wp2
    go_loopw [8, 9] (fun r i wr => ∃ (k j : Nat), k ≤ n ∧ i = .int .i64 (k : Int) ∧ j ≤ k ∧ Hid (wr.ownsRow w.heap.size 38 3 r j (etsV (cutE (l.take k) s))) ∧ Hid (Below w.heap.size w wr)) (fun _ i _ => n - (intOf i).toNat)
    case atStart => exact ⟨0, 0, Nat.zero_le _, rfl, Nat.le_refl _, ⟨rfl, .inl ⟨rfl, rfl⟩⟩, HB1.out⟩
    case round =>
      obtain ⟨k, j, hk, rfl, hjk, HOWN, HB⟩ := hrel
      obtain ⟨Ar, cr, hre, hcr, hcm⟩ := own_len HOWN.out
      subst hre
      by_cases hlt : k < n
      · obtain ⟨y, hy⟩ : ∃ y, l[k]? = some y := ⟨_, List.getElem?_eq_getElem (by rw [HL.out]; exact hlt)⟩
        obtain ⟨b, o, rfl, hbB, -⟩ := HR0.out.plain (by rw [etsV_length, HL.out]; omega)
        obtain ⟨c0, c1, c2⟩ := ets_at (HR0.out.below (HB.out.mono hB)) hy
        have hT : l.take (k + 1) = l.take k ++ [y] := by rw [List.take_add_one, hy]; rfl
        have HT1 : y.name ≠ s → cutE (l.take (k + 1)) s = cutE (l.take k) s ++ [y] := fun h => by
          rw [hT, cutE, List.filter_append, List.filter_cons_of_pos (by simpa using h)]; rfl
        have HT0 : y.name = s → cutE (l.take (k + 1)) s = cutE (l.take k) s := fun h => by
          rw [hT, cutE, List.filter_append, List.filter_cons_of_neg (by simpa using h)]; simp [cutE]
        obtain ⟨nm2, q, t⟩ := y
        simp only at c0 c1 c2
        have hyt : (str nm2).toList = nm2 := str_toList _
        have hst := HST.out
        obtain ⟨Y, hY⟩ : ∃ Y, str nm2 = Y := ⟨_, rfl⟩
        rw [hY] at c0 hyt
        by_cases he : nm2 = s
        · have HOWN' : Hid (wr.ownsRow w.heap.size 38 3 (.slice Ar j cr) j (etsV (cutE (l.take (k + 1)) s))) := by
            show World.ownsRow _ _ _ _ _ _ _
            rw [HT0 he]; exact HOWN.out
          rw [he] at hyt
          clear hy hT HT1 HT0 hY he
          go_wp2
          go_roundw
          case rel => exact ⟨k + 1, j, by omega, by go_num, by omega, HOWN', HB⟩
          case measure => simp [intOf]; omega
        · have HOWN' : Hid (etsV (cutE (l.take (k + 1)) s) = etsV (cutE (l.take k) s) ++ [.string Y, .int .i64 q, .int .i64 t]) := by
            show _ = _
            rw [HT1 he, etsV_append, ← hY]; rfl
          have hne : (nm2 == s) = false := beq_false_of_ne he
          have HOWN5 := Lib.hid (HOWN.out.alloc (.cells #[.string Y, .int .i64 q, .int .i64 t] 38))
          have HB6 := Lib.hid (HB.out.alloc HB.out.size (.cells #[.string Y, .int .i64 q, .int .i64 t] 38))
          have HNW := Lib.hid (Rd.new wr 38 #[.string Y, .int .i64 q, .int .i64 t] (0, 0))
          clear hy hT HT1 HT0 hY he
          go_wp2_with (at_builtin; refine wpList_append_rd _ rfl _ _ 22 rfl w.heap.size 38 i0 (.agg #[.string ByteArray.empty, .int .i64 0, .int .i64 0]) 3 32 Try.underlying22 hi.out hz0.out hz1.out hz2.out rfl (by decide) _ _ _ rfl HOWN5.out (wr.heap.size + 1) (some ⟨wr.heap.size, 0, none⟩) 1 1 [.string Y, .int .i64 q, .int .i64 t] rfl rfl HNW.out ?c2 ?c3 ?c4 ?c5 ?_)
          case c2 => first | exact ⟨rfl, rfl, rfl⟩ | (intro u hu; simp only [List.mem_cons, List.not_mem_nil, or_false] at hu; rcases hu with rfl | rfl | rfl <;> rfl)
          case c3 => unfold maxLen; omega
          case c4 => omega
          case c5 => have := HB.out.size; simp; omega
          intro r' w7 hown7 hgrow
          have HB7 := Lib.hid (HB6.out.grown hgrow HB6.out.size (fun g hg => (HOWN5.out.lt g hg).1))
          have HOWN7 : Hid (w7.ownsRow w.heap.size 38 3 r' (j + 1) (etsV (cutE (l.take (k + 1)) s))) := by
            show World.ownsRow _ _ _ _ _ _ _
            rw [HOWN'.out]; exact hown7
          clear hown7 hgrow HOWN5 HB6 HNW
          go_wp2
          go_roundw
          case rel => exact ⟨k + 1, j + 1, by omega, by go_num, by omega, HOWN7, HB7⟩
          case measure => simp [intOf]; omega
      · obtain rfl : k = n := by omega
        have HE : Hid (EtsW wr (cutE l s) (.slice Ar j cr)) := by
          have h := EtsW.own HOWN.out
          rw [List.take_of_length_le (by rw [HL.out]; exact Nat.le_refl _)] at h
          exact h
        go_wp2
        go_ret2
        exact ⟨_, rfl, HE.out, HB.out⟩
  · rw [if_neg hq] at HQ
    obtain rfl : RR = [] := HQ.out.symm
    have hqn : (q == 0) = false := beq_false_of_ne hq
    go_wp2
    go_ret2
    exact ⟨_, rfl, EtsW.nil_ _, HB1.out⟩
end Go.Proofs.Ytgboccepgbeihaa
