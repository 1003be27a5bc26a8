/-
  What the landed entry's search answers.
-/
import Derived.Test.YtgboccepgbeihaaEntP3
namespace Go.Proofs.Ytgboccepgbeihaa
open Go.RowKit
set_option maxRecDepth 100000
set_option linter.unusedVariables false

theorem searched_any (w : World) (B p q : Nat) (A : Option Addr) (n c : Nat) (l : List Et) (s : List UInt8) (i : Nat) (x : Et) (r : Bool) (hp : Bk w p 22 #[.slice A n c]) (hq : Bk w q 9 #[.string (str s)]) (hl : l.length = n) (hr : Rd w B A (etsV l)) (hx : l[i]? = some x) (hrr : decide (0 ≤ ordT x.name s) = r) :
    Calls Try.prog 46 #[.int .i64 (i : Int), .pointer (some ⟨p, 0, none⟩), .pointer (some ⟨q, 0, none⟩)] w fun e w' => e = .returned (.bool r) ∧ Below w.heap.size w w' := by
  have hi : i < n := by rw [← hl]; exact (List.getElem?_eq_some_iff.1 hx).1
  obtain ⟨b, o, rfl, -, -⟩ := hr.plain (by rw [etsV_length]; omega)
  obtain ⟨c0, -, -⟩ := ets_at hr hx
  have e1 := hp.cell 0
  have e2 := hq.cell 0
  have HO := Lib.hid fun w' => order_same x.name s w'
  obtain ⟨t, ht⟩ : ∃ t, ordT x.name s = t := ⟨_, rfl⟩
  rw [ht] at HO hrr
  obtain ⟨S, hS⟩ : ∃ S, str s = S := ⟨_, rfl⟩
  obtain ⟨X, hX⟩ : ∃ X, str x.name = X := ⟨_, rfl⟩
  rw [hS] at HO e2
  rw [hX] at HO c0
  have hi' : (i : Int) < (n : Int) := by omega
  clear hx hX hS ht hl hr hp hq
  subst hrr
  go_enter Try.func46, Try.ntmps46
  go_wp2_with fail
  go_quiet (first | (go_at_call 26; exact Calls.quiet_of_same (HO.out _)))
  go_wp2
  go_ret
  exact ⟨rfl, (Below.refl _ _).drewN' _⟩

/-- the place of a name in entries: behind all that come ahead of it -/
structure Spot (l : List Et) (s : List UInt8) (i : Nat) (t : Bool) : Prop where
  le : i ≤ l.length
  lo : ∀ (j : Nat) (x : Et), j < i → l[j]? = some x → ordT x.name s < 0
  hi : ∀ (j : Nat) (x : Et), i ≤ j → l[j]? = some x → 0 ≤ ordT x.name s
  there : t = hasE l s
theorem spot_at {l : List Et} {s : List UInt8} {i : Nat} (hp : l.Pairwise ltE) (hlo : ∀ (j : Nat) (x : Et), j < i → l[j]? = some x → ordT x.name s < 0) (hhi : ∀ (j : Nat) (x : Et), i ≤ j → l[j]? = some x → 0 ≤ ordT x.name s) (h : hasE l s = true) :
    ∃ x, l[i]? = some x ∧ x.name = s ∧ getE l s = x := by
  obtain ⟨y, hy, e⟩ := (hasE_iff l s).1 h
  obtain ⟨j, hj, hh⟩ := List.mem_iff_getElem.1 hy
  have hjy : l[j]? = some y := by rw [List.getElem?_eq_getElem hj, hh]
  have h1 : i ≤ j := by
    rcases Nat.lt_or_ge j i with h2 | h2
    · have := hlo j y h2 hjy
      rw [e, ord_self] at this; omega
    · exact h2
  rcases Nat.lt_or_ge i j with h2 | h2
  · have hil : i < l.length := by omega
    have h3 := List.pairwise_iff_getElem.1 hp i j hil hj h2
    have h4 := hhi i _ (Nat.le_refl _) (List.getElem?_eq_getElem hil)
    rw [hh] at h3
    unfold ltE at h3
    rw [e] at h3; omega
  · obtain rfl : i = j := by omega
    refine ⟨y, hjy, e, ?_⟩
    rw [← e]; exact getE_mem hp hy
theorem spot_no {l : List Et} {s : List UInt8} {i : Nat} (hp : l.Pairwise ltE) (hlo : ∀ (j : Nat) (x : Et), j < i → l[j]? = some x → ordT x.name s < 0) (hhi : ∀ (j : Nat) (x : Et), i ≤ j → l[j]? = some x → 0 ≤ ordT x.name s)
    (h : ∀ x, l[i]? = some x → x.name ≠ s) : hasE l s = false := by
  rw [Bool.eq_false_iff]
  intro hh
  obtain ⟨x, hx, e, _⟩ := spot_at hp hlo hhi hh
  exact h x hx e
/-- the error's number of a search -/
def spotQ (l : List Et) (s : List UInt8) : Int := if mayE l = false then 1 else if isT s = false then 11 else 0
theorem spotQ_zero {l : List Et} {s : List UInt8} : spotQ l s = 0 ↔ mayE l = true ∧ isT s = true := by
  unfold spotQ
  cases mayE l <;> cases isT s <;> simp
/-- what a search hands back -/
def Sought (l : List Et) (s : List UInt8) (i : Nat) (t : Bool) (q : Int) : Prop := q = spotQ l s ∧ (q = 0 → Spot l s i t)

set_option maxHeartbeats 8000000 in
theorem sought_any (B : Nat) (A : Option Addr) (n c : Nat) (l : List Et) (s : List UInt8) (w : World) (hl : l.length = n) (hn : n ≤ 1000000) (hr : Rd w B A (etsV l)) (hB : B ≤ w.heap.size) (hs : ∀ x ∈ l, x.name.length ≤ 100000) (hss : s.length ≤ 100000) :
    Calls Try.prog 32 #[.slice A n c, .string (str s)] w fun e w' => ∃ (i : Nat) (t : Bool) (q : Int), e = .returned (.tuple #[.int .i64 (i : Int), .bool t, .int .i64 q]) ∧ Sought l s i t q ∧ Below w.heap.size w w' := by
  have HL := Lib.hid hl
  have HR0 := Lib.hid hr
  have HM := Lib.hid fun w' (hb : Below w.heap.size w w') => may_any B A n c l w' hl hn (hr.below (hb.mono hB)) (Nat.le_trans hB hb.size) hs
  have HI := Lib.hid fun w' => is_any s w' hss
  obtain ⟨m, hm⟩ : ∃ m, mayE l = m := ⟨_, rfl⟩
  obtain ⟨ti, hti⟩ : ∃ ti, isT s = ti := ⟨_, rfl⟩
  have HMM := Lib.hid hm
  have HTI := Lib.hid hti
  rw [hm] at HM
  rw [hti] at HI
  have HB0 := Lib.hid (((Below.refl w.heap.size w).alloc (Nat.le_refl _) (.cells #[.slice A n c] 22)).alloc (by simp) (.cells #[.string (str s)] 9))
  have K0 := Lib.hid ((Bk.new w 22 #[.slice A n c]).alloc (.cells #[.string (str s)] 9))
  have S0 := Bk.new (w.alloc (.cells #[.slice A n c] 22)) 9 #[.string (str s)]
  rw [World.alloc_size'] at S0
  have S0 := Lib.hid S0
  have HST : Hid ((str s).toList = s) := str_toList s
  obtain ⟨S, hS⟩ : ∃ S, str s = S := ⟨_, rfl⟩
  have HSS := Lib.hid hS
  rw [hS] at HI HB0 K0 S0 HST ⊢
  clear hl hr hs hm hti hS
  have k0 := K0.out.cell 0
  have s0 := S0.out.cell 0
  go_enter Try.func32, Try.ntmps32
  go_wp2_with fail
  refine (HM.out _ HB0.out).mono ?_
  rintro e w1 ⟨rfl, hb⟩
  have K1 := Lib.hid (K0.out.below hb K0.out.lt)
  have S1 := Lib.hid (S0.out.below hb S0.out.lt)
  have HB1 := Lib.hid (HB0.out.trans (hb.mono HB0.out.size))
  clear hb HM K0 S0 HB0 k0 s0
  cases m with
  | false =>
    go_wp2
    go_ret3
    exact ⟨0, false, 1, rfl, ⟨by unfold spotQ; rw [HMM.out]; rfl, fun h => absurd h (by decide)⟩, HB1.out⟩
  | true =>
    have k0 := K1.out.cell 0
    have s0 := S1.out.cell 0
    go_wp2_with fail
    refine (HI.out _).mono ?_
    rintro e w2 ⟨rfl, hb⟩
    have K2 := Lib.hid (K1.out.below hb K1.out.lt)
    have S2 := Lib.hid (S1.out.below hb S1.out.lt)
    have HB2 := Lib.hid (HB1.out.trans (hb.mono HB1.out.size))
    clear hb HI K1 S1 HB1 k0 s0
    cases ti with
    | false =>
      go_wp2
      go_ret3
      exact ⟨0, false, 11, rfl, ⟨by unfold spotQ; rw [HMM.out, HTI.out]; rfl, fun h => absurd h (by decide)⟩, HB2.out⟩
    | true =>
      have k0 := K2.out.cell 0
      have s0 := S2.out.cell 0
      have HPW : Hid (l.Pairwise ltE) := ((mayE_iff l).1 HMM.out).2.1
      have HSE : Hid (Calls Try.prog 45 #[.int .i64 (n : Int), .func (.func 46) #[] #[.pointer (some ⟨w.heap.size, 0, none⟩), .pointer (some ⟨w.heap.size + 1, 0, none⟩)]] w2 fun e w' => ∃ k : Nat, e = .returned (.int .i64 (k : Int)) ∧ k ≤ n ∧ (∀ j, j < k → decide (0 ≤ ordT (l.getD j noE).name s) = false) ∧ (∀ j, k ≤ j → j < n → decide (0 ≤ ordT (l.getD j noE).name s) = true) ∧ Below w2.heap.size w2 w') := by
        refine search_any 46 _ n (fun j => decide (0 ≤ ordT (l.getD j noE).name s)) w2 (enters_of Try.func46 (by kernel_rfl) rfl) hn ?_ ?_
        · intro i hi w' hb
          have hx : l[i]? = some (l.getD i noE) := by
            rw [List.getD_eq_getElem?_getD, List.getElem?_eq_getElem (by rw [HL.out]; exact hi)]; rfl
          exact searched_any w' w.heap.size _ _ A n c l s i _ _ (K2.out.below hb K2.out.lt) (by rw [HSS.out]; exact S2.out.below hb S2.out.lt) HL.out (((HR0.out.mono hB).below HB2.out).below (hb.mono HB2.out.size)) hx rfl
        · intro a b hab hbn ha
          rw [decide_eq_true_eq] at ha ⊢
          rcases Nat.eq_or_lt_of_le hab with rfl | hlt
          · exact ha
          · have h1 := List.pairwise_iff_getElem.1 HPW.out a b (by rw [HL.out]; omega) (by rw [HL.out]; omega) hlt
            rw [List.getD_eq_getElem?_getD, List.getElem?_eq_getElem (by rw [HL.out]; omega)] at ha ⊢
            simp only [Option.getD_some] at ha ⊢
            unfold ltE at h1
            have h2 := ordT_range (l[b]'(by rw [HL.out]; omega)).name s
            have h3 := ordT_range (l[a]'(by rw [HL.out]; omega)).name s
            by_cases h4 : 0 ≤ ordT (l[b]'(by rw [HL.out]; omega)).name s
            · exact h4
            · have h5 := ord_trans h1 (show ordT (l[b]'(by rw [HL.out]; omega)).name s = -1 by omega)
              omega
      go_wp2_with fail
      refine HSE.out.mono ?_
      rintro e w3 ⟨k, rfl, hkn, hlo, hhi, hb⟩
      have K3 := Lib.hid (K2.out.below hb K2.out.lt)
      have S3 := Lib.hid (S2.out.below hb S2.out.lt)
      have HB3 := Lib.hid (HB2.out.trans (hb.mono HB2.out.size))
      have HLO : Hid (∀ (j : Nat) (x : Et), j < k → l[j]? = some x → ordT x.name s < 0) := fun j x hj hx => by
        have h := hlo j hj
        rw [decide_eq_false_iff_not, List.getD_eq_getElem?_getD, hx] at h
        simp only [Option.getD_some] at h
        omega
      have HHI : Hid (∀ (j : Nat) (x : Et), k ≤ j → l[j]? = some x → 0 ≤ ordT x.name s) := fun j x hj hx => by
        have h := hhi j hj (by have := (List.getElem?_eq_some_iff.1 hx).1; have := HL.out; omega)
        rw [decide_eq_true_eq, List.getD_eq_getElem?_getD, hx] at h
        exact h
      have HKN := Lib.hid hkn
      have HQ0 : Hid ((0 : Int) = spotQ l s) := (spotQ_zero.2 ⟨HMM.out, HTI.out⟩).symm
      clear hb hlo hhi HSE K2 S2 HB2 k0 s0
      have k0 := K3.out.cell 0
      have s0 := S3.out.cell 0
      by_cases hlt : k < n
      · obtain ⟨x, hx⟩ : ∃ x, l[k]? = some x := ⟨_, List.getElem?_eq_getElem (by rw [HL.out]; exact hlt)⟩
        obtain ⟨b, o, rfl, -, -⟩ := HR0.out.plain (by rw [etsV_length, HL.out]; omega)
        obtain ⟨c0, -, -⟩ := ets_at (HR0.out.below (HB3.out.mono hB)) hx
        have hxt : (str x.name).toList = x.name := str_toList _
        have HX := Lib.hid hx
        obtain ⟨X, hX⟩ : ∃ X, str x.name = X := ⟨_, rfl⟩
        rw [hX] at c0 hxt
        have hst := HST.out
        have hk' : (k : Int) < (n : Int) := by omega
        have hd : decide (k < n) = true := decide_eq_true hlt
        obtain ⟨nx, hnx⟩ : ∃ nx, x.name = nx := ⟨_, rfl⟩
        rw [hnx] at hxt
        have HNX := Lib.hid hnx
        obtain ⟨r, hrr⟩ : ∃ r, (nx == s) = r := ⟨_, rfl⟩
        have HRR : Hid (r = hasE l s) := by
          show _ = _
          rw [← hrr, ← hnx]
          by_cases he : x.name = s
          · rw [(hasE_iff l s).2 ⟨x, List.mem_of_getElem? hx, he⟩, he]; simp
          · rw [spot_no HPW.out HLO.out HHI.out fun y hy => by rw [hx] at hy; cases hy; exact he]
            exact beq_false_of_ne he
        clear hx hX hnx
        go_wp2_with fail
        go_quiet (fail)
        go_wp2
        go_ret3
        exact ⟨k, r, 0, by first | rfl | rw [hrr], ⟨HQ0.out, fun _ => ⟨by rw [HL.out]; exact HKN.out, HLO.out, HHI.out, HRR.out⟩⟩, HB3.out.drewN' _⟩
      · have hd : decide (k < n) = false := decide_eq_false hlt
        have HRR : Hid (false = hasE l s) := by
          show _ = _
          rw [spot_no HPW.out HLO.out HHI.out fun y hy => by have := (List.getElem?_eq_some_iff.1 hy).1; have := HL.out; omega]
        go_wp2_with fail
        go_quiet (fail)
        go_wp2
        go_ret3
        exact ⟨k, false, 0, rfl, ⟨HQ0.out, fun _ => ⟨by rw [HL.out]; exact HKN.out, HLO.out, HHI.out, HRR.out⟩⟩, HB3.out.drewN' _⟩
end Go.Proofs.Ytgboccepgbeihaa
