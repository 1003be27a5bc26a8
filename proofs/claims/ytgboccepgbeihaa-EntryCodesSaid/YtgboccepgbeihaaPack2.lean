/-
  What pack.Pack does: the record of the numbers, or the first error.
-/
import Derived.Test.YtgboccepgbeihaaPack
namespace Go.Proofs.Ytgboccepgbeihaa
open Go.RowKit
set_option maxRecDepth 100000
set_option linter.unusedVariables false

/-- numbers of records, as cells -/
def numsV (l : List Num') : List Value := l.flatMap fun p => [.int .i64 p.1, .int .u64 (p.2 : Int)]
theorem numsV_length : ∀ l, (numsV l).length = 2 * l.length
  | [] => rfl
  | p :: l => by
    have := numsV_length l
    simp only [numsV, List.flatMap_cons, List.length_append, List.length_cons, List.length_nil] at this ⊢
    omega
theorem numsV_get : ∀ (l : List Num') (k : Nat) (p : Num'), l[k]? = some p → (numsV l)[k * 2]? = some (.int .i64 p.1) ∧ (numsV l)[k * 2 + 1]? = some (.int .u64 (p.2 : Int))
  | [], k, p, h => by simp at h
  | q :: l, 0, p, h => by
    simp at h; subst h
    simp [numsV]
  | q :: l, k + 1, p, h => by
    have ih := numsV_get l k p (by simpa using h)
    have e : numsV (q :: l) = .int .i64 q.1 :: .int .u64 (q.2 : Int) :: numsV l := rfl
    rw [e, show (k + 1) * 2 = k * 2 + 1 + 1 from by omega, show k * 2 + 1 + 1 + 1 = (k * 2 + 1) + 1 + 1 from rfl]
    simpa using ih
theorem numsV_append (a b : List Num') : numsV (a ++ b) = numsV a ++ numsV b := by simp [numsV]
theorem numsV_take (l : List Num') (k : Nat) : numsV (l.take k) = (numsV l).take (k * 2) := by
  induction l generalizing k with
  | nil => simp [numsV]
  | cons p l ih =>
    cases k with
    | zero => simp [numsV]
    | succ k =>
      have e : ∀ q m, numsV (q :: m) = .int .i64 q.1 :: .int .u64 (q.2 : Int) :: numsV m := fun _ _ => rfl
      rw [List.take_succ_cons, e, e, ih, show (k + 1) * 2 = k * 2 + 1 + 1 from by omega]
      simp

/-- what Pack leaves -/
def Packed (l : List Num') (w : World) (e : Ending) (w' : World) : Prop :=
  ∃ r, e = .returned (.tuple #[r, .int .i64 (codeL l)]) ∧ (codeL l = 0 → w'.ownsRow w.heap.size 5 1 r (recs l).length ((recs l).map bv)) ∧ (codeL l ≠ 0 → r = .slice none 0 0) ∧ Below w.heap.size w w'
/-- the first k numbers are good -/
def GoodP (l : List Num') (k : Nat) : Prop := ∀ p ∈ l.take k, okN p = true
theorem GoodP.zero (l : List Num') : GoodP l 0 := by intro p hp; simp at hp
theorem GoodP.succ {l : List Num'} {k : Nat} (h : GoodP l k) (p : Num') (hk : l[k]? = some p) (hp : okN p = true) : GoodP l (k + 1) := by
  intro q hq
  rw [List.take_add_one, hk] at hq
  simp at hq
  rcases hq with hq | rfl
  · exact h q hq
  · exact hp
theorem GoodP.all {l : List Num'} (h : GoodP l l.length) : codeL l = 0 := (codeL_zero l).2 fun p hp => h p (by simpa using hp)
theorem GoodP.recs {l : List Num'} {k : Nat} (h : GoodP l k) : (recs (l.take k)).length ≤ 8 * l.length :=
  Nat.le_trans (recs_len _ h) (Nat.mul_le_mul_left 8 (by simp; omega))

set_option maxRecDepth 100000 in
set_option maxHeartbeats 1000000 in
theorem Pack_any (B : Nat) (A : Option Addr) (c : Nat) (l : List Num') (w : World) (hr : Rd w B A (numsV l)) (hB : B ≤ w.heap.size) (hn : l.length ≤ 4096) (hv : ∀ p ∈ l, p.2 < 18446744073709551616) :
    Calls Try.prog 30 #[.slice A l.length c] w (Packed l w) := by
  go_enter Try.func30, Try.ntmps30
  go_wp2
  go_loopw [4, 9] (fun r i wr => ∃ k : Nat, k ≤ l.length ∧ i = .int .i64 k ∧ GoodP l k ∧ wr.ownsRow w.heap.size 5 1 r (recs (l.take k)).length ((recs (l.take k)).map bv) ∧ Below w.heap.size w wr) (fun _ i _ => l.length - (intOf i).toNat)
  case atStart => exact ⟨0, Nat.zero_le _, rfl, GoodP.zero _, by simpa [recs] using World.ownsRow_nil w w.heap.size _ 1, Below.refl _ _⟩
  case round =>
    obtain ⟨k, hk, rfl, hg, hown, hb⟩ := hrel
    by_cases hlt : k < l.length
    · obtain ⟨p, hp⟩ : ∃ p, l[k]? = some p := ⟨_, List.getElem?_eq_getElem hlt⟩
      have hpm : p ∈ l := List.mem_of_getElem? hp
      have hpv := hv p hpm
      obtain ⟨b, o, rfl, hbB, hc⟩ := (hr.below (hb.mono hB)).plain (by rw [numsV_length]; omega)
      obtain ⟨n0, n1⟩ := numsV_get l k p hp
      have c0 := hc _ _ n0
      have c1 := hc _ _ n1
      have HP := Lib.hid hp
      have hsz := hb.size
      clear hc n0 n1 hv hr hpm hp
      obtain ⟨n, v⟩ := p
      by_cases hw : 1 ≤ n ∧ n ≤ 8
      · obtain ⟨h1, h2⟩ := hw
        simp only at c0 c1 hpv
        obtain ⟨x, hx⟩ : ∃ x : Int, x = (v : Int) := ⟨_, rfl⟩
        have hv0 : 0 ≤ x := by omega
        have hv1 : x < 18446744073709551616 := by omega
        rw [← hx] at c1
        have HX := Lib.hid hx
        have HV := Lib.hid hpv
        clear hpv hx
        rw [← Nat.add_assoc] at c1
        have hxv : x.toNat = v := by have := HX.out; omega
        by_cases hf : v < 256 ^ n.toNat
        · have hok : okN (n, v) = true := (okN_iff _).2 ⟨⟨h1, h2⟩, hf⟩
          have hg1 := hg.succ _ HP.out hok
          have hrl := hg.recs
          have hrs := Lib.hid (recs_snoc l k _ HP.out)
          have hfb : Hid (decide (x.toNat < 256 ^ n.toNat) = true) := by rw [hxv]; simpa [Hid] using hf
          have HXV := Lib.hid hxv
          have hlm : (recs (List.take k l)).length ≤ 70368744177664 := by omega
          have HLM := Lib.hid hlm
          clear hxv hf hok hlm
          go_wp2_with fail
          refine (isWidth_yes n _ h1 h2).mono ?_
          rintro e w1 ⟨rfl, rfl⟩
          go_wp2_with fail
          refine (fits_any n x true _ h1 h2 hv0 hv1 hfb.out).mono ?_
          rintro e w1 ⟨rfl, hw1⟩
          obtain rfl := hw1
          go_wp2_with fail
          refine (appendNum_any w.heap.size _ _ _ n x _ ((hown.alloc _).alloc _) (by simp; omega) HLM.out h1 h2 hv0 hv1).mono ?_
          rintro e w2 ⟨r', rfl, hown2, hb2⟩
          have hb3 := ((hb.alloc (by omega) (.cells #[.int .i64 n, .int .u64 x] 60)).alloc (by simp; omega) (.cells #[.int .i64 n, .int .u64 x] 60)).trans hb2
          have hown3 : w2.ownsRow w.heap.size 5 1 r' (recs (l.take (k + 1))).length ((recs (l.take (k + 1))).map bv) := by
            rw [hrs.out, List.length_append, be_length]
            rw [HXV.out] at hown2
            exact hown2
          clear hown2 hown hb hb2 hrl
          go_wp2
          go_roundw
          case rel => exact ⟨k + 1, by omega, by go_num, hg1, hown3, hb3⟩
          case measure => simp [intOf]; omega
        · have hok : okN (n, v) = false := by simp only [okN, okV]; simp [hf]
          have hcode : codeL l = 19 := by
            rw [codeL_at l k hg _ HP.out hok]
            simp [codeN, okW, okV, h1, h2, hf]
          have hfb : Hid (decide (x.toNat < 256 ^ n.toNat) = false) := by rw [hxv]; simpa [Hid] using hf
          have HC := Lib.hid hcode
          clear hxv hf hok hcode hown hg
          go_wp2_with fail
          refine (isWidth_yes n _ h1 h2).mono ?_
          rintro e w1 ⟨rfl, rfl⟩
          go_wp2_with fail
          refine (fits_any n x false _ h1 h2 hv0 hv1 hfb.out).mono ?_
          rintro e w1 ⟨rfl, hw1⟩
          obtain rfl := hw1
          go_wp2
          go_ret2
          exact ⟨_, by rw [HC.out]; rfl, by rw [HC.out]; intro h; simp at h, fun _ => rfl, (hb.alloc (by omega) _).alloc (by simp; omega) _⟩
      · have hok : okN (n, v) = false := by simp only [okN, okW]; simp [hw]
        have hcode : codeL l = 1 := by
          rw [codeL_at l k hg _ HP.out hok]
          simp [codeN, okW, hw]
        have hw' : n < 1 ∨ 8 < n := by omega
        have HC := Lib.hid hcode
        obtain ⟨x, hx⟩ : ∃ x : Int, x = (v : Int) := ⟨_, rfl⟩
        simp only at c0 c1
        rw [← hx] at c1
        rw [← Nat.add_assoc] at c1
        clear hw hok hcode hown hg hpv hx
        go_wp2_with fail
        refine (isWidth_no n _ hw').mono ?_
        rintro e w1 ⟨rfl, rfl⟩
        go_wp2
        go_ret2
        exact ⟨_, by rw [HC.out]; rfl, by rw [HC.out]; intro h; simp at h, fun _ => rfl, hb.alloc (by omega) _⟩
    · obtain rfl : k = l.length := by omega
      have hcode := hg.all
      rw [List.take_of_length_le (Nat.le_refl _)] at hown
      have HC := Lib.hid hcode
      clear hcode hg hr hv
      go_wp2
      go_ret2
      exact ⟨_, by rw [HC.out]; rfl, fun _ => hown, by rw [HC.out]; intro h; simp at h, hb⟩

theorem Pack_all (B : Nat) (A : Option Addr) (n c : Nat) (l : List Num') (bs : List UInt8) (m : Nat) (q : Int) (w : World) (hl : l.length = n) (hq : codeL l = q) (hbs : packB l = bs) (hm : bs.length = m) (hr : Rd w B A (numsV l)) (hB : B ≤ w.heap.size) (hn : n ≤ 4096) (hv : ∀ p ∈ l, p.2 < 18446744073709551616) :
    Calls Try.prog 30 #[.slice A n c] w fun e w' => ∃ A' c', e = .returned (.tuple #[.slice A' m c', .int .i64 q]) ∧ m ≤ c' ∧ c' ≤ maxLen ∧ Rd w' w'.heap.size A' (bs.map bv) ∧ Below w.heap.size w w' := by
  subst hl hq hbs hm
  refine (Pack_any B A c l w hr hB hn hv).mono ?_
  rintro e w' ⟨r, rfl, hok, hbad, hb⟩
  by_cases h0 : codeL l = 0
  · have hown := hok h0
    obtain ⟨A', c', rfl, h1, h2⟩ := own_len hown
    have e1 : packB l = recs l := by unfold packB; rw [if_pos h0]
    rw [e1]
    exact ⟨A', c', rfl, h1, h2, Rd.own hown, hb⟩
  · have e1 : packB l = [] := by unfold packB; rw [if_neg h0]
    rw [e1, hbad h0]
    exact ⟨none, 0, rfl, Nat.le_refl _, by simp, Rd.nil_, hb⟩
theorem Pack_ok (B : Nat) (A : Option Addr) (n c : Nat) (l : List Num') (bs : List UInt8) (m : Nat) (w : World) (hl : l.length = n) (h0 : codeL l = 0) (hbs : recs l = bs) (hm : bs.length = m) (hr : Rd w B A (numsV l)) (hB : B ≤ w.heap.size) (hn : n ≤ 4096) (hv : ∀ p ∈ l, p.2 < 18446744073709551616) :
    Calls Try.prog 30 #[.slice A n c] w fun e w' => ∃ A' c', e = .returned (.tuple #[.slice A' m c', .int .i64 0]) ∧ m ≤ c' ∧ c' ≤ maxLen ∧ Rd w' w'.heap.size A' (bs.map bv) ∧ w'.ownsRow w.heap.size 5 1 (.slice A' m c') m (bs.map bv) ∧ Below w.heap.size w w' := by
  subst hl hbs hm
  refine (Pack_any B A c l w hr hB hn hv).mono ?_
  rintro e w' ⟨r, rfl, hok, _, hb⟩
  have hown := hok h0
  obtain ⟨A', c', rfl, h1, h2⟩ := own_len hown
  exact ⟨A', c', by rw [h0], h1, h2, Rd.own hown, hown, hb⟩
theorem Pack_bad (B : Nat) (A : Option Addr) (n c : Nat) (l : List Num') (q : Int) (w : World) (hl : l.length = n) (hq : codeL l = q) (h0 : q ≠ 0) (hr : Rd w B A (numsV l)) (hB : B ≤ w.heap.size) (hn : n ≤ 4096) (hv : ∀ p ∈ l, p.2 < 18446744073709551616) :
    Calls Try.prog 30 #[.slice A n c] w fun e w' => e = .returned (.tuple #[.slice none 0 0, .int .i64 q]) ∧ Below w.heap.size w w' := by
  subst hl hq
  refine (Pack_any B A c l w hr hB hn hv).mono ?_
  rintro e w' ⟨r, rfl, _, hbad, hb⟩
  exact ⟨by rw [hbad h0], hb⟩
end Go.Proofs.Ytgboccepgbeihaa
