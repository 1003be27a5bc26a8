/-
  EntryOrder: the walk, from the properties. (Printed by wip/tools/entlaw4.py.)
-/
import Derived.Test.YtgboccepgbeihaaEntLaw2
namespace Go.Proofs.Ytgboccepgbeihaa
open Go.RowKit
set_option maxRecDepth 100000
set_option linter.unusedVariables false

def slotO1 (i : Nat) : Nat := 71 + i
def waitO1 : Nat → List Nat
  | 2 => [0, 1]
  | 3 => [2]
  | 4 => [3]
  | 5 => [3, 4]
  | 6 => [3, 5]
  | 7 => [6]
  | 8 => [7]
  | 9 => [7, 8]
  | 10 => [7, 9]
  | 11 => [10]
  | 12 => [10, 11]
  | 13 => [10]
  | 14 => [10, 13]
  | 15 => [10, 12, 14]
  | 16 => [10]
  | 17 => [10]
  | 18 => [10, 16, 17]
  | 19 => [10, 15, 18]
  | 20 => [7, 10, 19]
  | 21 => [7, 20]
  | 22 => [21]
  | 23 => [22]
  | 24 => [22, 23]
  | _ => []
def leaveO1 (Aa Ab As At A1 : Option Addr) (na ca nb cb ns cs nt ct n1 c1 : Nat) (X V : ByteArray) (u : Bool) : Nat → Value → World → Prop
  | 0, v, _ => v = .slice Aa na ca
  | 1, v, _ => v = .slice Ab nb cb
  | 2, v, _ => v = .bool true
  | 3, v, _ => v = .bool true
  | 4, v, _ => v = .int .i64 0
  | 5, v, _ => v = .bool true
  | 6, v, _ => v = .bool true
  | 7, v, _ => v = .bool true
  | 8, v, _ => v = .int .i64 1
  | 9, v, _ => v = .bool true
  | 10, v, _ => v = .bool true
  | 11, v, _ => v = undef
  | 12, v, _ => v = undef
  | 13, v, _ => v = undef
  | 14, v, _ => v = undef
  | 15, v, _ => v = undef
  | 16, v, _ => v = undef
  | 17, v, _ => v = undef
  | 18, v, _ => v = undef
  | 19, v, _ => v = undef
  | 20, v, _ => v = .bool true
  | 21, v, _ => v = .bool true
  | 22, v, _ => v = .bool true
  | 23, v, _ => v = .bool true
  | _, _, _ => True
def slotO2 (i : Nat) : Nat := 71 + i
def waitO2 : Nat → List Nat
  | 2 => [0, 1]
  | 3 => [2]
  | 4 => [3]
  | 5 => [3, 4]
  | 6 => [3, 5]
  | 7 => [6]
  | 8 => [7]
  | 9 => [7, 8]
  | 10 => [7, 9]
  | 11 => [10]
  | 12 => [10, 11]
  | 13 => [10]
  | 14 => [10, 13]
  | 15 => [10, 12, 14]
  | 16 => [10]
  | 17 => [10]
  | 18 => [10, 16, 17]
  | 19 => [10, 15, 18]
  | 20 => [7, 10, 19]
  | 21 => [7, 20]
  | 22 => [21]
  | 23 => [22]
  | 24 => [22, 23]
  | _ => []
def leaveO2 (Aa Ab As At A1 : Option Addr) (na ca nb cb ns cs nt ct n1 c1 : Nat) (X V : ByteArray) (u : Bool) : Nat → Value → World → Prop
  | 0, v, _ => v = .slice Aa na ca
  | 1, v, _ => v = .slice Ab nb cb
  | 2, v, _ => v = .bool true
  | 3, v, _ => v = .bool true
  | 4, v, _ => v = .int .i64 0
  | 5, v, _ => v = .bool true
  | 6, v, _ => v = .bool true
  | 7, v, _ => v = .bool true
  | 8, v, _ => v = .int .i64 0
  | 9, v, _ => v = .bool false
  | 10, v, _ => v = .bool false
  | 11, v, _ => v = .slice As ns cs
  | 12, v, _ => v = .string X
  | 13, v, _ => v = .slice At nt ct
  | 14, v, _ => v = .string V
  | 15, v, _ => v = .bool u
  | 16, v, _ => v = .slice Aa na ca
  | 17, v, _ => v = .slice A1 n1 c1
  | 18, v, _ => v = .bool u
  | 19, v, _ => v = .bool true
  | 20, v, _ => v = .bool true
  | 21, v, _ => v = .bool true
  | 22, v, _ => v = .bool true
  | 23, v, _ => v = .bool true
  | _, _, _ => True
theorem rot_onto (n t i : Nat) (h : i < n) : ∃ j, j < n ∧ (j + t) % n = i := by
  have hr := Nat.mod_lt t (show 0 < n by omega)
  have ht := Nat.div_add_mod t n
  by_cases h1 : t % n ≤ i
  · refine ⟨i - t % n, by omega, ?_⟩
    have e : i - t % n + t = i + n * (t / n) := by omega
    rw [e, Nat.add_mul_mod_self_left, Nat.mod_eq_of_lt h]
  · refine ⟨i + n - t % n, by omega, ?_⟩
    have e : i + n - t % n + t = i + n * (t / n + 1) := by rw [Nat.mul_add, Nat.mul_one]; omega
    rw [e, Nat.add_mul_mod_self_left, Nat.mod_eq_of_lt h]
theorem rot_one {n t j : Nat} (h : j < n) : (j + t) % n = if j + t % n < n then j + t % n else j + t % n - n := by
  have hr := Nat.mod_lt t (show 0 < n by omega)
  rw [Nat.add_mod, Nat.mod_eq_of_lt h]
  split
  · exact Nat.mod_eq_of_lt (by assumption)
  · rw [Nat.mod_eq_sub_mod (by omega), Nat.mod_eq_of_lt (by omega)]
theorem rot_inj {n t j k : Nat} (hj : j < n) (hk : k < n) (h : (j + t) % n = (k + t) % n) : j = k := by
  have hr := Nat.mod_lt t (show 0 < n by omega)
  rw [rot_one hj, rot_one hk] at h
  split at h <;> split at h <;> omega
theorem pair_get {l : List Et} (hp : l.Pairwise ltE) {i j : Nat} {x : Et} (hi : l[i]? = some x) (hj : l[j]? = some x) : i = j := by
  obtain ⟨h1, h2⟩ := List.getElem?_eq_some_iff.1 hi
  obtain ⟨h3, h4⟩ := List.getElem?_eq_some_iff.1 hj
  rcases Nat.lt_trichotomy i j with h | h | h
  · have := List.pairwise_iff_getElem.1 hp i j h1 h3 h
    rw [h2, h4] at this
    exact absurd rfl this.ne
  · exact h
  · have := List.pairwise_iff_getElem.1 hp j i h3 h1 h
    rw [h2, h4] at this
    exact absurd rfl this.ne
/-- what has been added of a, from some one on, round -/
structure Rot (a b : List Et) (t k : Nat) : Prop where
  may : mayE b = true
  len : b.length = k
  mem : ∀ x, x ∈ b ↔ ∃ j, j < k ∧ a[(j + t) % a.length]? = some x
theorem Rot.zero (a : List Et) (t : Nat) : Rot a [] t 0 := ⟨mayE_nil, rfl, fun x => ⟨fun h => (by cases h), fun ⟨j, h, _⟩ => (by omega)⟩⟩
theorem Rot.add {a b : List Et} {t k : Nat} {x : Et} (h : Rot a b t k) (ha : mayE a = true) (hk : k < a.length) (hx : a[(k + t) % a.length]? = some x) : addQ b x = 0 ∧ Rot a (putE b x) t (k + 1) := by
  obtain ⟨h1, h2, h3⟩ := (mayE_iff a).1 ha
  have hxa := List.mem_of_getElem? hx
  have hno : hasE b x.name = false := by
    rw [Bool.eq_false_iff]
    intro hh
    obtain ⟨y, hy, e⟩ := (hasE_iff _ _).1 hh
    obtain ⟨j, hj, hjy⟩ := (h.mem y).1 hy
    obtain rfl := same_name h2 (List.mem_of_getElem? hjy) hxa e
    have := rot_inj (by omega) hk (pair_get h2 hjy hx)
    omega
  have hq : addQ b x = 0 := addQ_zero.2 ⟨h.may, h1 x hxa, hno, by have := h.len; omega⟩
  obtain ⟨m1, m2⟩ := addR_may hq
  refine ⟨hq, m1, by rw [m2, h.len], fun y => ?_⟩
  rw [putE_mem hno, h.mem]
  constructor
  · rintro (rfl | ⟨j, hj, hjy⟩)
    · exact ⟨k, by omega, hx⟩
    · exact ⟨j, by omega, hjy⟩
  · rintro ⟨j, hj, hjy⟩
    rcases Nat.lt_or_ge j k with hjk | hjk
    · exact .inr ⟨j, hjk, hjy⟩
    · obtain rfl : j = k := by omega
      rw [hx] at hjy; cases hjy; exact .inl rfl
theorem Rot.all {a b : List Et} {t : Nat} (h : Rot a b t a.length) (ha : mayE a = true) : b = a := by
  refine pair_ext ((mayE_iff b).1 h.may).2.1 ((mayE_iff a).1 ha).2.1 fun x => ⟨fun hx => ?_, fun hx => ?_⟩
  · obtain ⟨j, _, hj⟩ := (h.mem x).1 hx
    exact List.mem_of_getElem? hj
  · obtain ⟨i, hi, e⟩ := List.mem_iff_getElem.1 hx
    obtain ⟨j, hj, ej⟩ := rot_onto a.length t i hi
    exact (h.mem x).2 ⟨j, hj, by rw [ej, List.getElem?_eq_getElem hi, e]⟩

set_option maxHeartbeats 16000000 in
theorem entryOrder_walk (W : World) (HC : EncEC W) (HA : AddEC W) (HT : TakeEC W) (A : Option Addr) (n c : Nat) (l : List Et) (t : Nat)
    (hl : l.length = n) (hnc : n ≤ c) (hcm : c ≤ maxLen) (hr : Rd W W.heap.size A (etsV l)) (hs : ∀ x ∈ l, inE x) (ht : t < 256) :
    Calls Try.prog 6 #[.slice A n c, .int .u8 (t : Int)] W fun e w' => e = .returned (.bool true) ∧ Below W.heap.size W w' := by
  have HAW := Lib.hid (awakeE_any HC HA HT)
  have HC := Lib.hid HC
  have HA := Lib.hid HA
  have HSH := Lib.hid (fewE_short hs)
  have hfl := fewE_len l
  have HFW := Lib.hid (fewLoop_any W.heap.size A n c l W hl hnc hcm hr (Nat.le_refl _) hs)
  obtain ⟨L, hL⟩ : ∃ L, fewE l = L := ⟨_, rfl⟩
  rw [hL] at HFW HSH hfl
  clear hl hnc hcm hr hs hL
  go_enter Try.func6, Try.ntmps6
  go_wp2_with fail
  refine HFW.out.mono ?_
  rintro e w1 ⟨v1, rfl, hE, hb⟩
  have HB1 := Lib.hid hb
  obtain ⟨A1, n1, c1, rfl, hn1, -, -, -⟩ := id hE
  have E1 := Lib.hid hE
  have hn1s : n1 ≤ 33 := by omega
  clear hb hE hn1 HFW
  go_wp2
  go_loopw [5, 7] (fun s i wr => ∃ (k : Nat) (a : List Et) (Aa : Option Addr) (na ca : Nat), k ≤ n1 ∧ i = .int .i64 (k : Int) ∧ s = .slice Aa na ca ∧ na ≤ 30 ∧ Hid (EtsW wr a (.slice Aa na ca)) ∧ Hid (mayE a = true) ∧ Hid (∀ x ∈ a, shortE x) ∧ Hid (EtsW wr L (.slice A1 n1 c1)) ∧ Hid (Below W.heap.size W wr)) (fun _ i _ => n1 - (intOf i).toNat)
  case atStart => exact ⟨0, [], none, 0, 0, Nat.zero_le _, rfl, rfl, Nat.zero_le _, EtsW.nil_ _, mayE_nil, fun x hx => (by cases hx), E1, HB1⟩
  case round =>
    obtain ⟨k, a, Aa, na, ca, hk, rfl, rfl, hna, EA, HMA, HSA, E1, HB⟩ := hrel
    by_cases hlt : k < n1
    · obtain ⟨x, hx⟩ : ∃ x, L[k]? = some x := ⟨_, List.getElem?_eq_getElem (by rw [E1.out.parts.1]; exact hlt)⟩
      have HRL := Lib.hid E1.out.parts.2.2.2
      obtain ⟨b, o, rfl, -, -⟩ := HRL.out.plain (by rw [etsV_length, E1.out.parts.1]; omega)
      obtain ⟨c0, c1', c2⟩ := ets_at HRL.out hx
      have hxs := HSH.out x (List.mem_of_getElem? hx)
      have hadd := HA.out.call a x Aa na ca wr EA.out (by omega) HSA.out hxs HB.out
      obtain ⟨nm, q, ty⟩ := x
      simp only at c0 c1' c2
      obtain ⟨r, hr⟩ : ∃ r, addQ a ⟨nm, q, ty⟩ = r := ⟨_, rfl⟩
      obtain ⟨R, hR⟩ : ∃ R, addR a ⟨nm, q, ty⟩ = R := ⟨_, rfl⟩
      rw [hr, hR] at hadd
      have CA : Hid (Calls Try.prog 19 #[.slice Aa na ca, .agg #[.string (str nm), .int .i64 q, .int .i64 ty]] wr fun e w' => ∃ v, e = .returned (.tuple #[v, .int .i64 r]) ∧ EtsW w' R v ∧ Below wr.heap.size wr w') := hadd
      have HR : Hid ((r = 0 ∧ mayE R = true ∧ R.length ≤ 30 ∧ ∀ x ∈ R, shortE x) ∨ r ≠ 0) := by
        by_cases h : r = 0
        · refine .inl ⟨h, ?_⟩
          have e : R = putE a ⟨nm, q, ty⟩ := by rw [← hR, addR, if_pos (hr.trans h)]
          have h1 := addR_may (hr.trans h)
          rw [e]
          refine ⟨h1.1, ((mayE_iff _).1 h1.1).2.2, fun y hy => ?_⟩
          rcases (putE_mem (addQ_zero.1 (hr.trans h)).2.2.1).1 hy with rfl | hy
          · exact hxs
          · exact HSA.out y hy
        · exact .inr h
      obtain ⟨Y, hY⟩ : ∃ Y, str nm = Y := ⟨_, rfl⟩
      rw [hY] at c0 CA
      clear hx hxs hadd hr hR hY HRL
      go_wp2_with fail
      refine CA.out.mono ?_
      rintro e w3 ⟨v, rfl, hE, hb⟩
      have HB3 := Lib.hid (HB.out.trans (hb.mono HB.out.size))
      have E3 := Lib.hid (E1.out.up hb)
      have EA3 := Lib.hid (EA.out.up hb)
      clear c0 c1' c2
      rcases HR.out with ⟨rfl, h1, h2, h3⟩ | h0
      · obtain ⟨A2, n2, c2, rfl, hn2, -, -, -⟩ := id hE
        have EB := Lib.hid hE
        have HM2 := Lib.hid h1
        have HS2 := Lib.hid h3
        have hn2s : n2 ≤ 30 := by omega
        clear hE hn2 h1 h2 h3 hb
        go_wp2
        go_roundw
        case rel => exact ⟨k + 1, R, A2, n2, c2, by omega, by go_num, rfl, hn2s, EB, HM2, HS2, E3, HB3⟩
        case measure => simp [intOf]; omega
      · have hrn : (r == 0) = false := beq_false_of_ne h0
        clear hE h0 hb
        go_wp2
        go_roundw
        case rel => exact ⟨k + 1, a, Aa, na, ca, by omega, by go_num, rfl, hna, EA3, HMA, HSA, E3, HB3⟩
        case measure => simp [intOf]; omega
    · obtain ⟨wo, hwo⟩ : ∃ wo : World, wo = wr := ⟨_, rfl⟩
      subst hwo
      have HLA := Lib.hid EA.out.parts.1
      go_wp2
      go_loopw [6, 10] (fun s i wx => ∃ (k : Nat) (b : List Et) (Ab : Option Addr) (nb cb : Nat), k ≤ na ∧ i = .int .i64 (k : Int) ∧ s = .slice Ab nb cb ∧ nb ≤ 30 ∧ Hid (EtsW wx b (.slice Ab nb cb)) ∧ Hid (Rot a b t k) ∧ Hid (EtsW wx a (.slice Aa na ca)) ∧ Hid (EtsW wx L (.slice A1 n1 c1)) ∧ Hid (Below W.heap.size W wx)) (fun _ i _ => na - (intOf i).toNat)
      case atStart => exact ⟨0, [], none, 0, 0, Nat.zero_le _, rfl, rfl, Nat.zero_le _, EtsW.nil_ _, Rot.zero a t, EA, E1, HB⟩
      case round =>
        clear EA E1 HB
        obtain ⟨k2, b, Ab, nb, cb, hk2, rfl, rfl, hnb, EB, HRO, EA, E1, HB⟩ := hrel
        by_cases hlt : k2 < na
        · have hmod := Nat.mod_lt (k2 + t) (show 0 < na by omega)
          obtain ⟨m, hm⟩ : ∃ m, (k2 + t) % na = m := ⟨_, rfl⟩
          rw [hm] at hmod
          obtain ⟨x, hx⟩ : ∃ x, a[m]? = some x := ⟨_, List.getElem?_eq_getElem (by rw [HLA.out]; exact hmod)⟩
          obtain ⟨hq, hro⟩ := HRO.out.add HMA.out (by rw [HLA.out]; exact hlt) (by rw [HLA.out, hm]; exact hx)
          have HRL := Lib.hid EA.out.parts.2.2.2
          obtain ⟨bb, o, rfl, -, -⟩ := HRL.out.plain (by rw [etsV_length, HLA.out]; omega)
          obtain ⟨c0, c1', c2⟩ := ets_at HRL.out hx
          have hxs := HSA.out x (List.mem_of_getElem? hx)
          have hbs : ∀ y ∈ b, shortE y := fun y hy => by
            obtain ⟨j, _, hj⟩ := (HRO.out.mem y).1 hy
            exact HSA.out y (List.mem_of_getElem? hj)
          have hadd := HA.out.call b x Ab nb cb wr EB.out (by omega) hbs hxs HB.out
          rw [hq, show addR b x = putE b x from by rw [addR, if_pos hq]] at hadd
          have HRO' := Lib.hid hro
          obtain ⟨nm, q, ty⟩ := x
          simp only at c0 c1' c2
          have CA : Hid (Calls Try.prog 19 #[.slice Ab nb cb, .agg #[.string (str nm), .int .i64 q, .int .i64 ty]] wr fun e w' => ∃ v, e = .returned (.tuple #[v, .int .i64 0]) ∧ EtsW w' (putE b ⟨nm, q, ty⟩) v ∧ Below wr.heap.size wr w') := hadd
          have hml := HRO'.out.len
          obtain ⟨Y, hY⟩ : ∃ Y, str nm = Y := ⟨_, rfl⟩
          rw [hY] at c0 CA
          have q1 : ((k2 : Int) + (t : Int)).tmod (na : Int) = (m : Int) := by
            rw [Int.tmod_eq_emod_of_nonneg (by omega), ← hm]; rfl
          have q2 : ¬ (na : Int) = 0 := by omega
          have q3 : ((na : Int) == 0) = false := beq_false_of_ne q2
          obtain ⟨R, hR⟩ : ∃ R, putE b ⟨nm, q, ty⟩ = R := ⟨_, rfl⟩
          rw [hR] at CA HRO' hml
          clear hx hxs hadd hY HRL hq hro hbs hm hR
          go_wp2_with fail
          refine CA.out.mono ?_
          rintro e w3 ⟨v, rfl, hE, hb⟩
          have HB3 := Lib.hid (HB.out.trans (hb.mono HB.out.size))
          have E3 := Lib.hid (E1.out.up hb)
          have EA3 := Lib.hid (EA.out.up hb)
          obtain ⟨A2, n2, c2, rfl, hn2, -, -, -⟩ := id hE
          have EB3 := Lib.hid hE
          have hn2s : n2 ≤ 30 := by omega
          clear c0 c1' hE hn2 hml hb q1 q2 q3
          go_wp2
          go_roundw
          case rel => exact ⟨k2 + 1, R, A2, n2, c2, by omega, by go_num, rfl, hn2s, EB3, HRO', EA3, E3, HB3⟩
          case measure => simp [intOf]; omega
        · have hkn : na = k2 := by omega
          have hba : b = a := by
            have h := HRO.out
            rw [← hkn, ← HLA.out] at h
            exact h.all HMA.out
          subst hkn
          subst hba
          have hea := HC.out.call b Aa na ca wr EA.out (by omega) HSA.out HB.out
          rw [HMA.out] at hea
          have CE : Hid (Calls Try.prog 13 #[.slice Aa na ca] wr fun e w' => ∃ v, e = .returned (.tuple #[v, .int .i64 0]) ∧ BytW w' (encE b) v ∧ Below wr.heap.size wr w') := hea
          clear hea
          go_wp2_with fail
          refine CE.out.mono ?_
          rintro e w3 ⟨v, rfl, hv, hb⟩
          have HB := Lib.hid (HB.out.trans (hb.mono HB.out.size))
          have E1 := Lib.hid (E1.out.up hb)
          have EA := Lib.hid (EA.out.up hb)
          have EB := Lib.hid (EB.out.up hb)
          obtain ⟨As, ns, cs, rfl, -, -, -, -⟩ := id hv
          have BS := Lib.hid hv
          have hel := HC.out.call L A1 n1 c1 w3 E1.out (by omega) HSH.out HB.out
          clear hb hv CE
          cases hml : mayE L with
          | false =>
            rw [hml] at hel
            have CE : Hid (Calls Try.prog 13 #[.slice A1 n1 c1] w3 fun e w' => ∃ v, e = .returned (.tuple #[v, .int .i64 1]) ∧ BytW w' [] v ∧ Below w3.heap.size w3 w') := hel
            clear hel hml
            go_wp2_with fail
            refine CE.out.mono ?_
            rintro e w4 ⟨v, rfl, hv, hb⟩
            have HB := Lib.hid (HB.out.trans (hb.mono HB.out.size))
            have E1 := Lib.hid (E1.out.up hb)
            have EA := Lib.hid (EA.out.up hb)
            have EB := Lib.hid (EB.out.up hb)
            obtain ⟨At, nt, ct, rfl, -, -, -, -⟩ := id hv
            have HSA := Lib.hid fun w' (hb : Below w4.heap.size w4 w') => rSameE (EA.out.up hb) (EB.out.up hb) (by omega) (by omega) true ⟨fun _ => rfl, fun _ => rfl⟩
            obtain ⟨X, V, u, -⟩ : ∃ (X V : ByteArray) (u : Bool), True := ⟨ByteArray.empty, ByteArray.empty, true, trivial⟩
            clear hb hv CE
            go_wp2_with fail
            refine wp_region_tail (by kernel_rfl) 24 96 slotO1 waitO1 (leaveO1 Aa Ab As At A1 na ca nb cb ns cs nt ct n1 c1 X V u) rfl
              (by kernel_rfl) (fun i v w w' _ _ h => by unfold leaveO1 at *; split at h <;> exact h) ?_ ?_
            · intro i hi
              match i, hi with
              | 0, _ =>
                intro o ho a wc hk hb hd K hK
                cases ho
                have e0 := hk.rest 5 (.slice Aa na ca) (by omega) (by kernel_rfl) rfl
                rw [Array.getD_eq_getD_getElem?] at e0
                go_simp
                exact hK _ _ (Below.refl _ _) rfl
              | 1, _ =>
                intro o ho a wc hk hb hd K hK
                cases ho
                have e0 := hk.rest 6 (.slice Ab nb cb) (by omega) (by kernel_rfl) rfl
                rw [Array.getD_eq_getD_getElem?] at e0
                go_simp
                exact hK _ _ (Below.refl _ _) rfl
              | 2, _ =>
                intro o ho a wc hk hb hd K hK
                cases ho
                have e0 := hd 0 (by simp [waitO1])
                have e1 := hd 1 (by simp [waitO1])
                simp only [leaveO1, slotO1, Nat.reduceAdd, Array.getD_eq_getD_getElem?] at e0 e1
                go_simp
                refine (HSA.out _ hb).mono ?_
                rintro e w19 ⟨rfl, hb9⟩
                exact hK _ _ hb9 rfl
              | 3, _ =>
                intro o ho a wc hk hb hd K hK
                cases ho
                have e0 := hd 2 (by simp [waitO1])
                simp only [leaveO1, slotO1, Nat.reduceAdd, Array.getD_eq_getD_getElem?] at e0
                go_simp
                exact hK _ _ (Below.refl _ _) rfl
              | 4, _ =>
                intro o ho a wc hk hb hd K hK
                cases ho
                have e0 := hk.rest 14 (.int .i64 0) (by omega) (by kernel_rfl) rfl
                rw [Array.getD_eq_getD_getElem?] at e0
                have e1 := hd 3 (by simp [waitO1])
                simp only [leaveO1, slotO1, Nat.reduceAdd, Array.getD_eq_getD_getElem?] at e1
                have gs := hk.some_ (s := 74) (by omega) e1
                go_simp
                exact hK _ _ (Below.refl _ _) rfl
              | 5, _ =>
                intro o ho a wc hk hb hd K hK
                cases ho
                have e0 := hd 3 (by simp [waitO1])
                have e1 := hd 4 (by simp [waitO1])
                simp only [leaveO1, slotO1, Nat.reduceAdd, Array.getD_eq_getD_getElem?] at e0 e1
                have gs := hk.some_ (s := 74) (by omega) e0
                go_simp
                exact hK _ _ (Below.refl _ _) rfl
              | 6, _ =>
                intro o ho a wc hk hb hd K hK
                cases ho
                have e0 := hd 3 (by simp [waitO1])
                have e1 := hd 5 (by simp [waitO1])
                simp only [leaveO1, slotO1, Nat.reduceAdd, Array.getD_eq_getD_getElem?] at e0 e1
                go_simp
                exact hK _ _ (Below.refl _ _) rfl
              | 7, _ =>
                intro o ho a wc hk hb hd K hK
                cases ho
                have e0 := hd 6 (by simp [waitO1])
                simp only [leaveO1, slotO1, Nat.reduceAdd, Array.getD_eq_getD_getElem?] at e0
                go_simp
                exact hK _ _ (Below.refl _ _) rfl
              | 8, _ =>
                intro o ho a wc hk hb hd K hK
                cases ho
                have e0 := hk.rest 16 (.int .i64 1) (by omega) (by kernel_rfl) rfl
                rw [Array.getD_eq_getD_getElem?] at e0
                have e1 := hd 7 (by simp [waitO1])
                simp only [leaveO1, slotO1, Nat.reduceAdd, Array.getD_eq_getD_getElem?] at e1
                have gs := hk.some_ (s := 78) (by omega) e1
                go_simp
                exact hK _ _ (Below.refl _ _) rfl
              | 9, _ =>
                intro o ho a wc hk hb hd K hK
                cases ho
                have e0 := hd 7 (by simp [waitO1])
                have e1 := hd 8 (by simp [waitO1])
                simp only [leaveO1, slotO1, Nat.reduceAdd, Array.getD_eq_getD_getElem?] at e0 e1
                have gs := hk.some_ (s := 78) (by omega) e0
                go_simp
                exact hK _ _ (Below.refl _ _) rfl
              | 10, _ =>
                intro o ho a wc hk hb hd K hK
                cases ho
                have e0 := hd 7 (by simp [waitO1])
                have e1 := hd 9 (by simp [waitO1])
                simp only [leaveO1, slotO1, Nat.reduceAdd, Array.getD_eq_getD_getElem?] at e0 e1
                have gs := hk.some_ (s := 78) (by omega) e0
                go_simp
                exact hK _ _ (Below.refl _ _) rfl
              | 11, _ =>
                intro o ho a wc hk hb hd K hK
                cases ho
                have e0 := hk.rest 13 (.slice As ns cs) (by omega) (by kernel_rfl) rfl
                rw [Array.getD_eq_getD_getElem?] at e0
                have e1 := hd 10 (by simp [waitO1])
                simp only [leaveO1, slotO1, Nat.reduceAdd, Array.getD_eq_getD_getElem?] at e1
                have gs := hk.some_ (s := 81) (by omega) e1
                go_simp
                exact hK _ _ (Below.refl _ _) rfl
              | 12, _ =>
                intro o ho a wc hk hb hd K hK
                cases ho
                have e0 := hd 10 (by simp [waitO1])
                have e1 := hd 11 (by simp [waitO1])
                simp only [leaveO1, slotO1, Nat.reduceAdd, Array.getD_eq_getD_getElem?] at e0 e1
                have gs := hk.some_ (s := 81) (by omega) e0
                go_simp
                exact hK _ _ (Below.refl _ _) rfl
              | 13, _ =>
                intro o ho a wc hk hb hd K hK
                cases ho
                have e0 := hk.rest 15 (.slice At nt ct) (by omega) (by kernel_rfl) rfl
                rw [Array.getD_eq_getD_getElem?] at e0
                have e1 := hd 10 (by simp [waitO1])
                simp only [leaveO1, slotO1, Nat.reduceAdd, Array.getD_eq_getD_getElem?] at e1
                have gs := hk.some_ (s := 81) (by omega) e1
                go_simp
                exact hK _ _ (Below.refl _ _) rfl
              | 14, _ =>
                intro o ho a wc hk hb hd K hK
                cases ho
                have e0 := hd 10 (by simp [waitO1])
                have e1 := hd 13 (by simp [waitO1])
                simp only [leaveO1, slotO1, Nat.reduceAdd, Array.getD_eq_getD_getElem?] at e0 e1
                have gs := hk.some_ (s := 81) (by omega) e0
                go_simp
                exact hK _ _ (Below.refl _ _) rfl
              | 15, _ =>
                intro o ho a wc hk hb hd K hK
                cases ho
                have e0 := hd 10 (by simp [waitO1])
                have e1 := hd 12 (by simp [waitO1])
                have e2 := hd 14 (by simp [waitO1])
                simp only [leaveO1, slotO1, Nat.reduceAdd, Array.getD_eq_getD_getElem?] at e0 e1 e2
                have gs := hk.some_ (s := 81) (by omega) e0
                go_simp
                exact hK _ _ (Below.refl _ _) rfl
              | 16, _ =>
                intro o ho a wc hk hb hd K hK
                cases ho
                have e0 := hk.rest 5 (.slice Aa na ca) (by omega) (by kernel_rfl) rfl
                rw [Array.getD_eq_getD_getElem?] at e0
                have e1 := hd 10 (by simp [waitO1])
                simp only [leaveO1, slotO1, Nat.reduceAdd, Array.getD_eq_getD_getElem?] at e1
                have gs := hk.some_ (s := 81) (by omega) e1
                go_simp
                exact hK _ _ (Below.refl _ _) rfl
              | 17, _ =>
                intro o ho a wc hk hb hd K hK
                cases ho
                have e0 := hk.rest 0 (.slice A1 n1 c1) (by omega) (by kernel_rfl) rfl
                rw [Array.getD_eq_getD_getElem?] at e0
                have e1 := hd 10 (by simp [waitO1])
                simp only [leaveO1, slotO1, Nat.reduceAdd, Array.getD_eq_getD_getElem?] at e1
                have gs := hk.some_ (s := 81) (by omega) e1
                go_simp
                exact hK _ _ (Below.refl _ _) rfl
              | 18, _ =>
                intro o ho a wc hk hb hd K hK
                cases ho
                have e0 := hd 10 (by simp [waitO1])
                have e1 := hd 16 (by simp [waitO1])
                have e2 := hd 17 (by simp [waitO1])
                simp only [leaveO1, slotO1, Nat.reduceAdd, Array.getD_eq_getD_getElem?] at e0 e1 e2
                have gs := hk.some_ (s := 81) (by omega) e0
                go_simp
                exact hK _ _ (Below.refl _ _) rfl
              | 19, _ =>
                intro o ho a wc hk hb hd K hK
                cases ho
                have e0 := hd 10 (by simp [waitO1])
                have e1 := hd 15 (by simp [waitO1])
                have e2 := hd 18 (by simp [waitO1])
                simp only [leaveO1, slotO1, Nat.reduceAdd, Array.getD_eq_getD_getElem?] at e0 e1 e2
                have gs := hk.some_ (s := 81) (by omega) e0
                go_simp
                exact hK _ _ (Below.refl _ _) rfl
              | 20, _ =>
                intro o ho a wc hk hb hd K hK
                cases ho
                have e0 := hd 7 (by simp [waitO1])
                have e1 := hd 10 (by simp [waitO1])
                have e2 := hd 19 (by simp [waitO1])
                simp only [leaveO1, slotO1, Nat.reduceAdd, Array.getD_eq_getD_getElem?] at e0 e1 e2
                have gs := hk.some_ (s := 78) (by omega) e0
                go_simp
                exact hK _ _ (Below.refl _ _) rfl
              | 21, _ =>
                intro o ho a wc hk hb hd K hK
                cases ho
                have e0 := hd 7 (by simp [waitO1])
                have e1 := hd 20 (by simp [waitO1])
                simp only [leaveO1, slotO1, Nat.reduceAdd, Array.getD_eq_getD_getElem?] at e0 e1
                go_simp
                exact hK _ _ (Below.refl _ _) rfl
              | 22, _ =>
                intro o ho a wc hk hb hd K hK
                cases ho
                have e0 := hd 21 (by simp [waitO1])
                simp only [leaveO1, slotO1, Nat.reduceAdd, Array.getD_eq_getD_getElem?] at e0
                go_simp
                exact hK _ _ (Below.refl _ _) rfl
              | 23, _ =>
                intro o ho a wc hk hb hd K hK
                cases ho
                have e0 := hd 22 (by simp [waitO1])
                simp only [leaveO1, slotO1, Nat.reduceAdd, Array.getD_eq_getD_getElem?] at e0
                have gs := hk.some_ (s := 93) (by omega) e0
                go_simp
                refine (HAW.out.call _ (HB.out.trans (hb.mono HB.out.size))).mono ?_
                rintro e w19 ⟨rfl, hb9⟩
                exact hK _ _ hb9 rfl
              | _ + 24, h => exact absurd h (by omega)
            · intro vals w18 hb hR
              have v0 := hR 0 (by omega)
              have v1 := hR 1 (by omega)
              have v2 := hR 2 (by omega)
              have v3 := hR 3 (by omega)
              have v4 := hR 4 (by omega)
              have v5 := hR 5 (by omega)
              have v6 := hR 6 (by omega)
              have v7 := hR 7 (by omega)
              have v8 := hR 8 (by omega)
              have v9 := hR 9 (by omega)
              have v10 := hR 10 (by omega)
              have v11 := hR 11 (by omega)
              have v12 := hR 12 (by omega)
              have v13 := hR 13 (by omega)
              have v14 := hR 14 (by omega)
              have v15 := hR 15 (by omega)
              have v16 := hR 16 (by omega)
              have v17 := hR 17 (by omega)
              have v18 := hR 18 (by omega)
              have v19 := hR 19 (by omega)
              have v20 := hR 20 (by omega)
              have v21 := hR 21 (by omega)
              have v22 := hR 22 (by omega)
              have v23 := hR 23 (by omega)
              simp only [leaveO1] at v0 v1 v2 v3 v4 v5 v6 v7 v8 v9 v10 v11 v12 v13 v14 v15 v16 v17 v18 v19 v20 v21 v22 v23
              clear hR
              simp only [putAll, slotO1, Nat.reduceAdd, List.setIfInBounds_toArray, List.set_cons_zero, List.set_cons_succ, List.drop_succ_cons, List.drop_zero, v0, v1, v2, v3, v4, v5, v6, v7, v8, v9, v10, v11, v12, v13, v14, v15, v16, v17, v18, v19, v20, v21, v22, v23]
              clear v0 v1 v2 v3 v4 v5 v6 v7 v8 v9 v10 v11 v12 v13 v14 v15 v16 v17 v18 v19 v20 v21 v22 v23
              have HB := Lib.hid (HB.out.trans (hb.mono HB.out.size))
              clear hb
              go_wp2
              go_ret
              exact ⟨rfl, HB.out⟩
          | true =>
            rw [hml] at hel
            have CE : Hid (Calls Try.prog 13 #[.slice A1 n1 c1] w3 fun e w' => ∃ v, e = .returned (.tuple #[v, .int .i64 0]) ∧ BytW w' (encE L) v ∧ Below w3.heap.size w3 w') := hel
            have HML := Lib.hid hml
            clear hel hml
            go_wp2_with fail
            refine CE.out.mono ?_
            rintro e w4 ⟨v, rfl, hv, hb⟩
            have HB := Lib.hid (HB.out.trans (hb.mono HB.out.size))
            have E1 := Lib.hid (E1.out.up hb)
            have EA := Lib.hid (EA.out.up hb)
            have EB := Lib.hid (EB.out.up hb)
            have BS := Lib.hid (BS.out.up hb)
            obtain ⟨At, nt, ct, rfl, -, -, -, -⟩ := id hv
            have BT := Lib.hid hv
            obtain ⟨u, hu⟩ : ∃ u, decide (b = L) = u := ⟨_, rfl⟩
            have HSA := Lib.hid fun w' (hb : Below w4.heap.size w4 w') => rSameE (EA.out.up hb) (EB.out.up hb) (by omega) (by omega) true ⟨fun _ => rfl, fun _ => rfl⟩
            have HSL := Lib.hid fun w' (hb : Below w4.heap.size w4 w') => rSameE (EA.out.up hb) (E1.out.up hb) (by omega) (by omega) u (by rw [← hu]; exact decide_eq_true_iff)
            have HCS : Hid (∀ w', Below w4.heap.size w4 w' → (convert 23 9 (.slice As ns cs)).run Try.prog w' = .ok (.string (str (encE b))) w') := fun w' hb => by
              obtain ⟨p1, p2, p3, p4⟩ := (BS.out.up hb).parts
              exact run_conv 23 5 9 Try.underlying23 Try.underlying5 Try.underlying9 ns cs p1 p4
            have HCT : Hid (∀ w', Below w4.heap.size w4 w' → (convert 23 9 (.slice At nt ct)).run Try.prog w' = .ok (.string (str (encE L))) w') := fun w' hb => by
              obtain ⟨p1, p2, p3, p4⟩ := (BT.out.up hb).parts
              exact run_conv 23 5 9 Try.underlying23 Try.underlying5 Try.underlying9 nt ct p1 p4
            have HXV : Hid (((str (encE b)).toList == (str (encE L)).toList) = u) := by
              show _ = _
              rw [str_toList, str_toList, ← hu, Bool.eq_iff_iff, beq_iff_eq, decide_eq_true_iff]
              exact ⟨encE_inj HMA.out HML.out, fun h => by rw [h]⟩
            obtain ⟨X, hX⟩ : ∃ X, str (encE b) = X := ⟨_, rfl⟩
            obtain ⟨V, hV⟩ : ∃ V, str (encE L) = V := ⟨_, rfl⟩
            rw [hX] at HCS HXV
            rw [hV] at HCT HXV
            clear hb hv CE hu hX hV
            go_wp2_with fail
            refine wp_region_tail (by kernel_rfl) 24 96 slotO2 waitO2 (leaveO2 Aa Ab As At A1 na ca nb cb ns cs nt ct n1 c1 X V u) rfl
              (by kernel_rfl) (fun i v w w' _ _ h => by unfold leaveO2 at *; split at h <;> exact h) ?_ ?_
            · intro i hi
              match i, hi with
              | 0, _ =>
                intro o ho a wc hk hb hd K hK
                cases ho
                have e0 := hk.rest 5 (.slice Aa na ca) (by omega) (by kernel_rfl) rfl
                rw [Array.getD_eq_getD_getElem?] at e0
                go_simp
                exact hK _ _ (Below.refl _ _) rfl
              | 1, _ =>
                intro o ho a wc hk hb hd K hK
                cases ho
                have e0 := hk.rest 6 (.slice Ab nb cb) (by omega) (by kernel_rfl) rfl
                rw [Array.getD_eq_getD_getElem?] at e0
                go_simp
                exact hK _ _ (Below.refl _ _) rfl
              | 2, _ =>
                intro o ho a wc hk hb hd K hK
                cases ho
                have e0 := hd 0 (by simp [waitO2])
                have e1 := hd 1 (by simp [waitO2])
                simp only [leaveO2, slotO2, Nat.reduceAdd, Array.getD_eq_getD_getElem?] at e0 e1
                go_simp
                refine (HSA.out _ hb).mono ?_
                rintro e w19 ⟨rfl, hb9⟩
                exact hK _ _ hb9 rfl
              | 3, _ =>
                intro o ho a wc hk hb hd K hK
                cases ho
                have e0 := hd 2 (by simp [waitO2])
                simp only [leaveO2, slotO2, Nat.reduceAdd, Array.getD_eq_getD_getElem?] at e0
                go_simp
                exact hK _ _ (Below.refl _ _) rfl
              | 4, _ =>
                intro o ho a wc hk hb hd K hK
                cases ho
                have e0 := hk.rest 14 (.int .i64 0) (by omega) (by kernel_rfl) rfl
                rw [Array.getD_eq_getD_getElem?] at e0
                have e1 := hd 3 (by simp [waitO2])
                simp only [leaveO2, slotO2, Nat.reduceAdd, Array.getD_eq_getD_getElem?] at e1
                have gs := hk.some_ (s := 74) (by omega) e1
                go_simp
                exact hK _ _ (Below.refl _ _) rfl
              | 5, _ =>
                intro o ho a wc hk hb hd K hK
                cases ho
                have e0 := hd 3 (by simp [waitO2])
                have e1 := hd 4 (by simp [waitO2])
                simp only [leaveO2, slotO2, Nat.reduceAdd, Array.getD_eq_getD_getElem?] at e0 e1
                have gs := hk.some_ (s := 74) (by omega) e0
                go_simp
                exact hK _ _ (Below.refl _ _) rfl
              | 6, _ =>
                intro o ho a wc hk hb hd K hK
                cases ho
                have e0 := hd 3 (by simp [waitO2])
                have e1 := hd 5 (by simp [waitO2])
                simp only [leaveO2, slotO2, Nat.reduceAdd, Array.getD_eq_getD_getElem?] at e0 e1
                go_simp
                exact hK _ _ (Below.refl _ _) rfl
              | 7, _ =>
                intro o ho a wc hk hb hd K hK
                cases ho
                have e0 := hd 6 (by simp [waitO2])
                simp only [leaveO2, slotO2, Nat.reduceAdd, Array.getD_eq_getD_getElem?] at e0
                go_simp
                exact hK _ _ (Below.refl _ _) rfl
              | 8, _ =>
                intro o ho a wc hk hb hd K hK
                cases ho
                have e0 := hk.rest 16 (.int .i64 0) (by omega) (by kernel_rfl) rfl
                rw [Array.getD_eq_getD_getElem?] at e0
                have e1 := hd 7 (by simp [waitO2])
                simp only [leaveO2, slotO2, Nat.reduceAdd, Array.getD_eq_getD_getElem?] at e1
                have gs := hk.some_ (s := 78) (by omega) e1
                go_simp
                exact hK _ _ (Below.refl _ _) rfl
              | 9, _ =>
                intro o ho a wc hk hb hd K hK
                cases ho
                have e0 := hd 7 (by simp [waitO2])
                have e1 := hd 8 (by simp [waitO2])
                simp only [leaveO2, slotO2, Nat.reduceAdd, Array.getD_eq_getD_getElem?] at e0 e1
                have gs := hk.some_ (s := 78) (by omega) e0
                go_simp
                exact hK _ _ (Below.refl _ _) rfl
              | 10, _ =>
                intro o ho a wc hk hb hd K hK
                cases ho
                have e0 := hd 7 (by simp [waitO2])
                have e1 := hd 9 (by simp [waitO2])
                simp only [leaveO2, slotO2, Nat.reduceAdd, Array.getD_eq_getD_getElem?] at e0 e1
                have gs := hk.some_ (s := 78) (by omega) e0
                go_simp
                exact hK _ _ (Below.refl _ _) rfl
              | 11, _ =>
                intro o ho a wc hk hb hd K hK
                cases ho
                have e0 := hk.rest 13 (.slice As ns cs) (by omega) (by kernel_rfl) rfl
                rw [Array.getD_eq_getD_getElem?] at e0
                have e1 := hd 10 (by simp [waitO2])
                simp only [leaveO2, slotO2, Nat.reduceAdd, Array.getD_eq_getD_getElem?] at e1
                have gs := hk.some_ (s := 81) (by omega) e1
                go_simp
                exact hK _ _ (Below.refl _ _) rfl
              | 12, _ =>
                intro o ho a wc hk hb hd K hK
                cases ho
                have e0 := hd 10 (by simp [waitO2])
                have e1 := hd 11 (by simp [waitO2])
                simp only [leaveO2, slotO2, Nat.reduceAdd, Array.getD_eq_getD_getElem?] at e0 e1
                have gs := hk.some_ (s := 81) (by omega) e0
                have q := HCS.out _ hb
                go_simp
                exact hK _ _ (Below.refl _ _) rfl
              | 13, _ =>
                intro o ho a wc hk hb hd K hK
                cases ho
                have e0 := hk.rest 15 (.slice At nt ct) (by omega) (by kernel_rfl) rfl
                rw [Array.getD_eq_getD_getElem?] at e0
                have e1 := hd 10 (by simp [waitO2])
                simp only [leaveO2, slotO2, Nat.reduceAdd, Array.getD_eq_getD_getElem?] at e1
                have gs := hk.some_ (s := 81) (by omega) e1
                go_simp
                exact hK _ _ (Below.refl _ _) rfl
              | 14, _ =>
                intro o ho a wc hk hb hd K hK
                cases ho
                have e0 := hd 10 (by simp [waitO2])
                have e1 := hd 13 (by simp [waitO2])
                simp only [leaveO2, slotO2, Nat.reduceAdd, Array.getD_eq_getD_getElem?] at e0 e1
                have gs := hk.some_ (s := 81) (by omega) e0
                have q := HCT.out _ hb
                go_simp
                exact hK _ _ (Below.refl _ _) rfl
              | 15, _ =>
                intro o ho a wc hk hb hd K hK
                cases ho
                have e0 := hd 10 (by simp [waitO2])
                have e1 := hd 12 (by simp [waitO2])
                have e2 := hd 14 (by simp [waitO2])
                simp only [leaveO2, slotO2, Nat.reduceAdd, Array.getD_eq_getD_getElem?] at e0 e1 e2
                have gs := hk.some_ (s := 81) (by omega) e0
                have q := HXV.out
                go_simp
                exact hK _ _ (Below.refl _ _) rfl
              | 16, _ =>
                intro o ho a wc hk hb hd K hK
                cases ho
                have e0 := hk.rest 5 (.slice Aa na ca) (by omega) (by kernel_rfl) rfl
                rw [Array.getD_eq_getD_getElem?] at e0
                have e1 := hd 10 (by simp [waitO2])
                simp only [leaveO2, slotO2, Nat.reduceAdd, Array.getD_eq_getD_getElem?] at e1
                have gs := hk.some_ (s := 81) (by omega) e1
                go_simp
                exact hK _ _ (Below.refl _ _) rfl
              | 17, _ =>
                intro o ho a wc hk hb hd K hK
                cases ho
                have e0 := hk.rest 0 (.slice A1 n1 c1) (by omega) (by kernel_rfl) rfl
                rw [Array.getD_eq_getD_getElem?] at e0
                have e1 := hd 10 (by simp [waitO2])
                simp only [leaveO2, slotO2, Nat.reduceAdd, Array.getD_eq_getD_getElem?] at e1
                have gs := hk.some_ (s := 81) (by omega) e1
                go_simp
                exact hK _ _ (Below.refl _ _) rfl
              | 18, _ =>
                intro o ho a wc hk hb hd K hK
                cases ho
                have e0 := hd 10 (by simp [waitO2])
                have e1 := hd 16 (by simp [waitO2])
                have e2 := hd 17 (by simp [waitO2])
                simp only [leaveO2, slotO2, Nat.reduceAdd, Array.getD_eq_getD_getElem?] at e0 e1 e2
                have gs := hk.some_ (s := 81) (by omega) e0
                go_simp
                refine (HSL.out _ hb).mono ?_
                rintro e w19 ⟨rfl, hb9⟩
                exact hK _ _ hb9 rfl
              | 19, _ =>
                intro o ho a wc hk hb hd K hK
                cases ho
                have e0 := hd 10 (by simp [waitO2])
                have e1 := hd 15 (by simp [waitO2])
                have e2 := hd 18 (by simp [waitO2])
                simp only [leaveO2, slotO2, Nat.reduceAdd, Array.getD_eq_getD_getElem?] at e0 e1 e2
                have gs := hk.some_ (s := 81) (by omega) e0
                cases u
                all_goals
                  go_simp
                  exact hK _ _ (Below.refl _ _) rfl
              | 20, _ =>
                intro o ho a wc hk hb hd K hK
                cases ho
                have e0 := hd 7 (by simp [waitO2])
                have e1 := hd 10 (by simp [waitO2])
                have e2 := hd 19 (by simp [waitO2])
                simp only [leaveO2, slotO2, Nat.reduceAdd, Array.getD_eq_getD_getElem?] at e0 e1 e2
                have gs := hk.some_ (s := 78) (by omega) e0
                go_simp
                exact hK _ _ (Below.refl _ _) rfl
              | 21, _ =>
                intro o ho a wc hk hb hd K hK
                cases ho
                have e0 := hd 7 (by simp [waitO2])
                have e1 := hd 20 (by simp [waitO2])
                simp only [leaveO2, slotO2, Nat.reduceAdd, Array.getD_eq_getD_getElem?] at e0 e1
                go_simp
                exact hK _ _ (Below.refl _ _) rfl
              | 22, _ =>
                intro o ho a wc hk hb hd K hK
                cases ho
                have e0 := hd 21 (by simp [waitO2])
                simp only [leaveO2, slotO2, Nat.reduceAdd, Array.getD_eq_getD_getElem?] at e0
                go_simp
                exact hK _ _ (Below.refl _ _) rfl
              | 23, _ =>
                intro o ho a wc hk hb hd K hK
                cases ho
                have e0 := hd 22 (by simp [waitO2])
                simp only [leaveO2, slotO2, Nat.reduceAdd, Array.getD_eq_getD_getElem?] at e0
                have gs := hk.some_ (s := 93) (by omega) e0
                go_simp
                refine (HAW.out.call _ (HB.out.trans (hb.mono HB.out.size))).mono ?_
                rintro e w19 ⟨rfl, hb9⟩
                exact hK _ _ hb9 rfl
              | _ + 24, h => exact absurd h (by omega)
            · intro vals w18 hb hR
              have v0 := hR 0 (by omega)
              have v1 := hR 1 (by omega)
              have v2 := hR 2 (by omega)
              have v3 := hR 3 (by omega)
              have v4 := hR 4 (by omega)
              have v5 := hR 5 (by omega)
              have v6 := hR 6 (by omega)
              have v7 := hR 7 (by omega)
              have v8 := hR 8 (by omega)
              have v9 := hR 9 (by omega)
              have v10 := hR 10 (by omega)
              have v11 := hR 11 (by omega)
              have v12 := hR 12 (by omega)
              have v13 := hR 13 (by omega)
              have v14 := hR 14 (by omega)
              have v15 := hR 15 (by omega)
              have v16 := hR 16 (by omega)
              have v17 := hR 17 (by omega)
              have v18 := hR 18 (by omega)
              have v19 := hR 19 (by omega)
              have v20 := hR 20 (by omega)
              have v21 := hR 21 (by omega)
              have v22 := hR 22 (by omega)
              have v23 := hR 23 (by omega)
              simp only [leaveO2] at v0 v1 v2 v3 v4 v5 v6 v7 v8 v9 v10 v11 v12 v13 v14 v15 v16 v17 v18 v19 v20 v21 v22 v23
              clear hR
              simp only [putAll, slotO2, Nat.reduceAdd, List.setIfInBounds_toArray, List.set_cons_zero, List.set_cons_succ, List.drop_succ_cons, List.drop_zero, v0, v1, v2, v3, v4, v5, v6, v7, v8, v9, v10, v11, v12, v13, v14, v15, v16, v17, v18, v19, v20, v21, v22, v23]
              clear v0 v1 v2 v3 v4 v5 v6 v7 v8 v9 v10 v11 v12 v13 v14 v15 v16 v17 v18 v19 v20 v21 v22 v23
              have HB := Lib.hid (HB.out.trans (hb.mono HB.out.size))
              clear hb
              go_wp2
              go_ret
              exact ⟨rfl, HB.out⟩
theorem entryOrder_walk2 (W : World) (HC : EncEC W) (HA : AddEC W) (HT : TakeEC W) (A : Option Addr) (n c : Nat) (l : List Et) (t : Int)
    (hl : l.length = n) (hnc : n ≤ c) (hcm : c ≤ maxLen) (hr : Rd W W.heap.size A (etsV l)) (hs : ∀ x ∈ l, inE x) (ht : 0 ≤ t ∧ t ≤ 255) :
    Calls Try.prog 6 #[.slice A n c, .int .u8 t] W fun e w' => e = .returned (.bool true) ∧ Below W.heap.size W w' := by
  obtain ⟨k, rfl⟩ : ∃ k : Nat, (k : Int) = t := ⟨t.toNat, by omega⟩
  exact entryOrder_walk W HC HA HT A n c l k hl hnc hcm hr hs (by omega)
end Go.Proofs.Ytgboccepgbeihaa
