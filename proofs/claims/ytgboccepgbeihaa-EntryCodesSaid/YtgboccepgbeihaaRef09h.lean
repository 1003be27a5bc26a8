/-
  What the document's answers of layer 9 are: Order.
-/
import Derived.Test.YtgboccepgbeihaaRef09c
namespace Go.Proofs.Ytgboccepgbeihaa
open Go.RowKit
set_option maxRecDepth 100000
set_option linter.unusedVariables false

theorem cmp_at {P Q : List Int} {k : Nat} {p q : Int} (hk : P.take k = Q.take k) (hp : P[k]? = some p) (hq : Q[k]? = some q) : cmpL P Q = if p < q then -1 else if q < p then 1 else cmpL (P.drop (k + 1)) (Q.drop (k + 1)) := by
  obtain ⟨h1, rfl⟩ := List.getElem?_eq_some_iff.1 hp
  obtain ⟨h2, rfl⟩ := List.getElem?_eq_some_iff.1 hq
  have e1 : P = P.take k ++ P[k] :: P.drop (k + 1) := by rw [← List.drop_eq_getElem_cons h1, List.take_append_drop]
  have e2 : Q = P.take k ++ Q[k] :: Q.drop (k + 1) := by rw [hk, ← List.drop_eq_getElem_cons h2, List.take_append_drop]
  calc cmpL P Q = cmpL (P.take k ++ P[k] :: P.drop (k + 1)) (P.take k ++ Q[k] :: Q.drop (k + 1)) := by rw [← e1, ← e2]
    _ = _ := by rw [cmp_same, cmpL]
theorem cmp_end {P Q : List Int} {k : Nat} (hk : P.take k = Q.take k) (h : k = P.length ∨ k = Q.length) (h1 : k ≤ P.length) (h2 : k ≤ Q.length) : cmpL P Q = if P.length < Q.length then -1 else if Q.length < P.length then 1 else 0 := by
  have e2 : Q = P.take k ++ Q.drop k := by rw [hk, List.take_append_drop]
  have e1 : P = P.take k ++ P.drop k := (List.take_append_drop k P).symm
  have e : cmpL P Q = cmpL (P.drop k) (Q.drop k) := by
    calc cmpL P Q = cmpL (P.take k ++ P.drop k) (P.take k ++ Q.drop k) := by rw [← e1, ← e2]
      _ = _ := cmp_same _ _ _
  rw [e]
  rcases Nat.lt_trichotomy P.length Q.length with g | g | g
  · rw [if_pos g, List.drop_of_length_le (by omega)]
    cases hq : Q.drop k with
    | nil => have := congrArg List.length hq; rw [List.length_drop] at this; simp at this; omega
    | cons a m => rfl
  · rw [if_neg (by omega), if_neg (by omega), List.drop_of_length_le (by omega), List.drop_of_length_le (by omega)]; rfl
  · rw [if_neg (by omega), if_pos g, List.drop_of_length_le (l := Q) (by omega)]
    cases hp : P.drop k with
    | nil => have := congrArg List.length hp; rw [List.length_drop] at this; simp at this; omega
    | cons a m => rfl
theorem info_intT : (Try.prog.info? 3).map (fun i => (i.zero, i.size, i.bytes)) = some (some (.int .i64 0), 1, 8) := by kernel_rfl
/-- a slice of ints, of none too -/
def IntT (w : World) (l : List Int) (v : Value) : Prop := ∃ A n c, v = .slice A n c ∧ l.length = n ∧ n ≤ c ∧ c ≤ maxLen ∧ Rd w w.heap.size A (l.map iv)
theorem IntT.up {w w' : World} {l : List Int} {v : Value} (h : IntT w l v) (hb : Below w.heap.size w w') : IntT w' l v := by
  obtain ⟨A, n, c, rfl, h1, h2, h3, h4⟩ := h
  exact ⟨A, n, c, rfl, h1, h2, h3, (h4.below hb).mono hb.size⟩
theorem IntT.own {w : World} {base : Nat} {l : List Int} {v : Value} {n : Nat} (h : w.ownsRow base 3 1 v n (l.map iv)) : IntT w l v := by
  obtain ⟨A, c, rfl, h1, h2⟩ := own_len h
  have := h.1
  exact ⟨A, n, c, rfl, by simpa using this, h1, h2, Rd.own h⟩
def runK (X : List Tk) (k : Nat) : List Int := (X.take k).map (·.v)
theorem runI_take {X : List Tk} {k : Nat} {x : Tk} (h : X[k]? = some x) : runK X (k + 1) = runK X k ++ [x.v] := by unfold runK; rw [List.take_add_one, h]; simp
theorem octI_take {l : List UInt8} {k : Nat} {c : UInt8} (h : l[k]? = some c) : octI (l.take (k + 1)) = octI (l.take k) ++ [(c.toNat : Int)] := by rw [List.take_add_one, h]; simp [octI]
theorem octI_len (l : List UInt8) : (octI l).length = l.length := by simp [octI]

set_option maxHeartbeats 8000000 in
theorem refOrder_any (a b : List UInt8) (w : World) (ha : a.length ≤ 4398046511104) (hb : b.length ≤ 4398046511104) :
    Calls Try.prog 29 #[.string (str a), .string (str b)] w fun e w' => e = .returned (.int .i64 (ordT a b)) ∧ Below w.heap.size w w' := by
  obtain ⟨i0, hi, hz0, hz1, hz2⟩ := info_parts info_intT
  have hi := Lib.hid hi
  have hz0 := Lib.hid hz0
  have hz1 := Lib.hid hz1
  have hz2 := Lib.hid hz2
  have HRA := Lib.hid fun w' => refRunes_any a w' ha
  have HRB := Lib.hid fun w' => refRunes_any b w' hb
  have HCA := Lib.hid fun w' => refCount9_any a w' ha
  have HCB := Lib.hid fun w' => refCount9_any b w' hb
  have hta := toks_len a
  have htb := toks_len b
  have hoa := odd_le a
  have hob := odd_le b
  have hszA := str_size a
  have hszB := str_size b
  have HIA := Lib.hid (index_str a)
  have HIB := Lib.hid (index_str b)
  obtain ⟨R, hR⟩ : ∃ R, ordT a b = R := ⟨_, rfl⟩
  obtain ⟨X, hX⟩ : ∃ X, toks a = X := ⟨_, rfl⟩
  obtain ⟨Y, hY⟩ : ∃ Y, toks b = Y := ⟨_, rfl⟩
  obtain ⟨oa, hoa'⟩ : ∃ o, oddT a = o := ⟨_, rfl⟩
  obtain ⟨ob, hob'⟩ : ∃ o, oddT b = o := ⟨_, rfl⟩
  obtain ⟨ca, hca⟩ : ∃ o, cntT a = o := ⟨_, rfl⟩
  obtain ⟨cb, hcb⟩ : ∃ o, cntT b = o := ⟨_, rfl⟩
  have HRR : Hid ((if oa + ob = 0 then cmpL (X.map (·.v)) (Y.map (·.v)) else cmpL (octI a) (octI b)) = R) := by show _ = _; rw [← hR, ← hX, ← hY, ← hoa', ← hob']; rfl
  rw [hX] at HRA hta hoa
  rw [hY] at HRB htb hob
  rw [hoa', hca] at HCA
  rw [hob', hcb] at HCB
  rw [hoa'] at hoa
  rw [hob'] at hob
  rw [hR]
  obtain ⟨s, hs⟩ : ∃ s, str a = s := ⟨_, rfl⟩
  obtain ⟨t, ht⟩ : ∃ t, str b = t := ⟨_, rfl⟩
  rw [hs] at HRA HCA HIA hszA ⊢
  rw [ht] at HRB HCB HIB hszB ⊢
  obtain ⟨la, hla⟩ : ∃ n, a.length = n := ⟨_, rfl⟩
  obtain ⟨lb, hlb⟩ : ∃ n, b.length = n := ⟨_, rfl⟩
  rw [hla] at hszA hta ha HIA
  rw [hlb] at hszB htb hb HIB
  have HLA := Lib.hid hla
  have HLB := Lib.hid hlb
  clear hR hX hY hoa' hob' hca hcb hs ht hla hlb
  go_enter Try.func29, Try.ntmps29
  go_wp2_with fail
  refine (HRA.out _).mono ?_
  rintro e w1 ⟨v1, rfl, ⟨A1, n1, c1, rfl, hn1, hnc1, hcm1, hr1⟩, hb1⟩
  have HB1 := Lib.hid hb1
  have HX1 := Lib.hid hr1
  have HN1 := Lib.hid hn1
  unfold maxLen at hcm1
  clear hb1 hr1 hn1 HRA
  go_wp2_with fail
  refine (HRB.out _).mono ?_
  rintro e w2 ⟨v2, rfl, ⟨A2, n2, c2, rfl, hn2, hnc2, hcm2, hr2⟩, hb2⟩
  have HB2 := Lib.hid (HB1.out.trans (hb2.mono HB1.out.size))
  have HX2 := Lib.hid ((HX1.out.below hb2).mono hb2.size)
  have HY2 := Lib.hid hr2
  have HN2 := Lib.hid hn2
  unfold maxLen at hcm2
  clear hb2 hr2 hn2 HRB HX1 HB1
  go_wp2_with fail
  refine (HCA.out _).mono ?_
  rintro e w3 ⟨rfl, hb3⟩
  have HB3 := Lib.hid (HB2.out.trans (hb3.mono HB2.out.size))
  have HX3 := Lib.hid ((HX2.out.below hb3).mono hb3.size)
  have HY3 := Lib.hid ((HY2.out.below hb3).mono hb3.size)
  clear hb3 HCA HX2 HY2 HB2
  go_wp2_with fail
  refine (HCB.out _).mono ?_
  rintro e w4 ⟨rfl, hb4⟩
  have HB4 := Lib.hid (HB3.out.trans (hb4.mono HB3.out.size))
  have HX4 := Lib.hid ((HX3.out.below hb4).mono hb4.size)
  have HY4 := Lib.hid ((HY3.out.below hb4).mono hb4.size)
  have hn1b : n1 ≤ 4398046511104 := by have := HN1.out; omega
  have hn2b : n2 ≤ 4398046511104 := by have := HN2.out; omega
  clear hb4 HCB HX3 HY3 HB3
  go_wp2_with fail
  go_loopw [11, 13] (fun r i wr => ∃ k : Nat, k ≤ n1 ∧ i = .int .i64 (k : Int) ∧ Hid (wr.ownsRow w4.heap.size 3 1 r k ((runK X k).map iv)) ∧ Hid (Below w4.heap.size w4 wr)) (fun _ i _ => n1 - (intOf i).toNat)
  case atStart => exact ⟨0, Nat.zero_le _, rfl, ⟨rfl, .inl ⟨rfl, rfl⟩⟩, Below.refl _ _⟩
  case round =>
    obtain ⟨k, hk, rfl, HOWN, HB⟩ := hrel
    rename World => wr
    obtain ⟨Ar, cr, hre, hcr, hcm⟩ := own_len HOWN.out
    subst hre
    by_cases hlt : k < n1
    · obtain ⟨x, hx⟩ : ∃ x, X[k]? = some x := ⟨_, List.getElem?_eq_getElem (by rw [HN1.out]; exact hlt)⟩
      obtain ⟨bb, oo, rfl, -, hc⟩ := (HX4.out.below HB.out).plain (by rw [tksV_length, HN1.out]; omega)
      have c0 := hc _ _ (tksV_get X k x hx).1
      have HE := Lib.hid (runI_take hx)
      clear hc hx
      have HOWN2 := Lib.hid (HOWN.out.alloc (.cells #[.int .i64 (x.v)] 3))
      have HB2 := Lib.hid (HB.out.alloc HB.out.size (.cells #[.int .i64 (x.v)] 3))
      have HNW := Lib.hid (Rd.new wr 3 #[.int .i64 (x.v)] (0, 0))
      go_wp2_with (at_builtin; refine wpList_append_rd _ rfl _ _ 67 rfl w4.heap.size 3 i0 (.int .i64 0) 1 8 Try.underlying67 hi.out hz0.out hz1.out hz2.out rfl (by decide) _ _ _ rfl HOWN2.out (wr.heap.size + 1) (some ⟨wr.heap.size, 0, none⟩) 1 1 ([x.v].map iv) rfl rfl HNW.out ?c2 ?c3 ?c4 ?c5 ?_)
      case c2 => first | rfl | (intro u hu; simp only [List.map_cons, List.map_nil, List.mem_singleton] at hu; subst hu; rfl)
      case c3 => unfold maxLen; omega
      case c4 => omega
      case c5 => have := HB.out.size; omega
      intro r' wz6 hown6 hgrow
      have HB6 := Lib.hid (HB2.out.grown hgrow HB2.out.size (fun g hg => (HOWN2.out.lt g hg).1))
      have HOWN6 : Hid (wz6.ownsRow w4.heap.size 3 1 r' (k + 1) ((runK X (k + 1)).map iv)) := by rw [HE.out, List.map_append]; exact hown6
      clear hown6 hgrow HOWN2 HB2 HNW HOWN HB
      go_wp2
      go_roundw
      case rel => exact ⟨k + 1, by omega, by go_num, HOWN6.out, HB6.out⟩
      case measure => simp [intOf]; omega
    · obtain rfl : k = n1 := by omega
      have hfull : runK X k = X.map (·.v) := by (try unfold runK); rw [List.take_of_length_le (by rw [HN1.out]; exact Nat.le_refl _)]
      have HV5 : Hid (IntT wr (X.map (·.v)) (.slice Ar k cr)) := by rw [← hfull]; exact IntT.own HOWN.out
      have HB5 := Lib.hid (HB4.out.trans (HB.out.mono HB4.out.size))
      have HY5 := Lib.hid ((HY4.out.below HB.out).mono HB.out.size)
      obtain ⟨w5, hw5⟩ : ∃ w5, wr = w5 := ⟨_, rfl⟩
      rw [hw5] at HV5 HB5 HY5 ⊢
      clear hfull HOWN HB hw5 HX4 HY4 HB4
      go_wp2_with fail
      go_loopw [12, 14] (fun r i wr => ∃ k : Nat, k ≤ n2 ∧ i = .int .i64 (k : Int) ∧ Hid (wr.ownsRow w5.heap.size 3 1 r k ((runK Y k).map iv)) ∧ Hid (Below w5.heap.size w5 wr)) (fun _ i _ => n2 - (intOf i).toNat)
      case atStart => exact ⟨0, Nat.zero_le _, rfl, ⟨rfl, .inl ⟨rfl, rfl⟩⟩, Below.refl _ _⟩
      case round =>
        obtain ⟨k, hk, rfl, HOWN, HB⟩ := hrel
        rename World => wr
        obtain ⟨Ar, cr, hre, hcr, hcm⟩ := own_len HOWN.out
        subst hre
        by_cases hlt : k < n2
        · obtain ⟨x, hx⟩ : ∃ x, Y[k]? = some x := ⟨_, List.getElem?_eq_getElem (by rw [HN2.out]; exact hlt)⟩
          obtain ⟨bb, oo, rfl, -, hc⟩ := (HY5.out.below HB.out).plain (by rw [tksV_length, HN2.out]; omega)
          have c0 := hc _ _ (tksV_get Y k x hx).1
          have HE := Lib.hid (runI_take hx)
          clear hc hx
          have HOWN2 := Lib.hid (HOWN.out.alloc (.cells #[.int .i64 (x.v)] 3))
          have HB2 := Lib.hid (HB.out.alloc HB.out.size (.cells #[.int .i64 (x.v)] 3))
          have HNW := Lib.hid (Rd.new wr 3 #[.int .i64 (x.v)] (0, 0))
          go_wp2_with (at_builtin; refine wpList_append_rd _ rfl _ _ 67 rfl w5.heap.size 3 i0 (.int .i64 0) 1 8 Try.underlying67 hi.out hz0.out hz1.out hz2.out rfl (by decide) _ _ _ rfl HOWN2.out (wr.heap.size + 1) (some ⟨wr.heap.size, 0, none⟩) 1 1 ([x.v].map iv) rfl rfl HNW.out ?c2 ?c3 ?c4 ?c5 ?_)
          case c2 => first | rfl | (intro u hu; simp only [List.map_cons, List.map_nil, List.mem_singleton] at hu; subst hu; rfl)
          case c3 => unfold maxLen; omega
          case c4 => omega
          case c5 => have := HB.out.size; omega
          intro r' wz6 hown6 hgrow
          have HB6 := Lib.hid (HB2.out.grown hgrow HB2.out.size (fun g hg => (HOWN2.out.lt g hg).1))
          have HOWN6 : Hid (wz6.ownsRow w5.heap.size 3 1 r' (k + 1) ((runK Y (k + 1)).map iv)) := by rw [HE.out, List.map_append]; exact hown6
          clear hown6 hgrow HOWN2 HB2 HNW HOWN HB
          go_wp2
          go_roundw
          case rel => exact ⟨k + 1, by omega, by go_num, HOWN6.out, HB6.out⟩
          case measure => simp [intOf]; omega
        · obtain rfl : k = n2 := by omega
          have hfull : runK Y k = Y.map (·.v) := by (try unfold runK); rw [List.take_of_length_le (by rw [HN2.out]; exact Nat.le_refl _)]
          have HW6 : Hid (IntT wr (Y.map (·.v)) (.slice Ar k cr)) := by rw [← hfull]; exact IntT.own HOWN.out
          have HV6 := Lib.hid (HV5.out.up HB.out)
          have HB6 := Lib.hid (HB5.out.trans (HB.out.mono HB5.out.size))
          clear hfull HOWN HB HY5 HV5 HB5
          obtain ⟨w6, hw6⟩ : ∃ w6, wr = w6 := ⟨_, rfl⟩
          rw [hw6] at HW6 HV6 HB6 ⊢
          clear hw6
          go_upto_if 63 with fail
          obtain ⟨dz, hdz⟩ : ∃ dz, decide ((0 : Int) < (oa : Int) + (ob : Int)) = dz := ⟨_, rfl⟩
          rw [hdz]
          have HDZ := Lib.hid hdz
          clear hdz
          go_cut [11, 12] (fun s1 s2 wc => ∃ (P Q : List Int) (A : Option Addr) (n c : Nat) (A' : Option Addr) (n' c' : Nat), s1 = .slice A n c ∧ s2 = .slice A' n' c' ∧ n ≤ c ∧ c ≤ 9223372036854775807 ∧ n' ≤ c' ∧ c' ≤ 9223372036854775807 ∧ Hid (P.length = n) ∧ Hid (Q.length = n') ∧ Hid (Rd wc wc.heap.size A (P.map iv)) ∧ Hid (Rd wc wc.heap.size A' (Q.map iv)) ∧ Hid (cmpL P Q = R) ∧ Hid (Below w.heap.size w wc))
          case first =>
            cases dz with
            | false =>
              have hno := of_decide_eq_false HDZ.out
              have hR := HRR.out
              have hz : oa + ob = 0 := by omega
              rw [if_pos hz] at hR
              have HR := Lib.hid hR
              clear hR hno hz
              go_wp2_with fail
              go_meet
              obtain ⟨P1, q1, c1', e1, l1, m1, x1, r1⟩ := HV6.out
              obtain ⟨P2, q2, c2', e2, l2, m2, x2, r2⟩ := HW6.out
              unfold maxLen at x1 x2
              exact ⟨_, _, P1, q1, c1', P2, q2, c2', e1, e2, m1, x1, m2, x2, l1, l2, r1, r2, HR.out, HB6.out⟩
            | true =>
              have hyes := of_decide_eq_true HDZ.out
              have hR := HRR.out
              have hz : ¬ oa + ob = 0 := by omega
              rw [if_neg hz] at hR
              have HR := Lib.hid hR
              clear hR hyes hz
              go_wp2_with fail
              go_loopw [11, 15] (fun r i wr => ∃ k : Nat, k ≤ la ∧ i = .int .i64 (k : Int) ∧ Hid (wr.ownsRow w6.heap.size 3 1 r k ((octI (a.take k)).map iv)) ∧ Hid (Below w6.heap.size w6 wr)) (fun _ i _ => la - (intOf i).toNat)
              case atStart => exact ⟨0, Nat.zero_le _, rfl, ⟨rfl, .inl ⟨rfl, rfl⟩⟩, Below.refl _ _⟩
              case round =>
                obtain ⟨k, hk, rfl, HOWN, HB⟩ := hrel
                rename World => wr
                obtain ⟨Ar, cr, hre, hcr, hcm⟩ := own_len HOWN.out
                subst hre
                by_cases hlt : k < la
                · obtain ⟨x, hx⟩ : ∃ x, a[k]? = some x := ⟨_, List.getElem?_eq_getElem (by rw [HLA.out]; exact hlt)⟩
                  have hix := HIA.out k hlt
                  rw [show octN a k = x.toNat from by unfold octN; rw [List.getD, hx]; rfl] at hix
                  have HE := Lib.hid (octI_take hx)
                  have hx256 := x.toNat_lt
                  obtain ⟨u, hu⟩ : ∃ u, x.toNat = u := ⟨_, rfl⟩
                  rw [hu] at hix HE hx256
                  clear hx hu
                  have HOWN2 := Lib.hid (HOWN.out.alloc (.cells #[.int .i64 ((u : Int))] 3))
                  have HB2 := Lib.hid (HB.out.alloc HB.out.size (.cells #[.int .i64 ((u : Int))] 3))
                  have HNW := Lib.hid (Rd.new wr 3 #[.int .i64 ((u : Int))] (0, 0))
                  go_wp2_with (at_builtin; refine wpList_append_rd _ rfl _ _ 67 rfl w6.heap.size 3 i0 (.int .i64 0) 1 8 Try.underlying67 hi.out hz0.out hz1.out hz2.out rfl (by decide) _ _ _ rfl HOWN2.out (wr.heap.size + 1) (some ⟨wr.heap.size, 0, none⟩) 1 1 ([(u : Int)].map iv) rfl rfl HNW.out ?c2 ?c3 ?c4 ?c5 ?_)
                  case c2 => first | rfl | (intro u hu; simp only [List.map_cons, List.map_nil, List.mem_singleton] at hu; subst hu; rfl)
                  case c3 => unfold maxLen; omega
                  case c4 => omega
                  case c5 => have := HB.out.size; omega
                  intro r' wz6 hown6 hgrow
                  have HB6 := Lib.hid (HB2.out.grown hgrow HB2.out.size (fun g hg => (HOWN2.out.lt g hg).1))
                  have HOWN6 : Hid (wz6.ownsRow w6.heap.size 3 1 r' (k + 1) ((octI (a.take (k + 1))).map iv)) := by rw [HE.out, List.map_append]; exact hown6
                  clear hown6 hgrow HOWN2 HB2 HNW HOWN HB
                  go_wp2
                  go_roundw
                  case rel => exact ⟨k + 1, by omega, by go_num, HOWN6.out, HB6.out⟩
                  case measure => simp [intOf]; omega
                · obtain rfl : k = la := by omega
                  have hfull : octI (a.take k) = octI a := by (try unfold runK); rw [List.take_of_length_le (by rw [HLA.out]; exact Nat.le_refl _)]
                  have HV7 : Hid (IntT wr (octI a) (.slice Ar k cr)) := by rw [← hfull]; exact IntT.own HOWN.out
                  have HB7 := Lib.hid (HB6.out.trans (HB.out.mono HB6.out.size))
                  obtain ⟨w7, hw7⟩ : ∃ w7, wr = w7 := ⟨_, rfl⟩
                  rw [hw7] at HV7 HB7 ⊢
                  clear hfull HOWN HB hw7 HV6 HW6 HB6
                  go_wp2_with fail
                  go_loopw [12, 16] (fun r i wr => ∃ k : Nat, k ≤ lb ∧ i = .int .i64 (k : Int) ∧ Hid (wr.ownsRow w7.heap.size 3 1 r k ((octI (b.take k)).map iv)) ∧ Hid (Below w7.heap.size w7 wr)) (fun _ i _ => lb - (intOf i).toNat)
                  case atStart => exact ⟨0, Nat.zero_le _, rfl, ⟨rfl, .inl ⟨rfl, rfl⟩⟩, Below.refl _ _⟩
                  case round =>
                    obtain ⟨k, hk, rfl, HOWN, HB⟩ := hrel
                    rename World => wr
                    obtain ⟨Ar, cr, hre, hcr, hcm⟩ := own_len HOWN.out
                    subst hre
                    by_cases hlt : k < lb
                    · obtain ⟨x, hx⟩ : ∃ x, b[k]? = some x := ⟨_, List.getElem?_eq_getElem (by rw [HLB.out]; exact hlt)⟩
                      have hix := HIB.out k hlt
                      rw [show octN b k = x.toNat from by unfold octN; rw [List.getD, hx]; rfl] at hix
                      have HE := Lib.hid (octI_take hx)
                      have hx256 := x.toNat_lt
                      obtain ⟨u, hu⟩ : ∃ u, x.toNat = u := ⟨_, rfl⟩
                      rw [hu] at hix HE hx256
                      clear hx hu
                      have HOWN2 := Lib.hid (HOWN.out.alloc (.cells #[.int .i64 ((u : Int))] 3))
                      have HB2 := Lib.hid (HB.out.alloc HB.out.size (.cells #[.int .i64 ((u : Int))] 3))
                      have HNW := Lib.hid (Rd.new wr 3 #[.int .i64 ((u : Int))] (0, 0))
                      go_wp2_with (at_builtin; refine wpList_append_rd _ rfl _ _ 67 rfl w7.heap.size 3 i0 (.int .i64 0) 1 8 Try.underlying67 hi.out hz0.out hz1.out hz2.out rfl (by decide) _ _ _ rfl HOWN2.out (wr.heap.size + 1) (some ⟨wr.heap.size, 0, none⟩) 1 1 ([(u : Int)].map iv) rfl rfl HNW.out ?c2 ?c3 ?c4 ?c5 ?_)
                      case c2 => first | rfl | (intro u hu; simp only [List.map_cons, List.map_nil, List.mem_singleton] at hu; subst hu; rfl)
                      case c3 => unfold maxLen; omega
                      case c4 => omega
                      case c5 => have := HB.out.size; omega
                      intro r' wz6 hown6 hgrow
                      have HB6 := Lib.hid (HB2.out.grown hgrow HB2.out.size (fun g hg => (HOWN2.out.lt g hg).1))
                      have HOWN6 : Hid (wz6.ownsRow w7.heap.size 3 1 r' (k + 1) ((octI (b.take (k + 1))).map iv)) := by rw [HE.out, List.map_append]; exact hown6
                      clear hown6 hgrow HOWN2 HB2 HNW HOWN HB
                      go_wp2
                      go_roundw
                      case rel => exact ⟨k + 1, by omega, by go_num, HOWN6.out, HB6.out⟩
                      case measure => simp [intOf]; omega
                    · obtain rfl : k = lb := by omega
                      have hfull : octI (b.take k) = octI b := by (try unfold runK); rw [List.take_of_length_le (by rw [HLB.out]; exact Nat.le_refl _)]
                      have HW8 : Hid (IntT wr (octI b) (.slice Ar k cr)) := by rw [← hfull]; exact IntT.own HOWN.out
                      have HV8 := Lib.hid (HV7.out.up HB.out)
                      have HB8 := Lib.hid (HB7.out.trans (HB.out.mono HB7.out.size))
                      clear hfull HOWN HB HV7 HB7
                      go_wp2_with fail
                      go_meet
                      obtain ⟨P1, q1, c1', e1, l1, m1, x1, r1⟩ := HV8.out
                      obtain ⟨P2, q2, c2', e2, l2, m2, x2, r2⟩ := HW8.out
                      unfold maxLen at x1 x2
                      exact ⟨_, _, P1, q1, c1', P2, q2, c2', e1, e2, m1, x1, m2, x2, l1, l2, r1, r2, HR.out, HB8.out⟩
          case rest =>
            obtain ⟨P, Q, A, n, c, A', n', c', rfl, rfl, hnc, hcm, hnc', hcm', HP, HQ, HRP, HRQ, HR, HBC⟩ := hcut
            rename World => wc
            clear HV6 HW6 HB6
            go_wp2_with fail
            go_loopw [17] (fun i wr => ∃ k : Nat, k ≤ n ∧ k ≤ n' ∧ i = .int .i64 (k : Int) ∧ Hid (P.take k = Q.take k) ∧ Hid (Below wc.heap.size wc wr)) (fun i _ => n - (intOf i).toNat)
            case atStart => exact ⟨0, Nat.zero_le _, Nat.zero_le _, rfl, rfl, Below.refl _ _⟩
            case round =>
              obtain ⟨k, hk, hk', rfl, HE, HB⟩ := hrel
              rename World => wr
              by_cases h1 : k < n
              · by_cases h2 : k < n'
                · obtain ⟨p, hp⟩ : ∃ p, P[k]? = some p := ⟨_, List.getElem?_eq_getElem (by rw [HP.out]; exact h1)⟩
                  obtain ⟨q, hq⟩ : ∃ q, Q[k]? = some q := ⟨_, List.getElem?_eq_getElem (by rw [HQ.out]; exact h2)⟩
                  obtain ⟨b1, o1, rfl, -, hc1⟩ := (HRP.out.below HB.out).plain (by rw [List.length_map, HP.out]; omega)
                  obtain ⟨b2, o2, rfl, -, hc2⟩ := (HRQ.out.below HB.out).plain (by rw [List.length_map, HQ.out]; omega)
                  have d1 := hc1 k (.int .i64 p) (by rw [List.getElem?_map, hp]; rfl)
                  have d2 := hc2 k (.int .i64 q) (by rw [List.getElem?_map, hq]; rfl)
                  have d1' : ∀ j, (wr.drewN j).cell? ⟨b1, o1 + k, none⟩ = some (.int .i64 p) := fun _ => d1
                  have d2' : ∀ j, (wr.drewN j).cell? ⟨b2, o2 + k, none⟩ = some (.int .i64 q) := fun _ => d2
                  have HAT := cmp_at HE.out hp hq
                  rw [HR.out] at HAT
                  have HAT := Lib.hid HAT
                  have HNE : Hid (p = q → P.take (k + 1) = Q.take (k + 1)) := fun e => by rw [List.take_add_one, List.take_add_one, HE.out, hp, hq, e]
                  have HBC2 := Lib.hid (HBC.out.trans (HB.out.mono HBC.out.size))
                  clear hp hq hc1 hc2
                  by_cases g1 : p < q
                  · have HF : Hid (R = -1) := by show _ = _; rw [HAT.out, if_pos g1]
                    go_wp2_with fail
                    go_quiet (fail)
                    go_wp2
                    go_ret
                    exact ⟨ret_int HF.out.symm, by first | exact HBC2.out | exact HBC2.out.drewN' _⟩
                  · by_cases g2 : q < p
                    · have HF : Hid (R = 1) := by show _ = _; rw [HAT.out, if_neg g1, if_pos g2]
                      go_wp2_with fail
                      go_quiet (fail)
                      go_wp2_with fail
                      go_quiet (fail)
                      go_wp2
                      go_ret
                      exact ⟨ret_int HF.out.symm, by first | exact HBC2.out | exact (HBC2.out.drewN' _).drewN' _ | exact HBC2.out.drewN' _⟩
                    · have HT := Lib.hid (HNE.out (by omega))
                      go_wp2_with fail
                      go_quiet (fail)
                      go_wp2_with fail
                      go_quiet (fail)
                      go_wp2
                      go_roundw
                      case rel => exact ⟨k + 1, by omega, by omega, by go_num, HT.out, by first | exact HB.out | exact (HB.out.drewN' _).drewN' _ | exact HB.out.drewN' _⟩
                      case measure => simp [intOf]; omega
                · have HEN := cmp_end HE.out (.inr (by rw [HQ.out]; omega)) (by rw [HP.out]; omega) (by rw [HQ.out]; omega)
                  rw [HR.out, HP.out, HQ.out] at HEN
                  have hF : R = 1 := by rw [HEN, if_neg (by omega), if_pos (by omega)]
                  have HF := Lib.hid hF
                  have HBC2 := Lib.hid (HBC.out.trans (HB.out.mono HBC.out.size))
                  have g1 : ¬ (n : Int) < (n' : Int) := by omega
                  have g2 : (n' : Int) < (n : Int) := by omega
                  clear HEN hF
                  go_wp2
                  go_ret
                  exact ⟨ret_int HF.out.symm, HBC2.out⟩
              · have HEN := cmp_end HE.out (.inl (by rw [HP.out]; omega)) (by rw [HP.out]; omega) (by rw [HQ.out]; omega)
                rw [HR.out, HP.out, HQ.out] at HEN
                have HBC2 := Lib.hid (HBC.out.trans (HB.out.mono HBC.out.size))
                by_cases g : n < n'
                · have hF : R = -1 := by rw [HEN, if_pos g]
                  have HF := Lib.hid hF
                  have g1 : (n : Int) < (n' : Int) := by omega
                  clear HEN hF
                  go_wp2
                  go_ret
                  exact ⟨ret_int HF.out.symm, HBC2.out⟩
                · have hF : R = 0 := by rw [HEN, if_neg g, if_neg (by omega)]
                  have HF := Lib.hid hF
                  have g1 : ¬ (n : Int) < (n' : Int) := by omega
                  have g2 : ¬ (n' : Int) < (n : Int) := by omega
                  clear HEN hF
                  go_wp2
                  go_ret
                  exact ⟨ret_int HF.out.symm, HBC2.out⟩
end Go.Proofs.Ytgboccepgbeihaa
