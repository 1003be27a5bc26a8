/-
  What the document's answers of layer 11 are: Same, Parent.
-/
import Derived.Test.YtlenfocdhchphaaRef11c
import Derived.BigFrame
import Derived.Laws.AppendOwn
namespace Go.Proofs.Ytlenfocdhchphaa
open Go.RowKit
set_option maxRecDepth 100000
set_option linter.unusedVariables false

theorem under_same {a b : List (List UInt8)} (h : a.length = b.length) : underB (a ++ [[113]]) b = decide (a = b) := by
  unfold underB
  rw [Bool.eq_iff_iff, decide_eq_true_eq, decide_eq_true_eq]
  constructor
  · rintro ⟨_, h2⟩
    rw [← h, List.take_left] at h2
    exact h2
  · intro e
    subst e
    exact ⟨by simp, List.take_left⟩
/-- append onto a row of the call's own, in an operation that is guarded and wanted -/
theorem wpList_append_want {P : Program} (w : World) {ops : Array Oper} {rest : List Oper} {o : Oper} {a : Act} {Q : Exit → Act → World → Prop} (hw : Region.wanted o (yielded ops a.tmps) = true) (s x : Operand) (t : TypeId)
    (ho : o.op = .call { callee := .builtin .append, args := #[s, x], argTypes := #[t, t] })
    (base : Nat) (e : TypeId) (i : TypeInfo) (z : Value) (size bytes : Nat) (ht : P.underlying t = some (.slice e)) (hi : P.info? e = some i) (hz : i.zero = some z)
    (hsize : i.size = size) (hby : i.bytes = bytes) (hzs : z.cells.size = size) (hsz : 0 < size)
    (v : Value) (n : Nat) (xs : List Value) (hs : a.eval s = v) (hown : w.ownsRow base e size v n xs)
    (ad : Addr) (m c : Nat) (news : List Value) (hx : a.eval x = .slice (some ad) m c) (hl : news.length = m * size) (hnews : ∀ j u, news[j]? = some u → w.cell? (ad.add j) = some u) (h1 : ∀ u ∈ news, u.oneCell' = true)
    (h63 : n + m ≤ maxLen) (hbytes : (n + m) * bytes ≤ 140737488355328) (hbase : base ≤ w.heap.size)
    (h : ∀ v' w', w'.ownsRow base e size v' (n + m) (xs ++ news) → w.grownBy w' v.ownBlock → wpList P ops Q rest (a.put o.dst v') w') : wpList P ops Q (o :: rest) a w :=
  BigFrame.wpList_want hw fun _ hK => wp_append_own w s x t ho base e i z size bytes ht hi hz hsize hby hzs hsz v n xs hs hown ad m c news hx hl hnews h1 h63 hbytes hbase fun v' w' h2 h3 _ => hK _ _ (h v' w' h2 h3)
/-- the same, whatever slice stands behind the comma -/
theorem wpList_append_rd_want {P : Program} (w : World) {ops : Array Oper} {rest : List Oper} {o : Oper} {a : Act} {Q : Exit → Act → World → Prop} (hw : Region.wanted o (yielded ops a.tmps) = true) (s x : Operand) (t : TypeId)
    (ho : o.op = .call { callee := .builtin .append, args := #[s, x], argTypes := #[t, t] })
    (base : Nat) (e : TypeId) (i : TypeInfo) (z : Value) (size bytes : Nat) (ht : P.underlying t = some (.slice e)) (hi : P.info? e = some i) (hz : i.zero = some z)
    (hsize : i.size = size) (hby : i.bytes = bytes) (hzs : z.cells.size = size) (hsz : 0 < size)
    (v : Value) (n : Nat) (xs : List Value) (hs : a.eval s = v) (hown : w.ownsRow base e size v n xs)
    (B : Nat) (A : Option Addr) (m c : Nat) (news : List Value) (hx : a.eval x = .slice A m c) (hl : news.length = m * size) (hr : Rd w B A news) (h1 : ∀ u ∈ news, u.oneCell' = true)
    (h63 : n + m ≤ maxLen) (hbytes : (n + m) * bytes ≤ 140737488355328) (hbase : base ≤ w.heap.size)
    (h : ∀ v' w', w'.ownsRow base e size v' (n + m) (xs ++ news) → w.grownBy w' v.ownBlock → wpList P ops Q rest (a.put o.dst v') w') : wpList P ops Q (o :: rest) a w := by
  cases A with
  | some ad =>
    refine wpList_append_want w hw s x t ho base e i z size bytes ht hi hz hsize hby hzs hsz v n xs hs hown ad m c news hx hl (fun j u hu => ?_) h1 h63 hbytes hbase h
    obtain ⟨ad', e', _, hc⟩ := hr j u hu
    cases e'
    exact hc
  | none =>
    have hnil : news = [] := by
      cases news with
      | nil => rfl
      | cons u l => obtain ⟨ad, h, _⟩ := hr 0 u (by simp); cases h
    subst hnil
    have hm : m = 0 := by
      rcases Nat.eq_zero_or_pos m with h | h
      · exact h
      · have := Nat.mul_pos h hsz
        simp at hl
        omega
    subst hm
    refine BigFrame.wpList_want hw fun K hK => ?_
    have hrun := run_append_nil (P := P) (w := w) base t o.type e i size ht hi v n xs hown c
    unfold Oper.wp
    simp [execOp, ho, resolve, invoke, builtin, hs, hx, hrun, Result.andThen]
    exact hK _ _ (h v w (by simpa using hown) (World.grownBy.refl w _))
set_option maxHeartbeats 4000000 in
theorem refSame11_any (l l' : List (List UInt8)) (A A' : Option Addr) (n c n' c' : Nat) (w : World) (hE : StrW w l (.slice A n c)) (hE' : StrW w l' (.slice A' n' c')) (hn : n ≤ 10000) (hn' : n' ≤ 10000) (t : Bool) (ht : t = true ↔ l = l') :
    Calls Try.prog 12 #[.slice A n c, .slice A' n' c'] w fun e w' => e = .returned (.bool t) ∧ Below w.heap.size w w' := by
  obtain ⟨i0, hi, hz0, hz1, hz2⟩ := info_parts info_strP
  have hi := Lib.hid hi
  have hz0 := Lib.hid hz0
  have hz1 := Lib.hid hz1
  have hz2 := Lib.hid hz2
  obtain ⟨p1, p2, p3, p4⟩ := hE.parts
  obtain ⟨q1, q2, q3, q4⟩ := hE'.parts
  have E0 := Lib.hid hE
  have E0' := Lib.hid hE'
  have HT := Lib.hid ht
  by_cases hnn : n = n'
  · by_cases h0 : n = 0
    · have hll : l = l' := by rw [List.length_eq_zero_iff.1 (show l.length = 0 by omega), List.length_eq_zero_iff.1 (show l'.length = 0 by omega)]
      obtain rfl : t = true := ht.2 hll
      subst h0
      clear hE hE' ht p1 p2 p3 p4 q1 q2 q3 q4 hll
      subst hnn
      go_enter Try.func12, Try.ntmps12
      go_wp2
      go_ret
      exact ⟨rfl, Below.refl _ _⟩
    · subst hnn
      have hn0 : ((n : Int) == 0) = false := beq_false_of_ne (by omega)
      have HUN : Hid (underB (l ++ [[113]]) l' = t) := by
        show _ = _
        rw [under_same (by omega), Bool.eq_iff_iff, decide_eq_true_eq]
        exact ht.symm
      obtain ⟨b, o, rfl, hbB, hcc⟩ := p4.plain (by rw [strsV_len]; omega)
      have HLN := Lib.hid p1
      have HRL := Lib.hid p4
      have HCC := Lib.hid hcc
      clear hE hE' ht p1 p2 p3 p4 q1 q2 q3 q4 HT hcc
      have HO1 : Hid ((w.alloc (.cells #[] 9)).ownsRow w.heap.size 9 1 (.slice (some ⟨w.heap.size, 0, none⟩) 0 0) 0 []) := own_of_bk (Bk.new w _ _) (Nat.le_refl _) rfl (Nat.zero_le _)
      have HB1 := Lib.hid ((Below.refl w.heap.size w).alloc (Nat.le_refl _) (.cells #[] 9))
      have HR1 := Lib.hid ((HRL.out.alloc (Nat.le_refl _) (.cells #[] 9)))
      go_enter Try.func12, Try.ntmps12
      have HC1 : Hid (∀ j u, (strsV l)[j]? = some u → (w.alloc (.cells #[] 9)).cell? (Addr.add ⟨b, o, none⟩ j) = some u) := fun j u hu => by
        obtain ⟨ad, e, _, hc⟩ := HR1.out j u hu; cases e; exact hc
      go_wp2_with (at_builtin; refine wpList_append_want _ (by first | rfl | simp [Region.wanted, yielded]) _ _ 23 rfl w.heap.size 9 i0 (.string ByteArray.empty) 1 16 Try.underlying23 hi.out hz0.out hz1.out hz2.out rfl (by decide) _ _ _ rfl HO1.out ⟨b, o, none⟩ n c (strsV l) rfl ?cl HC1.out ?c2 ?c3 ?c4 ?c5 ?_)
      case cl => rw [strsV_len, HLN.out, Nat.mul_one]
      case c2 => exact strsV_one l
      case c3 => unfold maxLen; omega
      case c4 => omega
      case c5 => simp
      intro r' w2 hown2 hgrow
      have HB2 := Lib.hid (HB1.out.grown hgrow HB1.out.size (fun g hg => (HO1.out.lt g hg).1))
      have hown2 : w2.ownsRow w.heap.size 9 1 r' n (strsV l) := by simpa using hown2
      have HO2 := Lib.hid (hown2.alloc (.cells #[.string (str [113])] 9))
      have HB3 := Lib.hid (HB2.out.alloc HB2.out.size (.cells #[.string (str [113])] 9))
      have HNW := Lib.hid (Rd.new w2 9 #[.string (str [113])] (0, 0))
      clear hown2 hgrow
      have HC2 : Hid (∀ j u, [Value.string (str [113])][j]? = some u → (w2.alloc (.cells #[.string (str [113])] 9)).cell? (Addr.add ⟨w2.heap.size, 0, none⟩ j) = some u) := fun j u hu => by
        obtain ⟨ad, e, _, hc⟩ := HNW.out j u hu; cases e; exact hc
      go_wp2_with (at_builtin; refine wpList_append_want _ (by first | rfl | simp [Region.wanted, yielded]) _ _ 23 rfl w.heap.size 9 i0 (.string ByteArray.empty) 1 16 Try.underlying23 hi.out hz0.out hz1.out hz2.out rfl (by decide) _ _ _ rfl HO2.out ⟨w2.heap.size, 0, none⟩ 1 1 [.string (str [113])] rfl rfl HC2.out ?e2 ?e3 ?e4 ?e5 ?_)
      case e2 => first | exact rfl | (intro u hu; simp only [List.mem_cons, List.not_mem_nil, or_false] at hu; subst hu; rfl)
      case e3 => unfold maxLen; omega
      case e4 => omega
      case e5 => have := HB2.out.size; simp; omega
      intro r3 w3 hown3 hgrow
      have HB4 := Lib.hid (HB3.out.grown hgrow HB3.out.size (fun g hg => (HO2.out.lt g hg).1))
      have hown4 : w3.ownsRow w.heap.size 9 1 r3 (n + 1) (strsV (l ++ [[113]])) := by rw [strsV_append]; exact hown3
      obtain ⟨A3, c3, rfl, -, -⟩ := own_len hown4
      have HE3 := Lib.hid (StrW.own hown4)
      have HE4 := Lib.hid (E0'.out.up HB4.out)
      clear hown3 hown4 hgrow
      go_wp2_with fail
      refine (refUnder11_any (l ++ [[113]]) l' A3 A' (n + 1) c3 n c' w3 HE3.out HE4.out (by omega) (by omega)).mono ?_
      rintro e w4 ⟨rfl, hb⟩
      have HB5 := Lib.hid (HB4.out.trans (hb.mono HB4.out.size))
      rw [HUN.out]
      clear hb
      go_wp2
      go_ret
      exact ⟨rfl, HB5.out⟩
  · obtain rfl : t = false := by
      rw [Bool.eq_false_iff]
      intro h
      have e := HT.out.1 h
      subst e
      omega
    have hnq : ((n : Int) == (n' : Int)) = false := beq_false_of_ne (by omega)
    clear hE hE' ht p1 p2 p3 p4 q1 q2 q3 q4
    go_enter Try.func12, Try.ntmps12
    go_wp2
    go_ret
    exact ⟨rfl, Below.refl _ _⟩

set_option maxHeartbeats 4000000 in
theorem refParent11_any (s : List UInt8) (w : World) (hl : s.length ≤ 1000000) :
    Calls Try.prog 11 #[.string (str s)] w fun e w' => ∃ v, e = .returned (.tuple #[v, .string (str (parX s)), .int .i64 (parQ s)]) ∧ StrW w' (parR s) v ∧ Below w.heap.size w w' := by
  have HP := Lib.hid (refParse11_any s w hl)
  obtain ⟨hp8, -⟩ := parse_bd s
  obtain ⟨X, hX⟩ : ∃ X, str (parX s) = X := ⟨_, rfl⟩
  obtain ⟨q, hq⟩ : ∃ q, parQ s = q := ⟨_, rfl⟩
  obtain ⟨R, hR⟩ : ∃ R, parR s = R := ⟨_, rfl⟩
  rw [hX, hq, hR]
  have HX := Lib.hid hX
  have HQ := Lib.hid hq
  have HR := Lib.hid hR
  obtain ⟨L, hL⟩ : ∃ L, (parseP s).1 = L := ⟨_, rfl⟩
  obtain ⟨e0, he0⟩ : ∃ e, (parseP s).2 = e := ⟨_, rfl⟩
  have hQ : (if e0 ≠ 0 then e0 else if L = [] then 1 else 0) = q := by rw [← hq, parQ, he0, hL]
  have hRR : (if q = 0 then L.dropLast else []) = R := by rw [← hR, parR, hq, hL]
  have hXX : str (if q = 0 then L.getLast?.getD [] else []) = X := by rw [← hX, parX, hq, hL]
  rw [hL, he0] at HP
  rw [hL] at hp8
  obtain ⟨S, hS⟩ : ∃ S, str s = S := ⟨_, rfl⟩
  rw [hS] at HP ⊢
  have HQ2 := Lib.hid hQ
  have HR2 := Lib.hid hRR
  have HX2 := Lib.hid hXX
  clear hX hq hR hL he0 hQ hRR hXX hS HX HQ HR
  go_enter Try.func11, Try.ntmps11
  go_wp2_with fail
  refine HP.out.mono ?_
  rintro e w1 ⟨v, rfl, hE, hb⟩
  have HB := Lib.hid hb
  obtain ⟨A1, n1, c1, rfl, hn1, hnc1, hcm1, hrd⟩ := id hE
  by_cases h0 : e0 = 0
  · subst h0
    by_cases hL0 : L = []
    · have hq1 : q = 1 := by have h := HQ2.out; rw [if_neg (by simp), if_pos hL0] at h; exact h.symm
      subst hq1
      obtain rfl : R = [] := HR2.out.symm
      obtain rfl : X = str [] := HX2.out.symm
      have hn10 : n1 = 0 := by rw [← hn1, hL0]; rfl
      clear hE hb hn1 hnc1 hcm1 hrd hL0
      subst hn10
      go_wp2
      go_ret3
      exact ⟨_, rfl, StrW.nil_ _, HB.out⟩
    · have hq0 : q = 0 := by have h := HQ2.out; rw [if_neg (by simp), if_neg hL0] at h; exact h.symm
      subst hq0
      obtain rfl : R = L.dropLast := HR2.out.symm
      obtain ⟨j, rfl⟩ : ∃ j, n1 = j + 1 := ⟨n1 - 1, by have := List.length_pos_iff.2 hL0; omega⟩
      obtain ⟨b, o, rfl, hbB, -⟩ := hrd.plain (by rw [strsV_len]; omega)
      obtain ⟨x, hx⟩ : ∃ x, L[j]? = some x := ⟨_, List.getElem?_eq_getElem (by omega)⟩
      have hlast : L.getLast? = some x := by rw [List.getLast?_eq_getElem?, hn1]; exact hx
      obtain rfl : X = str x := by have h := HX2.out; rw [if_pos rfl, hlast] at h; exact h.symm
      have c0 := strs_at hrd hx
      have HER : Hid (StrW w1 L.dropLast (.slice (some ⟨b, o, none⟩) j c1)) := ⟨_, _, _, rfl, by rw [List.length_dropLast]; omega, by omega, hcm1, by rw [List.dropLast_eq_take, strsV_take, hn1]; exact hrd.take _⟩
      have hne : ((((j + 1 : Nat)) : Int) == 0) = false := beq_false_of_ne (by omega)
      have hkj : ((j + 1 : Nat) : Int) - 1 = (j : Int) := by omega
      have hj8 : j ≤ 8 := by omega
      have hjc : (j : Int) ≤ (c1 : Int) := by omega
      have hcz : (c1 : Int) ≤ 9223372036854775807 := by unfold maxLen at hcm1; omega
      clear hE hb hn1 hnc1 hcm1 hrd hL0 hx hlast hp8
      go_wp2
      go_quiet (fail)
      go_wp2
      go_ret3
      exact ⟨_, rfl, HER.out.up ((Below.refl _ _).drewN' _), HB.out.drewN' _⟩
  · have hq1 : q = e0 := by have h := HQ2.out; rw [if_pos h0] at h; exact h.symm
    subst hq1
    have hqn : (q == 0) = false := beq_false_of_ne h0
    obtain rfl : R = [] := by have h := HR2.out; rw [if_neg h0] at h; exact h.symm
    obtain rfl : X = str [] := by have h := HX2.out; rw [if_neg h0] at h; exact h.symm
    clear hE hb hn1 hnc1 hcm1 hrd h0
    go_wp2
    go_ret3
    exact ⟨_, rfl, StrW.nil_ _, HB.out⟩
end Go.Proofs.Ytlenfocdhchphaa
