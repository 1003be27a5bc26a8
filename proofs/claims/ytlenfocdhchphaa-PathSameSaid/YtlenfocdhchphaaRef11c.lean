/-
  What the document's answers of layer 11 are: Join, Under, Same, Parent.
-/
import Derived.Test.YtlenfocdhchphaaRef11b
import Derived.BigQuiet
import Derived.WalkMore
namespace Go.Proofs.Ytlenfocdhchphaa
open Go.RowKit
set_option maxRecDepth 100000
set_option linter.unusedVariables false

theorem slashed_take {l : List (List UInt8)} {i : Nat} {x : List UInt8} (h : l[i]? = some x) : slashed (l.take (i + 1)) = slashed (l.take i) ++ (47 :: x) := by
  rw [List.take_add_one, h, slashed_append]; simp [slashed]
theorem ret_txt {a b : List UInt8} {q : Int} (h : a = b) : Ending.returned (.tuple #[.string (str a), .int .i64 q]) = .returned (.tuple #[.string (str b), .int .i64 q]) := by rw [h]

set_option maxHeartbeats 8000000 in
theorem refJoin11_any (l : List (List UInt8)) (A : Option Addr) (n c : Nat) (w : World) (hE : StrW w l (.slice A n c)) (hn : n ≤ 100000) (hs : ∀ x ∈ l, x.length ≤ 1000000) :
    Calls Try.prog 16 #[.slice A n c] w fun e w' => e = .returned (.tuple #[.string (str (joinR l)), .int .i64 (joinQ l)]) ∧ Below w.heap.size w w' := by
  have E0 := Lib.hid hE
  have HS := Lib.hid hs
  obtain ⟨q, hq⟩ : ∃ q, joinQ l = q := ⟨_, rfl⟩
  obtain ⟨R, hR⟩ : ∃ R, str (joinR l) = R := ⟨_, rfl⟩
  have HQ := Lib.hid hq
  have HR := Lib.hid hR
  rw [hq, hR]
  clear hE hs hq hR
  go_enter Try.func16, Try.ntmps16
  go_wp2
  go_loopw [4, 5] (fun u a wr => ∃ (p : Nat) (O : ByteArray), p ≤ n ∧ a = .int .i64 (p : Int) ∧ u = .string O ∧ O.size ≤ 25 * p ∧ Hid (str (slashed (l.take p)) = O) ∧ Hid (∀ x ∈ l.take p, isT x = true) ∧ Hid (Below w.heap.size w wr)) (fun _ a _ => n - (intOf a).toNat)
  case atStart => exact ⟨0, ⟨#[]⟩, Nat.zero_le _, rfl, rfl, Nat.le_refl _, rfl, fun x h => (by simp at h), Below.refl _ _⟩
  case round =>
    obtain ⟨p, O, hp, rfl, rfl, hO, HO, HT, HB⟩ := hrel
    have E1 := Lib.hid (E0.out.up HB.out)
    by_cases hlt : p < n
    · obtain ⟨x, hx⟩ : ∃ x, l[p]? = some x := ⟨_, List.getElem?_eq_getElem (by rw [E1.out.parts.1]; exact hlt)⟩
      have HRL := Lib.hid E1.out.parts.2.2.2
      obtain ⟨b, o, rfl, -, -⟩ := HRL.out.plain (by rw [strsV_len, E1.out.parts.1]; omega)
      have c0 := strs_at HRL.out hx
      have HIS := Lib.hid fun w' => refIs_any x w' (by have := HS.out x (List.mem_of_getElem? hx); omega)
      have hst := slashed_take hx
      obtain ⟨t, ht⟩ : ∃ t, isT x = t := ⟨_, rfl⟩
      rw [ht] at HIS
      have HX := Lib.hid hx
      obtain ⟨X, hX⟩ : ∃ X, str x = X := ⟨_, rfl⟩
      have HX0 := Lib.hid hX
      rw [hX] at c0 HIS
      cases t with
      | false =>
        have hq1 : joinQ l = 11 := by
          unfold joinQ
          rw [if_pos (List.any_eq_true.2 ⟨x, List.mem_of_getElem? hx, by rw [ht]; rfl⟩)]
        have hr1 : joinR l = [] := by unfold joinR; rw [hq1]; rfl
        rw [HQ.out] at hq1
        have hr2 := HR.out
        rw [hr1] at hr2
        subst hq1
        obtain rfl : R = str [] := hr2.symm
        clear hx hst hX hr1 hr2 ht
        go_wp2_with fail
        refine (HIS.out _).mono ?_
        rintro e w2 ⟨rfl, hb⟩
        have HB2 := Lib.hid (HB.out.trans (hb.mono HB.out.size))
        clear hb
        go_wp2
        go_ret2
        exact ⟨rfl, HB2.out⟩
      | true =>
        have hx24 := (name_is ht).2.2.2.2
        have HOO : Hid (str (slashed (l.take (p + 1))) = O ++ ((⟨#[47]⟩ : ByteArray) ++ X)) := by
          show _ = _
          rw [hst, ← HO.out, ← hX]
          exact (congrArg (fun z => str (slashed (l.take p)) ++ z) (str_append [47] x)).symm ▸ (str_append _ _).symm
        have HT2 : Hid (∀ y ∈ l.take (p + 1), isT y = true) := fun y hy => by
          rw [List.take_add_one, hx] at hy
          rcases List.mem_append.1 hy with hy | hy
          · exact HT.out y hy
          · obtain rfl : y = x := by simpa using hy
            exact ht
        have hxs : X.size ≤ 24 := by rw [← hX, str_size]; exact hx24
        have hsum : 1 + X.size ≤ 25 := by omega
        have hos : O.size + (1 + X.size) ≤ 25 * (p + 1) := by omega
        have hos2 : O.size + (1 + X.size) ≤ 9223372036854775807 := by omega
        have hfs : (O ++ ((⟨#[47]⟩ : ByteArray) ++ X)).size ≤ 25 * (p + 1) := by
          rw [ByteArray.size_append, ByteArray.size_append]
          exact hos
        clear hx hst hX ht hx24
        go_wp2_with fail
        refine (HIS.out _).mono ?_
        rintro e w2 ⟨rfl, hb⟩
        have HB2 := Lib.hid (HB.out.trans (hb.mono HB.out.size))
        have E2 := Lib.hid (E1.out.up hb)
        have c1 := strs_at E2.out.parts.2.2.2 HX.out
        rw [HX0.out] at c1
        clear hb c0
        go_wp2
        all_goals first | (exfalso; omega; done) | skip
        go_roundw
        case rel => exact ⟨p + 1, O ++ ((⟨#[47]⟩ : ByteArray) ++ X), by omega, by go_num, rfl, hfs, HOO.out, HT2, HB2⟩
        case measure => simp [intOf]; omega
    · obtain rfl : p = n := by omega
      have hlen := E1.out.parts.1
      have hall : ∀ x ∈ l, isT x = true := by
        have h := HT.out
        rwa [List.take_of_length_le (by omega)] at h
      have hOl : str (slashed l) = O := by
        have h := HO.out
        rwa [List.take_of_length_le (by omega)] at h
      by_cases h8 : 8 < p
      · have hq1 : joinQ l = 16 := by
          unfold joinQ
          rw [if_neg (by
            intro h
            obtain ⟨x, hx, e⟩ := List.any_eq_true.1 h
            rw [hall x hx] at e; cases e), if_pos (by omega)]
        have hr1 : joinR l = [] := by unfold joinR; rw [hq1]; rfl
        rw [HQ.out] at hq1
        have hr2 := HR.out
        rw [hr1] at hr2
        subst hq1
        obtain rfl : R = str [] := hr2.symm
        have h8' : (8 : Int) < (p : Int) := by omega
        clear hall hOl hr1 hr2
        go_wp2
        go_ret2
        exact ⟨rfl, HB.out⟩
      · have hq1 : joinQ l = 0 := joinQ_zero.2 ⟨hall, by omega⟩
        have hr1 : joinR l = if l = [] then [47] else slashed l := by unfold joinR; rw [if_pos hq1]
        rw [HQ.out] at hq1
        have hr2 := HR.out
        rw [hr1] at hr2
        subst hq1
        have h8' : ¬ (8 : Int) < (p : Int) := by omega
        by_cases hp0 : l = []
        · rw [if_pos hp0] at hr2
          obtain rfl : R = str [47] := hr2.symm
          have hOt : O.toList = [] := by rw [← hOl, str_toList, hp0]; rfl
          clear hall hOl hr1 hr2 hp0
          go_wp2
          go_ret2
          exact ⟨rfl, HB.out⟩
        · rw [if_neg hp0] at hr2
          obtain rfl : R = O := hr2.symm.trans hOl
          obtain ⟨Z, hZ⟩ : ∃ Z, slashed l = Z := ⟨_, rfl⟩
          have hRt : R.toList = Z := by rw [← hOl, str_toList, hZ]
          have hZe : Z.isEmpty = false := by
            rw [← hZ]
            cases l with
            | nil => exact absurd rfl hp0
            | cons x l => rfl
          clear hall hOl hr1 hr2 hp0 hZ
          go_wp2
          go_ret2
          exact ⟨rfl, HB.out⟩

theorem under_stop {l top : List (List UInt8)} {k : Nat} {x y : List UInt8} (hy : top[k]? = some y) (hx : l[k]? = some x) (h : x ≠ y) : underB l top = false := by
  unfold underB
  refine decide_eq_false fun ⟨h1, h2⟩ => h ?_
  have : (l.take top.length)[k]? = top[k]? := by rw [h2]
  rw [List.getElem?_take_of_lt (List.getElem?_eq_some_iff.1 hy).1, hx, hy] at this
  exact Option.some.inj this
theorem under_short {l top : List (List UInt8)} {k : Nat} (hk : k < top.length) (h : l.length ≤ k) : underB l top = false := decide_eq_false fun h1 => by omega
theorem under_end {l top : List (List UInt8)} (h : ∀ j, j < top.length → l[j]? = top[j]?) : underB l top = decide (top.length < l.length) := by
  unfold underB
  rw [Bool.eq_iff_iff, decide_eq_true_eq, decide_eq_true_eq]
  refine ⟨fun h => h.1, fun h1 => ⟨h1, List.ext_getElem? fun j => ?_⟩⟩
  rw [List.getElem?_take]
  split
  · exact h j (by assumption)
  · rw [List.getElem?_eq_none (by omega)]
set_option maxHeartbeats 4000000 in
theorem refUnder11_any (l top : List (List UInt8)) (A A' : Option Addr) (n c n' c' : Nat) (w : World) (hE : StrW w l (.slice A n c)) (hE' : StrW w top (.slice A' n' c')) (hn : n ≤ 100000) (hn' : n' ≤ 100000) :
    Calls Try.prog 18 #[.slice A n c, .slice A' n' c'] w fun e w' => e = .returned (.bool (underB l top)) ∧ Below w.heap.size w w' := by
  have E0 := Lib.hid hE
  have E0' := Lib.hid hE'
  obtain ⟨t, ht⟩ : ∃ t, underB l top = t := ⟨_, rfl⟩
  have HT := Lib.hid ht
  rw [ht]
  clear hE hE' ht
  go_enter Try.func18, Try.ntmps18
  go_wp2
  go_loopw [5] (fun a wr => ∃ k : Nat, k ≤ n' ∧ a = .int .i64 (k : Int) ∧ Hid (∀ j, j < k → l[j]? = top[j]?) ∧ Hid (Below w.heap.size w wr)) (fun a _ => n' - (intOf a).toNat)
  case atStart => exact ⟨0, Nat.zero_le _, rfl, fun j h => absurd h (by omega), Below.refl _ _⟩
  case round =>
    obtain ⟨k, hk, rfl, HN, HB⟩ := hrel
    have E1 := Lib.hid (E0.out.up HB.out)
    have E1' := Lib.hid (E0'.out.up HB.out)
    by_cases hlt : k < n'
    · obtain ⟨y, hy⟩ : ∃ y, top[k]? = some y := ⟨_, List.getElem?_eq_getElem (by rw [E1'.out.parts.1]; exact hlt)⟩
      have HRL' := Lib.hid E1'.out.parts.2.2.2
      obtain ⟨b', o', rfl, -, -⟩ := HRL'.out.plain (by rw [strsV_len, E1'.out.parts.1]; omega)
      have d0 := strs_at HRL'.out hy
      have e2 : (str y).toList = y := str_toList _
      by_cases hkn : k < n
      · obtain ⟨x, hx⟩ : ∃ x, l[k]? = some x := ⟨_, List.getElem?_eq_getElem (by rw [E1.out.parts.1]; exact hkn)⟩
        have HRL := Lib.hid E1.out.parts.2.2.2
        obtain ⟨b, o, rfl, -, -⟩ := HRL.out.plain (by rw [strsV_len, E1.out.parts.1]; omega)
        have c0 := strs_at HRL.out hx
        have e1 : (str x).toList = x := str_toList _
        have hge : ¬ (n : Int) ≤ (k : Int) := by omega
        have hgd : decide ((n : Int) ≤ (k : Int)) = false := decide_eq_false hge
        by_cases he : x = y
        · subst he
          have HN' : Hid (∀ j, j < k + 1 → l[j]? = top[j]?) := fun j hj => by
            rcases Nat.lt_or_ge j k with h | h
            · exact HN.out j h
            · obtain rfl : j = k := by omega
              rw [hx, hy]
          clear hx hy
          go_wp2
          go_quiet (fail)
          go_wp2
          go_roundw
          case rel => exact ⟨k + 1, by omega, by go_num, HN', HB.out.drewN' _⟩
          case measure => simp [intOf]; omega
        · obtain rfl : t = false := by rw [← HT.out]; exact under_stop hy hx he
          have hq : (x == y) = false := beq_false_of_ne he
          clear hx hy he
          go_wp2
          go_quiet (fail)
          go_wp2
          go_ret
          exact ⟨rfl, HB.out.drewN' _⟩
      · obtain rfl : t = false := by rw [← HT.out]; exact under_short (k := k) (by rw [E1'.out.parts.1]; exact hlt) (by rw [E1.out.parts.1]; omega)
        have hge : (n : Int) ≤ (k : Int) := by omega
        have hgd : decide ((n : Int) ≤ (k : Int)) = true := decide_eq_true hge
        clear hy
        go_wp2
        go_quiet (fail)
        go_wp2
        go_ret
        exact ⟨rfl, HB.out.drewN' _⟩
    · obtain rfl : k = n' := by omega
      have hd : underB l top = decide (k < n) := by
        rw [under_end (fun j hj => HN.out j (by rw [E1'.out.parts.1] at hj; exact hj)), E1'.out.parts.1, E1.out.parts.1]
      rw [HT.out] at hd
      go_wp2
      go_ret
      exact ⟨ret_bool (by rw [hd]), HB.out⟩
end Go.Proofs.Ytlenfocdhchphaa
