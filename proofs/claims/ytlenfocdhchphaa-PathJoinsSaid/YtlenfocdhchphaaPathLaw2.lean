/-
  PathJoins: the walk, from the properties.
-/
import Derived.Test.YtlenfocdhchphaaPathC
namespace Go.Proofs.Ytlenfocdhchphaa
open Go.RowKit
set_option maxRecDepth 100000
set_option linter.unusedVariables false

set_option maxHeartbeats 8000000 in
theorem pathJoins_walk (W : World) (HP : ParsePC W) (HR : ParentPC W) (HJ : JoinPC W) (HU : UnderPC W) (l top : List (List UInt8)) (v v' : Value)
    (hE : StrW W l v) (hE' : StrW W top v') (hs : ∀ x ∈ l, x.length ≤ 9223372036854775807) (hs' : ∀ x ∈ top, x.length ≤ 9223372036854775807) :
    Calls Try.prog 4 #[v, v'] W fun e w' => e = .returned (.bool true) ∧ Below W.heap.size W w' := by
  have HAW := Lib.hid (awakeP_any HP HR)
  have HP := Lib.hid HP
  have HU := Lib.hid HU
  have HN1 := Lib.hid (names11_any l v W hE hs)
  have HN2 := Lib.hid fun w1 (hb : Below W.heap.size W w1) => names11_any top v' w1 (hE'.up hb) hs'
  have HJ := Lib.hid HJ
  have HLL := Lib.hid (namesP_len l)
  have HLM := Lib.hid (namesP_len top)
  have HSL := Lib.hid (namesP_short (l := l))
  obtain ⟨L, hL⟩ : ∃ L, namesP l = L := ⟨_, rfl⟩
  obtain ⟨M, hM⟩ : ∃ M, namesP top = M := ⟨_, rfl⟩
  rw [hL] at HN1 HLL HSL
  rw [hM] at HN2 HLM
  obtain ⟨R, hR⟩ : ∃ R, joinR L = R := ⟨_, rfl⟩
  obtain ⟨q, hq⟩ : ∃ q, joinQ L = q := ⟨_, rfl⟩
  obtain ⟨S, hS⟩ : ∃ S, str R = S := ⟨_, rfl⟩
  obtain ⟨bu, hbu⟩ : ∃ b, underB L M = b := ⟨_, rfl⟩
  have HS := Lib.hid hS
  have HUB := Lib.hid hbu
  have HJR := Lib.hid hR
  have HJQ := Lib.hid hq
  have hsz : S.size = R.length := by rw [← hS]; exact str_size R
  have HPJ : Hid (q = 0 → R.length ≤ 200 → parseP R = (L, 0)) := fun h0 h => by
    subst hR; exact parse_join (by rw [hq]; exact h0) h
  obtain ⟨rl, hrl⟩ : ∃ k, R.length = k := ⟨_, rfl⟩
  have HRL := Lib.hid hrl
  rw [hrl] at hsz HPJ
  have HSZ := Lib.hid hsz
  clear hE hE' hs hs' hL hM hR hq hS hbu HR hrl hsz
  go_enter Try.func4, Try.ntmps4
  go_wp2_with fail
  refine HN1.out.mono ?_
  rintro e w1 ⟨v1, rfl, hE, hb⟩
  have B1 := Lib.hid hb
  have E1 := Lib.hid hE
  clear hE hb
  go_wp2_with fail
  refine (HN2.out _ B1.out).mono ?_
  rintro e w2 ⟨v2, rfl, hE, hb⟩
  have B2 := Lib.hid (B1.out.trans (hb.mono B1.out.size))
  have E2 := Lib.hid (E1.out.up hb)
  have F2 := Lib.hid hE
  clear hE hb E1 B1 HN1 HN2
  obtain ⟨A1, n1, c1, rfl, hn1, -⟩ := id E2.out
  obtain ⟨A2, n2, c2, rfl, hn2, -⟩ := id F2.out
  have hn10 : n1 ≤ 10 := by have := HLL.out; omega
  have hn20 : n2 ≤ 10 := by have := HLM.out; omega
  clear hn1 hn2
  go_wp2_with fail
  have h := HJ.out.call L _ _ _ w2 E2.out (by omega) (fun x hx => by have := HSL.out x hx; omega) B2.out
  rw [HJR.out, HJQ.out, HS.out] at h
  refine h.mono ?_
  clear h
  rintro e w3 ⟨rfl, hb⟩
  have B3 := Lib.hid (B2.out.trans (hb.mono B2.out.size))
  have E3 := Lib.hid (E2.out.up hb)
  have F3 := Lib.hid (F2.out.up hb)
  clear hb
  go_wp2_with fail
  have h := refJoin11_any L _ _ _ w3 E3.out (by omega) (fun x hx => by have := HSL.out x hx; omega)
  rw [HJR.out, HJQ.out, HS.out] at h
  refine h.mono ?_
  clear h
  rintro e w4 ⟨rfl, hb⟩
  have B4 := Lib.hid (B3.out.trans (hb.mono B3.out.size))
  have E4 := Lib.hid (E3.out.up hb)
  have F4 := Lib.hid (F3.out.up hb)
  clear hb
  go_wp2_with fail
  have h := HU.out.call L M _ _ _ _ _ _ w4 E4.out F4.out (by omega) (by omega) B4.out
  rw [HUB.out] at h
  refine h.mono ?_
  clear h
  rintro e w5 ⟨rfl, hb⟩
  have B5 := Lib.hid (B4.out.trans (hb.mono B4.out.size))
  have E5 := Lib.hid (E4.out.up hb)
  have F5 := Lib.hid (F4.out.up hb)
  clear hb
  go_wp2_with fail
  have h := refUnder11_any L M _ _ _ _ _ _ w5 E5.out F5.out (by omega) (by omega)
  rw [HUB.out] at h
  refine h.mono ?_
  clear h
  rintro e w6 ⟨rfl, hb⟩
  have B6 := Lib.hid (B5.out.trans (hb.mono B5.out.size))
  have E6 := Lib.hid (E5.out.up hb)
  clear hb B2 B3 B4 B5 E2 E3 E4 E5 F2 F3 F4 F5
  by_cases h0 : q = 0
  · subst h0
    have hsz := HSZ.out
    by_cases h2 : rl ≤ 200
    · have h200 : ¬ (200 : Int) < (rl : Int) := by omega
      have hp := HPJ.out rfl h2
      have HC := Lib.hid fun w1 (hb : Below W.heap.size W w1) => HP.out.call R w1 (by have := HRL.out; omega) hb
      rw [hp, HS.out] at HC
      clear hp
      go_wp2_with fail
      refine (HC.out _ B6.out).mono ?_
      rintro e w7 ⟨v7, rfl, hE, hb⟩
      have B7 := Lib.hid (B6.out.trans (hb.mono B6.out.size))
      have E7 := Lib.hid (E6.out.up hb)
      have F7 := Lib.hid hE
      clear hE hb
      go_wp2_with fail
      refine (rSameP F7.out E7.out (by have := HLL.out; omega) (by have := HLL.out; omega)).mono ?_
      rintro e w8 ⟨rfl, hb⟩
      have B8 := Lib.hid (B7.out.trans (hb.mono B7.out.size))
      rw [decide_eq_true (rfl : L = L)]
      clear hb
      go_wp2_with fail
      refine (HAW.out.call _ B8.out).mono ?_
      rintro e w9 ⟨rfl, hb⟩
      have B9 := Lib.hid (B8.out.trans (hb.mono B8.out.size))
      clear hb
      go_wp2
      go_ret
      exact ⟨rfl, B9.out⟩
    · have h200 : (200 : Int) < (rl : Int) := by omega
      go_wp2_with fail
      refine (HAW.out.call _ B6.out).mono ?_
      rintro e w9 ⟨rfl, hb⟩
      have B9 := Lib.hid (B6.out.trans (hb.mono B6.out.size))
      clear hb
      go_wp2
      go_ret
      exact ⟨rfl, B9.out⟩
  · have hqn : (q == 0) = false := beq_false_of_ne h0
    have hqn2 : (q != 0) = true := by rw [bne, hqn]; rfl
    go_wp2_with fail
    refine (HAW.out.call _ B6.out).mono ?_
    rintro e w9 ⟨rfl, hb⟩
    have B9 := Lib.hid (B6.out.trans (hb.mono B6.out.size))
    clear hb
    go_wp2
    go_ret
    exact ⟨rfl, B9.out⟩
end Go.Proofs.Ytlenfocdhchphaa
