/-
  Whatever octets there are, the numbers of any widths with which they begin are, as pack.Unpack answers them, the document's, or refused with its error; what was handed in stays. Conditions: none.
-/
import Derived.Test.YtnodfnoeppaliaaAwake
import Derived.Test.YtnodfnoeppaliaaOpen
import Derived.Test.YtnodfnoeppaliaaRows
namespace Go.Proofs.Ytnodfnoeppaliaa.packUnpacks
open Go.ChangeShapes Go.WideShapes Go.ChangeAt Go.RowKit
open Go.ChangeMaps (open_string shut_string)
set_option linter.unusedVariables false

set_option maxRecDepth 100000 in
set_option maxHeartbeats 1000000 in
theorem walk (A A' : Option Addr) (c c' : Nat) (bs : List UInt8) (ws : List Int) (w : World) (hr : Rd w w.heap.size A (bs.map bv)) (hr' : Rd w w.heap.size A' (ws.map iv)) (hc : bs.length ≤ c) (hcm : c ≤ maxLen) (hc' : ws.length ≤ c') (hcm' : c' ≤ maxLen) :
    Calls Try.prog 3 #[.slice A bs.length c, .slice A' ws.length c'] w fun e w' => e = .returned (.bool true) ∧ Below w.heap.size w w' := by
  obtain ⟨n, hn, hn'⟩ : ∃ n, (bs.take 300).length = n ∧ (n = 300 ∧ 300 < bs.length ∨ n = bs.length ∧ bs.length ≤ 300) := ⟨_, rfl, by simp; omega⟩
  obtain ⟨m, hm, hm'⟩ : ∃ m, (ws.take 60).length = m ∧ (m = 60 ∧ 60 < ws.length ∨ m = ws.length ∧ ws.length ≤ 60) := ⟨_, rfl, by simp; omega⟩
  have hR : Rd w w.heap.size A ((bs.take 300).map bv) := by rw [List.map_take]; exact hr.take 300
  have hR' : Rd w w.heap.size A' ((ws.take 60).map iv) := by rw [List.map_take]; exact hr'.take 60
  have HR := Lib.hid hR
  have HR' := Lib.hid hR'
  obtain ⟨q, hq⟩ : ∃ q, unpCode (ws.take 60) n = q := ⟨_, rfl⟩
  obtain ⟨vs, hvs⟩ : ∃ vs, unpVals (bs.take 300) (ws.take 60) = vs := ⟨_, rfl⟩
  have HQ := Lib.hid hq
  have HV := Lib.hid hvs
  have HN := Lib.hid hn
  have HM := Lib.hid hm
  have hnc : n ≤ c := by omega
  have hmc : m ≤ c' := by omega
  have hvk : vs.length ≤ 60 := by
    rw [← hvs]; unfold unpVals; split
    · rw [nums_length]; simp; omega
    · simp
  have hconv := run_conv (P := Try.prog) 22 5 9 Try.underlying22 Try.underlying5 under9 n c HN.out HR.out
  unfold maxLen at hcm hcm'
  clear hR hR' hr hr' hq hvs hn hm
  rcases hn' with ⟨rfl, h1⟩ | ⟨rfl, h1⟩ <;> rcases hm' with ⟨rfl, h2⟩ | ⟨rfl, h2⟩
  all_goals
    go_enter Try.func3, Try.ntmps3
    go_wp2_with fail
    refine (Unpack_all _ _ _ _ _ _ _ (bs.take 300) (ws.take 60) q vs _ _ HN.out HM.out HQ.out HV.out rfl HR.out HR'.out (Nat.le_refl _) hnc hcm (by omega)).mono ?_
    rintro e w1 ⟨A1, c1, rfl, h3, h3m, r1, hb1⟩
    have HB1 := Lib.hid hb1
    have hs1 := hb1.size
    have HR1 := Lib.hid (HR.out.below hb1)
    have HR1' := Lib.hid (HR'.out.below hb1)
    clear hb1
    go_wp2_with fail
    refine (refUnpack_all _ _ _ _ (bs.take 300) (ws.take 60) q vs _ _ HM.out (by rw [HN.out]; exact HQ.out) HV.out rfl HR1'.out hs1 (by have := HN.out; omega) (by omega)).mono ?_
    rintro e w2 ⟨A2, c2, rfl, h4, h4m, r2, hb2⟩
    have hs2 := hb2.size
    have HB2 := Lib.hid (HB1.out.trans (hb2.mono hs1))
    have hconv2 := fun j => run_conv (P := Try.prog) 22 5 9 Try.underlying22 Try.underlying5 under9 (w := w2.drewN j) _ c HN.out ((HR1.out.below (hb2.mono hs1)).drewN j)
    have R1 := Lib.hid ((r1.below hb2).mono hs2)
    have R2 := Lib.hid r2
    clear hb2 r1 r2
    go_wp2_with (go_at_call 10; refine (same_yes w2.heap.size _ _ _ _ _ vs _ rfl (by omega) R1.out R2.out).mono ?_; rintro e w4 ⟨rfl, j, rfl⟩)
    refine (awake_any _).mono ?_
    rintro e w5 ⟨rfl, hb5⟩
    go_wp2
    go_ret
    exact ⟨rfl, (HB2.out.drewN' j).trans (hb5.mono (Nat.le_trans hs1 hs2))⟩

set_option maxRecDepth 100000 in
theorem lifted (os : Os) (started : os.Started) (H : Type) (enc : TypeId × Value → H) :
    ReturnsInHanded {} Try.checked os 3 .any (Rows.packUnpacksSpec.pre6 enc Try.prog Try.f3 Rows.packUnpacksRow.domain false) (Rows.packUnpacksSpec.post enc Try.prog Try.f3 false true false false) := by
  refine returnsInHanded_of_change (C := Try.checked) own started (by kernel_rfl) Try.func3
    (ChangeSpec.witness6 (enc := enc) (C := Try.checked) false ⟨#[], #[.slice none 0 0, .slice none 0 0], []⟩ 8 (by kernel_rfl) (by kernel_rfl) (by kernel_rfl) (by kernel_rfl)) ?_
  intro W base args ds gs before hval0 hW hcnd _
  have hval : ∀ (j : Nat) t v, Try.f3.params[j]? = some t → args[j]? = some v → Value.okWide Try.prog W .any base t v := hval0
  have hW' := hW
  obtain ⟨p, q, hA0, hV, rfl, hfz, hnd⟩ := hW
  have hA : DataW.TrodAll enc Try.prog W 0 (fun _ => true) true Try.f3.params.toList args.toList ds p := hA0
  rw [Try.params3] at hA hval
  obtain ⟨v0, vs0, d0, ds0, p0, q0, hargs, rfl, rfl, h0, r0⟩ := trodAll_cons hA
  obtain ⟨v1, vs1, d1, ds1, p1, q1, rfl, rfl, rfl, h1, r1⟩ := trodAll_cons r0
  obtain ⟨rfl, rfl, rfl⟩ := trodAll_nil r1
  obtain rfl : args = #[v0, v1] := by cases args; simp_all
  obtain ⟨rfl, rfl⟩ := trodVars_none hV
  obtain ⟨a0, len0, cap0, rfl⟩ := okWide_slice Try.underlying22 (hval 0 22 v0 rfl rfl)
  obtain ⟨a1, len1, cap1, rfl⟩ := okWide_slice Try.underlying23 (hval 1 23 v1 rfl rfl)
  have lt0 : ∀ x ∈ p0, x.block < W.heap.size := by obtain ⟨m, hm⟩ := h0; exact DataW.trod_lt m _ _ _ hm
  have lt1 : ∀ x ∈ p1, x.block < W.heap.size := by obtain ⟨m, hm⟩ := h1; exact DataW.trod_lt m _ _ _ hm
  obtain ⟨bs, rfl, hc0, hm0, hr0⟩ := bytes_in Try.underlying22 Try.underlying5 (by kernel_rfl) h0
  obtain ⟨ws, rfl, hc1, hm1, hr1⟩ := ints_in Try.underlying23 Try.underlying3 (by kernel_rfl) h1
  clear hA0 hval0
  refine (walk a0 a1 cap0 cap1 bs ws W hr0 hr1 hc0 hm0 hc1 hm1).mono fun e W' ⟨he, bel⟩ => ?_
  subst he
  exact ⟨_, rfl, _, _, _, [], _, [], hW', trodAll_mk1 (shut_bool Try.underlying4 _), (trodAll_cons_mk (Below.trod laidOut (by kernel_rfl) (of_decide_eq_true (by kernel_rfl)) h0 bel lt0) (trodAll_cons_mk (Below.trod laidOut (by kernel_rfl) (of_decide_eq_true (by kernel_rfl)) h1 bel lt1) trodAll_mk0)), rfl, bel.frame _, fun h => by cases h⟩

theorem over : Rows.packUnpacksRow.holds Try.pinned (OpenSpec.ofChange Rows.packUnpacksSpec) :=
  OpenClaim.holds_of_wide 3 Try.f3 rfl rfl rfl rfl rfl rfl rfl ⟨rfl, rfl, rfl, rfl, rfl⟩ rfl rfl rfl rfl rfl (by kernel_rfl) Try.func3 (by kernel_rfl)
    (of_decide_eq_true (by kernel_rfl)) (by unfold Func.isWrapper; first | (rw [if_pos (by decide +kernel)]; kernel_rfl) | (rw [if_neg (by decide +kernel)]; exact ⟨rfl, rfl⟩))
    (fun os started H enc _ => lifted os started H enc)

theorem proved : Rows.PackUnpacksSaid := over
#print axioms proved
end Go.Proofs.Ytnodfnoeppaliaa.packUnpacks
