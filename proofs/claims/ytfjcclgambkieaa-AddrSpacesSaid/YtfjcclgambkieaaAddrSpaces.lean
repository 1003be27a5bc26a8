/-
  Whether any geometry may be, and how many blocks and segments it has, is as the document says. Conditions: none.
-/
import Derived.Test.YtfjcclgambkieaaAddrLaw
import Derived.Test.YtfjcclgambkieaaAddrAwake
import Derived.Test.YtfjcclgambkieaaOpenAddr
import Derived.Test.YtfjcclgambkieaaLift
import Derived.Test.YtfjcclgambkieaaRows
namespace Go.Proofs.Ytfjcclgambkieaa.addrSpaces
open Go.ChangeShapes Go.WideShapes Go.ChangeAt Go.RowKit
set_option linter.unusedVariables false

set_option maxRecDepth 100000 in
set_option maxHeartbeats 2000000 in
theorem walk (D L V S : Int) (w : World) :
    Calls Try.prog 3 #[.agg #[.int .i64 D, .int .i64 L, .int .i64 V, .int .i64 S]] w fun e w' => e = .returned (.bool true) ∧ Below w.heap.size w w' := by
  obtain ⟨m, hm⟩ : ∃ m, mayB D L V S = m := ⟨_, rfl⟩
  have HM := Lib.hid hm
  obtain ⟨n, hn⟩ : ∃ n, segsA D L V S = n := ⟨_, rfl⟩
  have HN := Lib.hid hn
  have hb := segsA_bd D L V S
  rw [hn] at hb
  obtain ⟨n1, n2⟩ := hb
  clear hm hn
  go_enter Try.func3, Try.ntmps3
  go_wp2_with fail
  have G0 := Lib.hid (Geo.new w 23 D L V S)
  have HB0 := Lib.hid (Below.alloc (Below.refl w.heap.size w) (Nat.le_refl _) (.cells #[.int .i64 D, .int .i64 L, .int .i64 V, .int .i64 S] 23))
  refine (refMay_any _ _ _ _ _ _ HM.out).mono ?_
  rintro e w1 ⟨rfl, hb1⟩
  have G1 := Lib.hid (G0.out.up hb1)
  have HB1 := Lib.hid (HB0.out.trans (hb1.mono HB0.out.size))
  clear hb1 HB0 G0
  obtain ⟨c0, c1, c2, c3⟩ := G1.out
  cases m
  case' false =>
    obtain rfl : n = 0 := by rw [← HN.out, segsA, HM.out]; rfl
    clear n1 n2
    have z2 : IntKind.i64.wrap 0 = 0 := rfl
  case' true =>
    go_wp2_with fail
    refine (Count_any _ _ _ _ _ HM.out).mono ?_
    rintro e w2 ⟨rfl, hb2⟩
    have e2 : segsN D V S = n := by rw [← HN.out, segsA, HM.out]; rfl
    rw [e2]
    have G1 := Lib.hid (G1.out.up hb2)
    have HB1 := Lib.hid (HB1.out.trans (hb2.mono HB1.out.size))
    clear hb2 c0 c1 c2 c3 e2
    rename World => w1
    obtain ⟨c0, c1, c2, c3⟩ := G1.out
    have q1 : IntKind.i64.wrap (16 * n) = 16 * n := IntWalk.i64_in _ (by omega)
  all_goals
    go_wp2_with fail
    have HC1 := lift_below w1 fun w' => May_any D L V S _ w' HM.out
    have HC2 := lift_below w1 fun w' => refMay_any D L V S _ w' HM.out
    have HC3 := lift_below w1 fun w' => Segments_any D L V S w'
    have HC4 := lift_below w1 fun w' => Blocks_any D L V S w'
    have HC5 := lift_below w1 fun w' => awake_any w'
    rw [HN.out] at HC3 HC4
    try rw [Int.mul_zero] at HC4
    have HK : Hid (∀ w', Below w1.heap.size w1 w' → w'.cell? ⟨w.heap.size, 0, none⟩ = some (.int .i64 D) ∧ w'.cell? ⟨w.heap.size, 1, none⟩ = some (.int .i64 L) ∧ w'.cell? ⟨w.heap.size, 2, none⟩ = some (.int .i64 V) ∧ w'.cell? ⟨w.heap.size, 3, none⟩ = some (.int .i64 S)) := fun w' hb => G1.out.up hb
    clear c0 c1 c2 c3
    go_region_held3 (fun w' => w'.cell? ⟨w.heap.size, 0, none⟩ = some (.int .i64 D) ∧ w'.cell? ⟨w.heap.size, 1, none⟩ = some (.int .i64 L) ∧ w'.cell? ⟨w.heap.size, 2, none⟩ = some (.int .i64 V) ∧ w'.cell? ⟨w.heap.size, 3, none⟩ = some (.int .i64 S))
      (first | exact HK.out _ (Below.refl _ _).drew | exact HK.out _ (by assumption))
      (first
        | (go_at_call 11; (with_reducible refine (HC1.out _ (by first | exact (Below.refl _ _).drew | assumption)).mono ?_); rintro e w6 ⟨rfl, hbw⟩)
        | (go_at_call 9; (with_reducible refine (HC2.out _ (by first | exact (Below.refl _ _).drew | assumption)).mono ?_); rintro e w6 ⟨rfl, hbw⟩)
        | (go_at_call 12; (with_reducible refine (HC3.out _ (by assumption)).mono ?_); rintro e w6 ⟨rfl, hbw⟩)
        | (go_at_call 13; (with_reducible refine (HC4.out _ (by assumption)).mono ?_); rintro e w6 ⟨rfl, hbw⟩)
        | (go_at_call 14; (with_reducible refine (HC5.out _ (by assumption)).mono ?_); rintro e w6 ⟨rfl, hbw⟩))
    all_goals go_wp2
    all_goals go_ret
    all_goals exact ⟨rfl, HB1.out.trans (Below.mono (by assumption) HB1.out.size)⟩
set_option maxRecDepth 100000 in
theorem lifted (os : Os) (started : os.Started) (H : Type) (enc : TypeId × Value → H) :
    ReturnsInHanded {} Try.checked os 3 .any (Rows.addrSpacesSpec.pre6 enc Try.prog Try.f3 Rows.addrSpacesRow.domain false) (Rows.addrSpacesSpec.post enc Try.prog Try.f3 false true false false) := by
  refine returnsInHanded_of_change (C := Try.checked) own started (by kernel_rfl) Try.func3
    (ChangeSpec.witness6 (enc := enc) (C := Try.checked) false ⟨#[], #[.agg #[.int .i64 0, .int .i64 0, .int .i64 0, .int .i64 0]], []⟩ 8 (by kernel_rfl) (by kernel_rfl) (by kernel_rfl) (by kernel_rfl)) ?_
  intro W base args ds gs before hval0 hW hcnd _
  have hval : ∀ (j : Nat) t v, Try.f3.params[j]? = some t → args[j]? = some v → Value.okWide Try.prog W .any base t v := hval0
  have hW' := hW
  obtain ⟨p, q, hA0, hV, rfl, hfz, hnd⟩ := hW
  have hA : DataW.TrodAll enc Try.prog W 0 (fun _ => true) true Try.f3.params.toList args.toList ds p := hA0
  rw [Try.params3] at hA hval
  obtain ⟨v0, vs0, d0, ds0, p0, q0, hargs, rfl, rfl, h0, r0⟩ := trodAll_cons hA
  obtain ⟨rfl, rfl, rfl⟩ := trodAll_nil r0
  obtain rfl : args = #[v0] := by cases args; simp_all
  obtain ⟨rfl, rfl⟩ := trodVars_none hV
  have lt0 : ∀ x ∈ p0, x.block < W.heap.size := by obtain ⟨m, hm⟩ := h0; exact DataW.trod_lt m _ _ _ hm
  obtain ⟨y0_0, y0_1, y0_2, y0_3, rfl⟩ := geo_in (hval 0 23 v0 rfl rfl) h0
  clear hA0 hval0
  refine (walk y0_0 y0_1 y0_2 y0_3 W).mono fun e W' ⟨he, bel⟩ => ?_
  subst he
  exact ⟨_, rfl, _, _, _, [], _, [], hW', trodAll_mk1 (shut_bool Try.underlying4 _), (trodAll_cons_mk (Below.trod laidOut (by kernel_rfl) (of_decide_eq_true (by kernel_rfl)) h0 bel lt0) trodAll_mk0), rfl, bel.frame _, fun h => by cases h⟩

theorem over : Rows.addrSpacesRow.holds Try.pinned (OpenSpec.ofChange Rows.addrSpacesSpec) :=
  OpenClaim.holds_of_wide 3 Try.f3 rfl rfl rfl rfl rfl rfl rfl ⟨rfl, rfl, rfl, rfl, rfl⟩ rfl rfl rfl rfl rfl (by kernel_rfl) Try.func3 (by kernel_rfl)
    (of_decide_eq_true (by kernel_rfl)) (by unfold Func.isWrapper; first | (rw [if_pos (by decide +kernel)]; kernel_rfl) | (rw [if_neg (by decide +kernel)]; exact ⟨rfl, rfl⟩))
    (fun os started H enc _ => lifted os started H enc)

theorem proved : Rows.AddrSpacesSaid := over
#print axioms proved
end Go.Proofs.Ytfjcclgambkieaa.addrSpaces
