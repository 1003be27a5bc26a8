/-
  Of a write that waits alone as many octets are done as a crash says, from the first one on, and no others.
-/
import Derived.Test.YtpjdnbmeedcafaaDevAwake
import Derived.Test.YtpjdnbmeedcafaaDevCalm
import Derived.Test.YtpjdnbmeedcafaaOpen
import Derived.Test.YtpjdnbmeedcafaaRows
namespace Go.Proofs.Ytpjdnbmeedcafaa.devTorn
open Go.ChangeShapes Go.WideShapes Go.ChangeAt Go.RowKit
set_option linter.unusedVariables false

def T1 (old : UInt8) : Dv := { newD 2 with pend := [(1, allOf old)] }
def H2 (old : UInt8) : Nat → List UInt8 := upd (newD 2).has 1 ((allOf old).take 128)
def T2 (old : UInt8) : Dv := { newD 2 with has := H2 old }
def T3 (old next : UInt8) : Dv := { T2 old with pend := [(1, allOf next)] }
def T4 (old next : UInt8) (far : Int) : Dv := { newD 2 with has := upd (H2 old) 1 ((allOf next).take (farN [far] 0)), pow := false }
theorem s1 (old : UInt8) : writeE (newD 2) 1 = 0 ∧ writeD (newD 2) 1 (allOf old) = T1 old := ⟨(calm_new 2).writeE rfl, (calm_new 2).writeD rfl _⟩
theorem s2 (old : UInt8) : startE (T1 old) = 0 ∧ flushD (T1 old) = T2 old := by
  have hc : Calm (T1 old) := ⟨rfl, rfl, rfl⟩
  exact ⟨hc.startE, by rw [hc.flushD]; rfl⟩
theorem s3 (old next : UInt8) : writeE (T2 old) 1 = 0 ∧ writeD (T2 old) 1 (allOf next) = T3 old next := by
  have hc : Calm (T2 old) := ⟨rfl, rfl, rfl⟩
  exact ⟨hc.writeE rfl, by rw [hc.writeD rfl]; rfl⟩
theorem c4 (old next : UInt8) (far : Int) : crashD (T3 old next) [far] = T4 old next far := rfl
theorem H2_length (old : UInt8) (i : Nat) : (H2 old i).length = 128 := upd_length (fun _ => by simp [newD]) 1 _ (by simp [allOf]) i
theorem H2_one (old : UInt8) : H2 old 1 = allOf old := by
  unfold H2
  rw [upd_full (fun _ => by simp [newD]) 1 _ (by simp [allOf]), List.take_of_length_le (by simp [allOf])]
theorem torn_at (old next : UInt8) (far : Int) (j : Nat) (hj : j < 128) : ((T4 old next far).has 1)[j]? = some (if (j : Int) < far then next else old) := by
  show (upd (H2 old) 1 ((allOf next).take (farN [far] 0)) 1)[j]? = _
  rw [upd_at (H2_length old) 1 _ (allOf_length next) _ (farN_le _ _), H2_one, allOf_at _ _ hj, allOf_at _ _ hj]
  have hd : farN [far] 0 = (min (max far 0) 128).toNat := rfl
  by_cases h : (j : Int) < far
  · rw [if_pos h, if_pos (by omega)]
  · rw [if_neg h, if_neg (by omega)]

set_option maxRecDepth 100000 in
set_option maxHeartbeats 2000000 in
theorem walk (x0 x1 far : Int) (w : World) (h0 : 0 ≤ x0 ∧ x0 ≤ 255) (h1 : 0 ≤ x1 ∧ x1 ≤ 255) (hf : -9223372036854775808 ≤ far ∧ far ≤ 9223372036854775807) :
    Calls Try.prog 6 #[.int .u8 x0, .int .u8 x1, .int .i64 far] w fun e w' => e = .returned (.bool true) ∧ Below w.heap.size w w' := by
  obtain ⟨old, ho⟩ : ∃ c : UInt8, (c.toNat : Int) = x0 := ⟨UInt8.ofNat x0.toNat, by simp; omega⟩
  obtain ⟨next, hn⟩ : ∃ c : UInt8, (c.toNat : Int) = x1 := ⟨UInt8.ofNat x1.toNat, by simp; omega⟩
  have HO := Lib.hid ho
  have HN := Lib.hid hn
  have HALL0 : Hid (∀ w', Calls Try.prog 11 #[.int .u8 x0] w' fun e w'' => e = .returned (.slice (some ⟨w'.heap.size, 0, none⟩) 128 128) ∧ Bk w'' w'.heap.size 5 ((allOf old).map bv).toArray ∧ Below w'.heap.size w' w'' ∧ w''.heap.size = w'.heap.size + 1) := by rw [← ho]; exact fun w' => All_any old w'
  have HALL1 : Hid (∀ w', Calls Try.prog 11 #[.int .u8 x1] w' fun e w'' => e = .returned (.slice (some ⟨w'.heap.size, 0, none⟩) 128 128) ∧ Bk w'' w'.heap.size 5 ((allOf next).map bv).toArray ∧ Below w'.heap.size w' w'' ∧ w''.heap.size = w'.heap.size + 1) := by rw [← hn]; exact fun w' => All_any next w'
  clear ho hn h0 h1
  go_enter Try.func6, Try.ntmps6
  go_wp2_with fail
  refine (New_yes 2 _ (by omega) (by omega)).mono ?_
  rintro e w1 ⟨sb, bb, mb, rfl, hd, hb⟩
  have HD1 := Lib.hid hd
  have HB1 := Lib.hid hb
  have HS1 := Lib.hid hb.size
  clear hd hb
  go_wp2_with fail
  refine (HALL0.out _).mono ?_
  rintro e w2 ⟨rfl, hbk, hb, _⟩
  have HD2 := Lib.hid (HD1.out.up hb)
  have HB2 := Lib.hid (HB1.out.trans (hb.mono HS1.out))
  have HK := Lib.hid hbk
  have HS2 := Lib.hid HB2.out.size
  clear hbk hb HD1 HB1 HS1
  go_wp2_with fail
  refine (Write_all 1 _ old _ HD2.out HS2.out (by decide) HK.out (by decide)).mono ?_
  rintro e w3 ⟨rfl, pv3, ht⟩
  rw [(s1 old).1]
  rw [(s1 old).2] at ht
  have HB3 := Lib.hid (HB2.out.trans (ht.below HD2.out HS2.out))
  have HS3 := Lib.hid HB3.out.size
  have HD3 := Lib.hid ht.dev
  clear ht HK HD2 HS2 HB2
  go_wp2_with fail
  refine (Flush_any _ HD3.out (by simp [T1])).mono ?_
  rintro e w4 ⟨rfl, pv4, ht⟩
  rw [(s2 old).1]
  rw [(s2 old).2] at ht
  have HB4 := Lib.hid (HB3.out.trans (ht.below HD3.out HS3.out))
  have HS4 := Lib.hid HB4.out.size
  have HD4 := Lib.hid ht.dev
  clear ht HD3 HS3 HB3
  go_wp2_with fail
  refine (HALL1.out _).mono ?_
  rintro e w5 ⟨rfl, hbk, hb, _⟩
  have HD5 := Lib.hid (HD4.out.up hb)
  have HB5 := Lib.hid (HB4.out.trans (hb.mono HS4.out))
  have HK := Lib.hid hbk
  have HS5 := Lib.hid HB5.out.size
  clear hbk hb HD4 HB4 HS4
  go_wp2_with fail
  refine (Write_all 1 _ next _ HD5.out HS5.out (by show 1 < 2; omega) HK.out (by simp [T2, newD])).mono ?_
  rintro e w6 ⟨rfl, pv6, ht⟩
  rw [(s3 old next).1]
  rw [(s3 old next).2] at ht
  have HB6 := Lib.hid (HB5.out.trans (ht.below HD5.out HS5.out))
  have HS6 := Lib.hid HB6.out.size
  have HD6 := Lib.hid ht.dev
  clear ht HK HD5 HS5 HB5
  go_wp2_with fail
  obtain ⟨w7, hw7⟩ : ∃ w7, w6.alloc (.cells #[.int .i64 far] 3) = w7 := ⟨_, rfl⟩
  rw [hw7]
  have hb7 : Below w6.heap.size w6 w7 := by rw [← hw7]; exact (Below.refl _ _).alloc (Nat.le_refl _) _
  have hk7 : Bk w7 w6.heap.size 3 #[.int .i64 far] := by rw [← hw7]; exact Bk.new _ _ _
  have HD7 := Lib.hid (HD6.out.up hb7)
  have HB7 := Lib.hid (HB6.out.trans (hb7.mono HS6.out))
  have HS7 := Lib.hid HB7.out.size
  have hoff := HD7.out.off hk7 (by decide) (by decide) (by decide)
  refine (Crash_any (some ⟨w6.heap.size, 0, none⟩) 1 1 (w6.heap.size + 1) [far] _ HD7.out (by simp [T3]) rfl (fun w' hf j u hu => ?_)).mono ?_
  · have hk5 := hf.bk hk7 hoff
    refine ⟨_, rfl, by show w6.heap.size < _; omega, ?_⟩
    rw [add_plain, hk5.cell]
    match j, hu with
    | 0, hu => simpa [iv] using hu
  rintro e w8 ⟨rfl, pv8, ht⟩
  rw [c4] at ht
  have HB8 := Lib.hid (HB7.out.trans (ht.below HD7.out HS7.out))
  have HS8 := Lib.hid HB8.out.size
  have HD8 := Lib.hid ht.dev
  clear ht hk7 hoff hb7 hw7 HD7 HS7 HB7 HD6 HS6 HB6
  go_wp2_with fail
  refine (Has_yes 1 _ HD8.out (by show 1 < 2; omega)).mono ?_
  rintro e w9 ⟨rfl, hw9⟩
  have hb9 : Below w8.heap.size w8 w9 := by rw [hw9]; exact (Below.refl _ _).alloc (Nat.le_refl _) _
  have hk9 : Bk w9 w8.heap.size 67 (((T4 old next far).has 1).map bv).toArray := by rw [hw9]; exact Bk.new _ _ _
  have HK9 := Lib.hid hk9
  have HD9 := Lib.hid (HD8.out.up hb9)
  have HB9 := Lib.hid (HB8.out.trans (hb9.mono HS8.out))
  obtain ⟨g, hg⟩ : ∃ g, w8.heap.size = g := ⟨_, rfl⟩
  rw [hg] at HK9 ⊢
  clear hb9 hk9 hw9 HD8 HS8 HB8 hg
  go_wp2_with fail
  refine (Power_any _ HD9.out).mono ?_
  rintro e w10 ⟨rfl, rfl⟩
  rw [show (T4 old next far).pow = false from rfl]
  go_wp2_with fail
  go_loopw [11] (fun x wr => ∃ k : Nat, k ≤ 128 ∧ x = .int .i64 (k : Int) ∧ wr = w9) (fun x _ => 128 - (intOf x).toNat)
  case atStart => exact ⟨0, by omega, rfl, rfl⟩
  case round =>
    obtain ⟨k, hk, rfl, rfl⟩ := hrel
    by_cases hlt : k < 128
    · by_cases hfar : (k : Int) < far
      · have hc : wr.cell? ⟨g, k, none⟩ = some (.int .u8 x1) := by
          rw [HK9.out.cell]
          rw [List.getElem?_toArray, List.getElem?_map, torn_at old next far k hlt, if_pos hfar]
          show some (bv next) = _
          rw [bv, HN.out]
        go_wp2_with fail
        go_roundw
        case rel => exact ⟨k + 1, by omega, by go_num, trivial⟩
        case measure => simp [intOf]; omega
      · have hc : wr.cell? ⟨g, k, none⟩ = some (.int .u8 x0) := by
          rw [HK9.out.cell]
          rw [List.getElem?_toArray, List.getElem?_map, torn_at old next far k hlt, if_neg hfar]
          show some (bv old) = _
          rw [bv, HO.out]
        go_wp2_with fail
        go_roundw
        case rel => exact ⟨k + 1, by omega, by go_num, trivial⟩
        case measure => simp [intOf]; omega
    · obtain rfl : k = 128 := by omega
      go_wp2_with fail
      refine (awake_any _).mono ?_
      rintro e w11 ⟨rfl, hb⟩
      have HB11 := Lib.hid (HB9.out.trans (hb.mono HB9.out.size))
      clear hb
      go_wp2
      go_ret
      exact ⟨rfl, HB11.out⟩

set_option maxRecDepth 100000 in
theorem lifted (os : Os) (started : os.Started) (H : Type) (enc : TypeId × Value → H) :
    ReturnsInHanded {} Try.checked os 6 .any (Rows.devTornSpec.pre6 enc Try.prog Try.f6 Rows.devTornRow.domain false) (Rows.devTornSpec.post enc Try.prog Try.f6 false true false false) := by
  refine returnsInHanded_of_change (C := Try.checked) own started (by kernel_rfl) Try.func6
    (ChangeSpec.witness6 (enc := enc) (C := Try.checked) false ⟨#[], #[.int .u8 0, .int .u8 0, .int .i64 0], []⟩ 8 (by kernel_rfl) (by kernel_rfl) (by kernel_rfl) (by kernel_rfl)) ?_
  intro W base args ds gs before hval0 hW hcnd _
  have hval : ∀ (j : Nat) t v, Try.f6.params[j]? = some t → args[j]? = some v → Value.okWide Try.prog W .any base t v := hval0
  have hW' := hW
  obtain ⟨p, q, hA0, hV, rfl, hfz, hnd⟩ := hW
  have hA : DataW.TrodAll enc Try.prog W 0 (fun _ => true) true Try.f6.params.toList args.toList ds p := hA0
  rw [Try.params6] at hA hval
  obtain ⟨v0, vs0, d0, ds0, p0, q0, hargs, rfl, rfl, h0, r0⟩ := trodAll_cons hA
  obtain ⟨v1, vs1, d1, ds1, p1, q1, rfl, rfl, rfl, h1, r1⟩ := trodAll_cons r0
  obtain ⟨v2, vs2, d2, ds2, p2, q2, rfl, rfl, rfl, h2, r2⟩ := trodAll_cons r1
  obtain ⟨rfl, rfl, rfl⟩ := trodAll_nil r2
  obtain rfl : args = #[v0, v1, v2] := by cases args; simp_all
  obtain ⟨rfl, rfl⟩ := trodVars_none hV
  obtain ⟨x0, rfl, rfl, rfl, wx0⟩ := open_int Try.underlying5 (hval 0 5 v0 rfl rfl) h0
  have hx0 := bounds_u8 wx0
  obtain ⟨x1, rfl, rfl, rfl, wx1⟩ := open_int Try.underlying5 (hval 1 5 v1 rfl rfl) h1
  have hx1 := bounds_u8 wx1
  obtain ⟨x2, rfl, rfl, rfl, wx2⟩ := open_int Try.underlying3 (hval 2 3 v2 rfl rfl) h2
  have hx2 := bounds_i64 wx2
  clear hA0 hval0
  refine (walk x0 x1 x2 W hx0 hx1 hx2).mono fun e W' ⟨he, bel⟩ => ?_
  subst he
  exact ⟨_, rfl, _, _, _, [], _, [], hW', trodAll_mk1 (shut_bool Try.underlying4 _), (trodAll_cons_mk (shut_int Try.underlying5 wx0) (trodAll_cons_mk (shut_int Try.underlying5 wx1) (trodAll_cons_mk (shut_int Try.underlying3 wx2) trodAll_mk0))), rfl, bel.frame _, fun h => by cases h⟩

theorem over : Rows.devTornRow.holds Try.pinned (OpenSpec.ofChange Rows.devTornSpec) :=
  OpenClaim.holds_of_wide 6 Try.f6 rfl rfl rfl rfl rfl rfl rfl ⟨rfl, rfl, rfl, rfl, rfl⟩ rfl rfl rfl rfl rfl (by kernel_rfl) Try.func6 (by kernel_rfl)
    (of_decide_eq_true (by kernel_rfl)) (by unfold Func.isWrapper; first | (rw [if_pos (by decide +kernel)]; kernel_rfl) | (rw [if_neg (by decide +kernel)]; exact ⟨rfl, rfl⟩))
    (fun os started H enc _ => lifted os started H enc)

theorem proved : Rows.DevTornSaid := over
#print axioms proved
end Go.Proofs.Ytpjdnbmeedcafaa.devTorn
