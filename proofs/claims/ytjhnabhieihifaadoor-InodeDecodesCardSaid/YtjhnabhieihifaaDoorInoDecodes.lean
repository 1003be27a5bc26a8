/-
  Whatever octets there are, of whatever number, inode.Decode answers the document's inode, or refuses them with its error. Conditions: crc.halves holds what its text lays, tied to the program.
-/
import Derived.Test.YtjhnabhieihifaaDoorInoEq
import Derived.Test.YtjhnabhieihifaaDoorRef07b
import Derived.Test.YtjhnabhieihifaaDoorRef07c
import Derived.Test.YtjhnabhieihifaaDoorRef07d
import Derived.Test.YtjhnabhieihifaaDoorCrcTab
import Derived.Test.YtjhnabhieihifaaDoorOpenIno
import Derived.Test.YtjhnabhieihifaaDoorCards
import Derived.Test.YtjhnabhieihifaaDoorTie
import Derived.SevenTiedAt
import Derived.Deep.RegionHeld3
import Derived.BigQuiet
namespace Go.Proofs.YtjhnabhieihifaaDoor.inodeDecodes
open Go.ChangeShapes Go.WideShapes Go.ChangeAt Go.RowKit
set_option maxRecDepth 100000
set_option linter.unusedVariables false

set_option maxHeartbeats 2000000 in
theorem walk (m : Int) (A : Option Addr) (n c : Nat) (bs0 : List UInt8) (w : World) (hn : bs0.length = n) (hc : n ≤ c) (hcm : c ≤ maxLen) (hr : Rd w w.heap.size A (bs0.map bv)) (ht : Tab w) :
    Calls Tryd.prog 4 #[.int .i64 m, .slice A n c] w fun e w' => e = .returned (.bool true) ∧ Below w.heap.size w w' := by
  obtain ⟨bs, hbs⟩ : ∃ bs, bs0.take 200 = bs := ⟨_, rfl⟩
  obtain ⟨k, hk⟩ : ∃ k, bs.length = k := ⟨_, rfl⟩
  obtain ⟨hkn, hk2⟩ := fit200 hn hbs hk
  have HF := Lib.hid (fewI_any w.heap.size A n k c bs0 w hn (by rw [hbs, hk]) hr hc hcm)
  have hR : Rd w w.heap.size A (bs.map bv) := by rw [← hbs, List.map_take]; exact hr.take 200
  obtain ⟨q, hq⟩ : ∃ q, decIQ m bs = q := ⟨_, rfl⟩
  obtain ⟨x, hx⟩ : ∃ x, decIR m bs = x := ⟨_, rfl⟩
  have HX9 : Hid (x.p.length = 9) := by show _ = _; rw [← hx]; exact decIR_p m bs
  have HXI : Hid (inoI x) := by show inoI x; rw [← hx]; exact inoI_decR m bs
  have HT := Lib.hid ht
  have HDE := Lib.hid (inoDecode_any m A k c bs q x w hk hR (by omega) hcm ht hq hx)
  have HC : Hid (∀ w', Below w.heap.size w w' → (convert 28 9 (.slice A k c)).run Tryd.prog w' = .ok (.string (str bs)) w') := fun w' hb =>
    run_conv 28 5 9 Tryd.underlying28 Tryd.underlying5 under_strI k c hk (hR.below hb)
  have HRD : Hid (∀ w', Calls Tryd.prog 15 #[.int .i64 m, .string (str bs)] w' fun e w'' => e = .returned (.tuple #[.agg (inoC x), .int .i64 q]) ∧ Below w'.heap.size w' w'') := fun w' => refDecodeI_any m bs q x w' (by omega) hq hx
  clear hn hc hcm hr ht hbs hk hkn hk2 hR hq hx
  go_enter Tryd.func4, Tryd.ntmps4
  go_wp2_with fail
  refine HF.out.mono ?_
  rintro e w0 ⟨rfl, rfl⟩
  go_wp2_with fail
  refine HDE.out.mono ?_
  rintro e w1 ⟨rfl, hb1⟩
  have X1 := Lib.hid (layI_new w1)
  have HB2 := Lib.hid (hb1.trans (layI_below w1 x hb1.size))
  have hcv := HC.out _ HB2.out
  rw [layI_def] at hcv
  clear hb1 HDE HF
  go_wp2_with (refine wpList_store_ino rfl _ _ rfl w1.heap.size _ _ x rfl rfl HX9.out rfl X1.out ?_)
  refine (HRD.out _).mono ?_
  rintro e w3 ⟨rfl, hb3⟩
  rw [← layI_def] at hb3
  have X3 := Lib.hid (layI_new w3)
  have HB3 := Lib.hid (HB2.out.trans (hb3.mono HB2.out.size))
  have HB4 := Lib.hid (HB3.out.trans (layI_below w3 x HB3.out.size))
  have KX := ((layI_bk w1 x).below hb3 (layI_bk w1 x).lt).layI x
  have KY := layI_bk w3 x
  rw [layI_def] at KX KY
  have KX := Lib.hid KX
  have KY := Lib.hid KY
  clear hb3 hcv X1
  go_wp2_with (first | (refine wpList_store_ino rfl _ _ rfl w3.heap.size _ _ x rfl rfl HX9.out rfl X3.out ?_) | (refine wpList_load_ino rfl _ rfl w1.heap.size _ x rfl HX9.out KX.out ?_) | (refine wpList_load_ino rfl _ rfl w3.heap.size _ x rfl HX9.out KY.out ?_) | (refine wpList_eql_ino rfl _ _ _ rfl x x true rfl rfl HX9.out HX9.out HXI.out HXI.out ⟨fun _ => rfl, fun _ => rfl⟩ ?_))
  rw [← layI_def]
  refine (awakeI_any _ (HT.out.up HB4.out)).mono ?_
  rintro e w7 ⟨rfl, hb7⟩
  have HB7 := Lib.hid (HB4.out.trans (hb7.mono HB4.out.size))
  clear hb7
  go_wp2
  go_ret
  exact ⟨rfl, HB7.out⟩

set_option maxRecDepth 100000 in
theorem lifted (os : Os) (started : os.Started) (H : Type) (enc : TypeId × Value → H) :
    ReturnsInHanded {} Tryd.checked os 4 .any (fun w args => (Rows.inodeDecodesSpec.pre enc Tryd.prog Tryd.f4 [] false w args ∧ laidMetH Tryd.prog laidHalves w) ∧ sizedMet enc Tryd.prog Tryd.f4 (OpenSpec.ofChange Rows.inodeDecodesSpec) false w args) (Rows.inodeDecodesSpec.post enc Tryd.prog Tryd.f4 false true false false) := by
  refine returnsInHanded_of_change_and (C := Tryd.checked) (X := fun w _ => laidMetH Tryd.prog laidHalves w) (fun _ _ _ hh h => h.of_heap hh) own started (by kernel_rfl) Tryd.func4
    (ChangeSpec.witness_shaped (enc := enc) (C := Tryd.checked) (os := os) (X := fun w _ => laidMetH Tryd.prog laidHalves w) false (World.doorLaid Tryd.prog 400 os) #[.int .i64 0, .slice none 0 0] 8 rfl (World.shaped_of_RefB (by kernel_rfl) (by kernel_rfl)) (by kernel_rfl) (by kernel_rfl) (by kernel_rfl) (door_met os _)) ?_
  intro W base args ds gs before hval0 hW _ _ hL _
  have hTab := tab_of_laid hL
  have hval : ∀ (j : Nat) t v, Tryd.f4.params[j]? = some t → args[j]? = some v → Value.okWide Tryd.prog W .any base t v := hval0
  have hW' := hW
  obtain ⟨p, q, hA0, hV, rfl, hfz, hnd⟩ := hW
  have hA : DataW.TrodAll enc Tryd.prog W 0 (fun _ => true) true Tryd.f4.params.toList args.toList ds p := hA0
  rw [Tryd.params4] at hA hval
  obtain ⟨v0, vs0, d0, ds0, p0, q0, hargs, rfl, rfl, h0, r0⟩ := trodAll_cons hA
  obtain ⟨v1, vs1, d1, ds1, p1, q1, rfl, rfl, rfl, h1, r1⟩ := trodAll_cons r0
  obtain ⟨rfl, rfl, rfl⟩ := trodAll_nil r1
  obtain rfl : args = #[v0, v1] := by cases args; simp_all
  obtain ⟨rfl, rfl⟩ := trodVars_none hV
  obtain ⟨x0, rfl, rfl, rfl, wx0⟩ := open_int Tryd.underlying3 (hval 0 3 v0 rfl rfl) h0
  have hx0 := bounds_i64 wx0
  obtain ⟨a1, len1, cap1, rfl⟩ := okWide_slice Tryd.underlying28 (hval 1 28 v1 rfl rfl)
  have lt1 : ∀ x ∈ p1, x.block < W.heap.size := by obtain ⟨m, hm⟩ := h1; exact DataW.trod_lt m _ _ _ hm
  obtain ⟨x1, rfl, hc1, hm1, hr1⟩ := bytes_in Tryd.underlying28 Tryd.underlying5 (by kernel_rfl) h1
  clear hA0 hval0
  refine (walk x0 a1 _ cap1 x1 W rfl hc1 hm1 hr1 hTab).mono fun e W' ⟨he, bel⟩ => ?_
  subst he
  exact ⟨_, rfl, _, _, _, [], _, [], hW', trodAll_mk1 (shut_bool Tryd.underlying4 _), (trodAll_cons_mk (shut_int Tryd.underlying3 wx0) (trodAll_cons_mk (Below.trod laidOut (by kernel_rfl) (of_decide_eq_true (by kernel_rfl)) h1 bel lt1) trodAll_mk0)), rfl, bel.frame _, fun h => by cases h⟩

theorem over : Rows.inodeDecodesRow.holds Tryd.pinned (OpenSpec.ofChange Rows.inodeDecodesSpec) :=
  OpenClaim.holds_of_wide 4 Tryd.f4 rfl rfl rfl rfl rfl rfl rfl ⟨rfl, rfl, rfl, rfl, rfl⟩ rfl rfl rfl rfl rfl (by kernel_rfl) Tryd.func4 (by kernel_rfl)
    (of_decide_eq_true (by kernel_rfl)) (by unfold Func.isWrapper; first | (rw [if_pos (by decide +kernel)]; kernel_rfl) | (rw [if_neg (by decide +kernel)]; exact ⟨rfl, rfl⟩))
    (fun os started H enc _ => lifted os started H enc)

theorem proved : Rows.InodeDecodesCardSaid :=
  Claim7.holds_tied_plain_at .later [] [.data] true _ false
    over (fun _ h => by cases h) (by kernel_rfl) (fun _ h => by cases h) inodeDecodes_row_tie rfl ⟨rfl, rfl⟩ (by kernel_rfl) rfl
    (fun f fn hf hfn => by
      obtain rfl : f = 4 := Option.some.inj ((show Tryd.prog.funcNamed "haymow/haymowlaw07.InodeDecodes" = some 4 by kernel_rfl).symm.trans hf) |>.symm
      obtain rfl : fn = Tryd.f4 := (Option.some.inj (Tryd.func4.symm.trans hfn)).symm
      exact ⟨by kernel_rfl, fun j t ht => by
        rw [Tryd.params4] at ht
        have hm : t ∈ [3, 28] := by simpa using Array.mem_of_getElem? ht
        have hall : ([3, 28].all fun u => !Tryd.prog.wantsStandIn u) = true := by kernel_rfl
        exact (show Tryd.prog.wantsStandIn t = false by simpa using List.all_eq_true.1 hall t hm)⟩)
    (by kernel_rfl)
#print axioms proved
end Go.Proofs.YtjhnabhieihifaaDoor.inodeDecodes
