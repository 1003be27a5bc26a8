/-
  What inode.ReadNode, To, Points do. (Printed by wip/tools/ino6.py.)
-/
import Derived.Test.YtnipfonglheofaaDoorIno5
namespace Go.Proofs.YtnipfonglheofaaDoor
open Go.RowKit
set_option maxRecDepth 100000
set_option linter.unusedVariables false

theorem zeros30 : #[.int .i64 0, .int .u32 0, .int .i64 0, .int .u32 0, .int .i64 0, .int .u32 0, .int .i64 0, .int .u32 0, .int .i64 0, .int .u32 0, .int .i64 0, .int .u32 0, .int .i64 0, .int .u32 0, .int .i64 0, .int .u32 0, .int .i64 0, .int .u32 0, .int .i64 0, .int .u32 0, .int .i64 0, .int .u32 0, .int .i64 0, .int .u32 0, .int .i64 0, .int .u32 0, .int .i64 0, .int .u32 0, .int .i64 0, .int .u32 0] = prsC (List.replicate 15 ⟨0, 0⟩) := rfl
theorem nodR_not {b : List UInt8} (h : nodQ b ≠ 0) : nodR b = [] := by rw [nodR, if_neg h]

theorem inoRead_short (A : Option Addr) (n c : Nat) (bs : List UInt8) (w : World) (hl : bs.length = n) (hr : Rd w w.heap.size A (bs.map bv)) (hc : n ≤ c) (hh : heldB bs = false) (hT : Tab w) :
    Calls Tryd.prog 11 #[.slice A n c] w fun e w' => e = .returned (.tuple #[.slice none 0 0, .int .i64 5]) ∧ Below w.heap.size w w' := by
  have HH := Lib.hid (Held_any w.heap.size A n c bs false w hr (Nat.le_refl _) hl hc hh hT)
  clear hl hr hh hT
  go_enter Tryd.func11, Tryd.ntmps11
  go_wp2_with fail
  refine HH.out.mono ?_
  rintro e w1 ⟨rfl, hb1⟩
  have HB1 := Lib.hid hb1
  clear hb1
  go_wp2
  go_ret2
  exact ⟨rfl, HB1.out⟩

set_option maxHeartbeats 4000000 in
theorem inoRead_held (A : Option Addr) (c : Nat) (bs : List UInt8) (q : Int) (l : List Pr) (w : World) (hl : bs.length = 128) (hr : Rd w w.heap.size A (bs.map bv)) (hc : 128 ≤ c) (hcm : c ≤ maxLen) (hh : heldB bs = true) (hT : Tab w) (hq : nodQ bs = q) (hx : nodR bs = l) :
    Calls Tryd.prog 11 #[.slice A 128 c] w fun e w' => ∃ A' n' c', e = .returned (.tuple #[.slice A' n' c', .int .i64 q]) ∧ l.length = n' ∧ n' ≤ c' ∧ c' ≤ 15 ∧ Rd w' w'.heap.size A' (prsV l) ∧ Below w.heap.size w w' := by
  have HR := Lib.hid hr
  have HL := Lib.hid hl
  have HTW := Lib.hid hT
  have HH := Lib.hid (Held_any w.heap.size A 128 c bs true w hr (Nat.le_refl _) hl hc hh hT)
  have HHB := Lib.hid hh
  have HQ := Lib.hid hq
  have HX := Lib.hid hx
  clear hl hr hh hT hq hx
  go_enter Tryd.func11, Tryd.ntmps11
  go_wp2_with fail
  refine HH.out.mono ?_
  rintro e w1 ⟨rfl, hb1⟩
  have HB1 := Lib.hid hb1
  clear hb1 HH
  have P2 := Lib.hid (Bk.new w1 63 (prsC (List.replicate 15 ⟨0, 0⟩)))
  have HB2 := Lib.hid (HB1.out.alloc HB1.out.size (.cells (prsC (List.replicate 15 ⟨0, 0⟩)) 63))
  obtain ⟨w2, hw2⟩ : ∃ w2, w1.alloc (.cells (prsC (List.replicate 15 ⟨0, 0⟩)) 63) = w2 := ⟨_, rfl⟩
  rw [hw2] at P2 HB2
  obtain ⟨g1, hg1⟩ : ∃ g1, w1.heap.size = g1 := ⟨_, rfl⟩
  rw [hg1] at P2
  have HG1 : Hid (w.heap.size ≤ g1) := by show _ ≤ _; rw [← hg1]; exact HB1.out.size
  rw [← zeros30] at hw2
  have HW2 := Lib.hid hw2
  clear hw2
  go_wp2_with fail
  rw [HW2.out]
  refine (inoWidths_any 15 w2.heap.size none 0 0 [] w2 rfl (by omega) (by omega) Rd.nil_ (Nat.le_refl _)).mono ?_
  rintro e w4 ⟨A4, c4, rfl, hr4, hb4⟩
  have P4 := Lib.hid (P2.out.below hb4 P2.out.lt)
  have HB4 := Lib.hid (HB2.out.trans (hb4.mono HB2.out.size))
  have HR4 := Lib.hid (show Rd w4 w4.heap.size A4 (nodeW.map iv) from hr4)
  have HRB4 := Lib.hid ((HR.out.below HB4.out).mono HB4.out.size)
  clear hb4 hr4 P2
  go_wp2_with fail
  refine (inoUnpack_new w4.heap.size A A4 128 c 30 c4 bs nodeW (prsN (nodP bs)) w4 HL.out rfl (by have := unp_node HL.out; rwa [HL.out] at this) (nums_node bs) HRB4.out HR4.out (Nat.le_refl _) hc hcm (by omega)).mono ?_
  rintro e w5 ⟨A5, c5, rfl, hc5, hcm5, hr5, hne5, hb5⟩
  have P5 := Lib.hid (P4.out.below hb5 P4.out.lt)
  have HB5 := Lib.hid (HB4.out.trans (hb5.mono HB4.out.size))
  have HR5 := Lib.hid hr5
  have HNE : Hid (∀ ad, A5 = some ad → ad.block ≠ g1) := fun ad e => by have := hne5 ad e; have := P4.out.lt; omega
  clear hb5 hr5 hne5 P4 HR4 HRB4
  go_wp2_with fail
  refine (inoSet_any g1 63 _ 15 w5.heap.size A5 c5 (nodP bs) w5 (nodP_length bs) (by omega) P5.out (prsC_size _) HR5.out HNE.out (prsAt_words _ _ _)).mono ?_
  rintro e w6 ⟨rfl, hp6, ho6⟩
  have HB6 := Lib.hid (HB5.out.trans (ho6.1.mono HG1.out))
  have P6 := Lib.hid hp6
  have HRB6 := Lib.hid ((HR.out.below HB6.out).mono HB6.out.size)
  obtain ⟨t, ht⟩ : ∃ t, (nodP bs).all prOk = t := ⟨_, rfl⟩
  have HOK := Lib.hid ht
  have HQ2 : Hid (q = (if t && (nodB (nodP bs) == bs) then 0 else 3)) := by
    show _ = _
    rw [← HQ.out, nodQ, HHB.out, ht]
    rfl
  clear hp6 ho6 P5 HB5 HR5 HNE ht
  go_wp2_with fail
  cases t
  · obtain rfl : q = 3 := HQ2.out
    obtain rfl : l = [] := by rw [← HX.out]; exact nodR_not (by rw [HQ.out]; decide)
    refine (node_no w6.heap.size (some ⟨g1, 0, none⟩) 15 15 (nodP bs) w6 (nodP_length bs) (by omega) (prs_bk P6.out) (Nat.le_refl _) (.inr HOK.out)).mono ?_
    rintro e w7 ⟨rfl, hb7⟩
    have HB7 := Lib.hid (HB6.out.trans (hb7.mono HB6.out.size))
    clear hb7
    go_wp2
    go_ret2
    exact ⟨none, 0, 0, rfl, rfl, Nat.le_refl _, by omega, Rd.nil_, HB7.out⟩
  · obtain ⟨u, hu⟩ : ∃ u, (nodB (nodP bs) == bs) = u := ⟨_, rfl⟩
    have HU := Lib.hid hu
    have HQ3 : Hid (q = (if u then 0 else 3)) := by show _ = _; rw [HQ2.out, hu]; rfl
    clear hu
    refine (node_yes w6.heap.size (some ⟨g1, 0, none⟩) 15 (nodP bs) w6 (nodP_length bs) (prs_bk P6.out) (Nat.le_refl _) HOK.out (prsAt_sums _ _ _) (HTW.out.up HB6.out)).mono ?_
    rintro e w7 ⟨g7, rfl, hg7, hbk7, hb7⟩
    have HB7 := Lib.hid (HB6.out.trans (hb7.mono HB6.out.size))
    have P7 := Lib.hid (P6.out.below hb7 P6.out.lt)
    have HRB7 := Lib.hid ((HRB6.out.below hb7).mono hb7.size)
    have HBK7 := Lib.hid hbk7
    clear hb7 hg7 hbk7 P6 HB6 HRB6
    go_wp2_with fail
    refine (inoEqual_any w7.heap.size w7.heap.size (some ⟨g7, 0, none⟩) A 128 128 128 c (nodB (nodP bs)) bs u w7 (nodB_len _ (nodP_length bs)) HL.out (by simpa using Rd.bk HBK7.out) HRB7.out HU.out).mono ?_
    rintro e w8 ⟨rfl, rfl⟩
    cases u
    · obtain rfl : q = 3 := HQ3.out
      obtain rfl : l = [] := by rw [← HX.out]; exact nodR_not (by rw [HQ.out]; decide)
      go_wp2
      go_ret2
      exact ⟨none, 0, 0, rfl, rfl, Nat.le_refl _, by omega, Rd.nil_, HB7.out⟩
    · obtain rfl : q = 0 := HQ3.out
      obtain rfl : l = nodP bs := by rw [← HX.out, nodR, if_pos HQ.out]
      go_wp2
      go_ret2
      exact ⟨_, 15, 15, rfl, nodP_length bs, Nat.le_refl _, Nat.le_refl _, prs_bk P7.out, HB7.out⟩

theorem inoRead_any (A : Option Addr) (n c : Nat) (bs : List UInt8) (q : Int) (l : List Pr) (w : World) (hl : bs.length = n) (hr : Rd w w.heap.size A (bs.map bv)) (hc : n ≤ c) (hcm : c ≤ maxLen) (hT : Tab w) (hq : nodQ bs = q) (hx : nodR bs = l) :
    Calls Tryd.prog 11 #[.slice A n c] w fun e w' => ∃ A' n' c', e = .returned (.tuple #[.slice A' n' c', .int .i64 q]) ∧ l.length = n' ∧ n' ≤ c' ∧ c' ≤ 15 ∧ Rd w' w'.heap.size A' (prsV l) ∧ Below w.heap.size w w' := by
  cases hh : heldB bs with
  | true =>
    obtain rfl : n = 128 := hl.symm.trans (heldB_128 hh)
    exact inoRead_held A c bs q l w hl hr hc hcm hh hT hq hx
  | false =>
    obtain rfl : 5 = q := by rw [← hq, nodQ, hh]; rfl
    obtain rfl : [] = l := by rw [← hx]; exact (nodR_not (by rw [hq]; decide)).symm
    refine (inoRead_short A n c bs w hl hr hc hh hT).mono ?_
    rintro e w1 ⟨rfl, hb⟩
    exact ⟨none, 0, 0, rfl, rfl, Nat.le_refl _, by omega, Rd.nil_, hb⟩

theorem inoTo_no (x : Int) (A : Option Addr) (n c : Nat) (w : World) (hn : n ≤ 9223372036854775807) (h : ¬ (1 ≤ x ∧ x ≤ 2147483647) ∨ n ≠ 128) :
    Calls Tryd.prog 9 #[.int .i64 x, .slice A n c] w fun e w' => e = .returned (.tuple #[.agg #[.int .i64 0, .int .u32 0], .int .i64 1]) ∧ Below w.heap.size w w' := by
  have K0 := Bk.new w 29 #[.int .i64 0, .int .u32 0]
  obtain ⟨k0, k1, f0, f1⟩ := ino_cells2 K0
  obtain ⟨p0, p1, p2, _⟩ := ino_puts2 K0 (.int .i64 0) (.int .u32 0)
  have HB0 := Lib.hid ((Below.refl w.heap.size w).alloc (Nat.le_refl _) (.cells #[.int .i64 0, .int .u32 0] 29))
  by_cases hx : 1 ≤ x ∧ x ≤ 2147483647
  · have hne : ((n : Int) == 128) = false := by have := h.resolve_left (fun h => h hx); simp; omega
    have HW := Lib.hid (decide_eq_true hx)
    clear h hx K0
    go_enter Tryd.func9, Tryd.ntmps9
    go_wp2_with fail
    refine (inoWithin_any _ _ _ true _ HW.out).mono ?_
    rintro e w1 ⟨rfl, rfl⟩
    go_wp2
    refine bodyPost_ret (v := .tuple #[.agg #[.int .i64 0, .int .u32 0], .int .i64 1]) (by simp [results, Tryd.results9, go_sem]) rfl ⟨rfl, ?_⟩
    exact HB0.out
  · have HW := Lib.hid (decide_eq_false hx)
    clear h hx K0
    go_enter Tryd.func9, Tryd.ntmps9
    go_wp2_with fail
    refine (inoWithin_any _ _ _ false _ HW.out).mono ?_
    rintro e w1 ⟨rfl, rfl⟩
    go_wp2
    refine bodyPost_ret (v := .tuple #[.agg #[.int .i64 0, .int .u32 0], .int .i64 1]) (by simp [results, Tryd.results9, go_sem]) rfl ⟨rfl, ?_⟩
    exact HB0.out

set_option maxHeartbeats 1000000 in
theorem inoTo_yes (x : Int) (A : Option Addr) (c s : Nat) (bs : List UInt8) (w : World) (hl : bs.length = 128) (hr : Rd w w.heap.size A (bs.map bv)) (hx : 1 ≤ x ∧ x ≤ 2147483647) (hs : sumN bs = s) (hT : Tab w) :
    Calls Tryd.prog 9 #[.int .i64 x, .slice A 128 c] w fun e w' => e = .returned (.tuple #[.agg #[.int .i64 x, .int .u32 (s : Int)], .int .i64 0]) ∧ Below w.heap.size w w' := by
  have K0 := Bk.new w 29 #[.int .i64 0, .int .u32 0]
  have HB0 := Lib.hid ((Below.refl w.heap.size w).alloc (Nat.le_refl _) (.cells #[.int .i64 0, .int .u32 0] 29))
  have K1 := Lib.hid (K0.alloc (.cells #[.slice A 128 c] 38))
  have HB1 := Lib.hid (HB0.out.alloc HB0.out.size (.cells #[.slice A 128 c] 38))
  have HN := Rd.new (w.alloc (.cells #[.int .i64 0, .int .u32 0] 29)) 38 #[.slice A 128 c] (0, 0)
  rw [World.alloc_size'] at HN
  have HN := Lib.hid HN
  have HW := Lib.hid (decide_eq_true hx)
  have HR := Lib.hid hr
  have HL := Lib.hid hl
  have HS := Lib.hid hs
  have HT := Lib.hid hT
  clear hx hr hl hs hT K0
  go_enter Tryd.func9, Tryd.ntmps9
  go_wp2_with fail
  refine (inoWithin_any _ _ _ true _ HW.out).mono ?_
  rintro e w1 ⟨rfl, rfl⟩
  go_wp2_with fail
  refine (Sum_one (w.heap.size + 1 + 1) _ A 1 c 128 s bs _ HL.out HS.out (by omega) HN.out ((HR.out.below HB1.out).mono (by omega)) (HT.out.up HB1.out)).mono ?_
  rintro e w1 ⟨rfl, rfl⟩
  obtain ⟨k0, k1, f0, f1⟩ := ino_cells2 K1.out
  obtain ⟨p0, p1, p2, _⟩ := ino_puts2 K1.out (.int .i64 x) (.int .u32 (s : Int))
  go_wp2
  refine bodyPost_ret (v := .tuple #[.agg #[.int .i64 x, .int .u32 (s : Int)], .int .i64 0]) (by simp [results, Tryd.results9, go_sem]) rfl ⟨rfl, ?_⟩
  exact ((Below.refl _ _).alloc (Nat.le_refl _) _).alloc (by simp) _

/-- a new slice of one slice -/
def InoRow (base : Nat) (x : Value) (v : Value) (w : World) : Prop := ∃ g : Nat, v = .slice (some ⟨g, 0, none⟩) 1 1 ∧ base ≤ g ∧ Bk w g 38 #[x]
theorem InoRow.up {base : Nat} {x v : Value} {w w' : World} (h : InoRow base x v w) (hb : Below w.heap.size w w') : InoRow base x v w' := by
  obtain ⟨g, rfl, hg, hr⟩ := h
  exact ⟨g, rfl, hg, hr.below hb hr.lt⟩
def slotPA (i : Nat) : Nat := 5 + i
def waitPA : Nat → List Nat
  | 1 => [0]
  | 2 => [1]
  | 3 => [2]
  | 4 => [3]
  | 5 => [3, 4]
  | 6 => [3, 5]
  | 7 => [3, 6]
  | 8 => [7]
  | 9 => [8]
  | 10 => [8, 9]
  | 11 => [8, 10]
  | 12 => [8]
  | 13 => [8, 12]
  | 14 => [8, 11, 13]
  | 15 => [8, 14]
  | 16 => [15]
  | _ => []
def leavePA (B0 g : Nat) (x : Int) (y : Nat) (A : Option Addr) (n c sm : Nat) (u : Bool) : Nat → Value → World → Prop
  | 0, v, _ => v = .pointer (some ⟨g, 0, none⟩)
  | 1, v, _ => v = .int .i64 x
  | 2, v, _ => v = .bool false
  | 3, v, _ => v = .bool false
  | 4, v, _ => v = undef
  | 5, v, _ => v = undef
  | 6, v, _ => v = undef
  | 7, v, _ => v = .bool false
  | 8, v, _ => v = .bool false
  | 9, v, _ => v = undef
  | 10, v, _ => v = undef
  | 11, v, _ => v = undef
  | 12, v, _ => v = undef
  | 13, v, _ => v = undef
  | 14, v, _ => v = undef
  | 15, v, _ => v = .bool false
  | _, _, _ => True
theorem leavePA_mono (B0 g : Nat) (x : Int) (y : Nat) (A : Option Addr) (n c sm : Nat) (u : Bool) (w0 : World) (i : Nat) (v' : Value) (w w' : World) (_ : Below w0.heap.size w0 w) (hb : Below w.heap.size w w') (h : leavePA B0 g x y A n c sm u i v' w) : leavePA B0 g x y A n c sm u i v' w' := by
  unfold leavePA at *
  split at h <;> first | exact h | exact InoRow.up h hb

def slotPB (i : Nat) : Nat := 5 + i
def waitPB : Nat → List Nat
  | 1 => [0]
  | 2 => [1]
  | 3 => [2]
  | 4 => [3]
  | 5 => [3, 4]
  | 6 => [3, 5]
  | 7 => [3, 6]
  | 8 => [7]
  | 9 => [8]
  | 10 => [8, 9]
  | 11 => [8, 10]
  | 12 => [8]
  | 13 => [8, 12]
  | 14 => [8, 11, 13]
  | 15 => [8, 14]
  | 16 => [15]
  | _ => []
def leavePB (B0 g : Nat) (x : Int) (y : Nat) (A : Option Addr) (n c sm : Nat) (u : Bool) : Nat → Value → World → Prop
  | 0, v, _ => v = .pointer (some ⟨g, 0, none⟩)
  | 1, v, _ => v = .int .i64 x
  | 2, v, _ => v = .bool true
  | 3, v, _ => v = .bool true
  | 4, v, _ => v = .slice A n c
  | 5, v, _ => v = .int .i64 (n : Int)
  | 6, v, _ => v = .bool false
  | 7, v, _ => v = .bool false
  | 8, v, _ => v = .bool false
  | 9, v, _ => v = undef
  | 10, v, _ => v = undef
  | 11, v, _ => v = undef
  | 12, v, _ => v = undef
  | 13, v, _ => v = undef
  | 14, v, _ => v = undef
  | 15, v, _ => v = .bool false
  | _, _, _ => True
theorem leavePB_mono (B0 g : Nat) (x : Int) (y : Nat) (A : Option Addr) (n c sm : Nat) (u : Bool) (w0 : World) (i : Nat) (v' : Value) (w w' : World) (_ : Below w0.heap.size w0 w) (hb : Below w.heap.size w w') (h : leavePB B0 g x y A n c sm u i v' w) : leavePB B0 g x y A n c sm u i v' w' := by
  unfold leavePB at *
  split at h <;> first | exact h | exact InoRow.up h hb

def slotPC (i : Nat) : Nat := 5 + i
def waitPC : Nat → List Nat
  | 1 => [0]
  | 2 => [1]
  | 3 => [2]
  | 4 => [3]
  | 5 => [3, 4]
  | 6 => [3, 5]
  | 7 => [3, 6]
  | 8 => [7]
  | 9 => [8]
  | 10 => [8, 9]
  | 11 => [8, 10]
  | 12 => [8]
  | 13 => [8, 12]
  | 14 => [8, 11, 13]
  | 15 => [8, 14]
  | 16 => [15]
  | _ => []
def leavePC (B0 g : Nat) (x : Int) (y : Nat) (A : Option Addr) (n c sm : Nat) (u : Bool) : Nat → Value → World → Prop
  | 0, v, _ => v = .pointer (some ⟨g, 0, none⟩)
  | 1, v, _ => v = .int .i64 x
  | 2, v, _ => v = .bool true
  | 3, v, _ => v = .bool true
  | 4, v, _ => v = .slice A n c
  | 5, v, _ => v = .int .i64 (n : Int)
  | 6, v, _ => v = .bool true
  | 7, v, _ => v = .bool true
  | 8, v, _ => v = .bool true
  | 9, v, _ => v = .slice A n c
  | 10, v, w => InoRow B0 (.slice A n c) v w
  | 11, v, _ => v = .int .u32 (sm : Int)
  | 12, v, _ => v = .pointer (some ⟨g, 1, none⟩)
  | 13, v, _ => v = .int .u32 (y : Int)
  | 14, v, _ => v = .bool u
  | 15, v, _ => v = .bool u
  | _, _, _ => True
theorem leavePC_mono (B0 g : Nat) (x : Int) (y : Nat) (A : Option Addr) (n c sm : Nat) (u : Bool) (w0 : World) (i : Nat) (v' : Value) (w w' : World) (_ : Below w0.heap.size w0 w) (hb : Below w.heap.size w w') (h : leavePC B0 g x y A n c sm u i v' w) : leavePC B0 g x y A n c sm u i v' w' := by
  unfold leavePC at *
  split at h <;> first | exact h | exact InoRow.up h hb

set_option maxHeartbeats 2000000 in
theorem points_low (x : Int) (y : Nat) (A : Option Addr) (n c sm : Nat) (bs : List UInt8) (u : Bool) (w : World) (hl : bs.length = n) (hs : sumN bs = sm) (hn : n ≤ 9223372036854775807) (hr : Rd w w.heap.size A (bs.map bv)) (hT : Tab w) (hy : y < 4294967296) (hu : ((sm : Int) == (y : Int)) = u) (hx : x ≤ 0) :
    Calls Tryd.prog 12 #[.agg #[.int .i64 x, .int .u32 (y : Int)], .slice A n c] w fun e w' => e = .returned (.bool false) ∧ Below w.heap.size w w' := by
  have HL := Lib.hid hl
  have HS := Lib.hid hs
  have HR := Lib.hid hr
  have HT := Lib.hid hT
  have HU := Lib.hid hu
  have K0 := Lib.hid (Bk.new w 29 #[.int .i64 x, .int .u32 (y : Int)])
  have HB0 := Lib.hid ((Below.refl w.heap.size w).alloc (Nat.le_refl _) (.cells #[.int .i64 x, .int .u32 (y : Int)] 29))
  obtain ⟨g, hg⟩ : ∃ g, w.heap.size = g := ⟨_, rfl⟩
  obtain ⟨w0, hw0⟩ : ∃ w0, w.alloc (.cells #[.int .i64 x, .int .u32 (y : Int)] 29) = w0 := ⟨_, rfl⟩
  rw [hw0] at K0 HB0
  have K0' : Hid (Bk w0 g 29 #[.int .i64 x, .int .u32 (y : Int)]) := by show Bk _ _ _ _; rw [← hg]; exact K0.out
  have HW0 := Lib.hid hw0
  have HG := Lib.hid hg
  have HK : Hid (∀ w', Below w0.heap.size w0 w' → Bk w' g 29 #[.int .i64 x, .int .u32 (y : Int)]) := fun w' hb => K0'.out.below hb K0'.out.lt
  have HZ := Lib.hid (Nat.le_refl w0.heap.size)
  clear hl hs hr hT hu hw0 hg K0 K0'
  go_enter Tryd.func12, Tryd.ntmps12
  go_wp2_with fail
  rw [HW0.out, HG.out]
  refine wp_region_tail (by kernel_rfl) 16 21 slotPA waitPA (leavePA w0.heap.size g x y A n c sm u) rfl
    (by kernel_rfl) (leavePA_mono _ _ _ _ _ _ _ _ _ _) ?_ ?_
  · intro i hi
    match i, hi with
    | 0, _ =>
      intro o ho a wc hk hb hd K hK
      cases ho
      have e0 := hk.rest 2 (.pointer (some ⟨g, 0, none⟩)) (by omega) (by kernel_rfl) rfl
      rw [Array.getD_eq_getD_getElem?] at e0
      go_simp
      exact hK _ _ (Below.refl _ _) rfl
    | 1, _ =>
      intro o ho a wc hk hb hd K hK
      cases ho
      have e0 := hd 0 (by simp [waitPA])
      simp only [leavePA, slotPA, Nat.reduceAdd, Array.getD_eq_getD_getElem?] at e0
      obtain ⟨c0, c1, -⟩ := ino_cells2 (HK.out _ hb)
      go_simp
      exact hK _ _ (Below.refl _ _) rfl
    | 2, _ =>
      intro o ho a wc hk hb hd K hK
      cases ho
      have e0 := hd 1 (by simp [waitPA])
      simp only [leavePA, slotPA, Nat.reduceAdd, Array.getD_eq_getD_getElem?] at e0
      go_simp
      exact hK _ _ (Below.refl _ _) (by show Value.bool _ = Value.bool _; rw [decide_eq_false (by omega)])
    | 3, _ =>
      intro o ho a wc hk hb hd K hK
      cases ho
      have e0 := hd 2 (by simp [waitPA])
      simp only [leavePA, slotPA, Nat.reduceAdd, Array.getD_eq_getD_getElem?] at e0
      go_simp
      exact hK _ _ (Below.refl _ _) rfl
    | 4, _ =>
      intro o ho a wc hk hb hd K hK
      cases ho
      have e0 := hk.rest 1 (.slice A n c) (by omega) (by kernel_rfl) rfl
      rw [Array.getD_eq_getD_getElem?] at e0
      have e1 := hd 3 (by simp [waitPA])
      simp only [leavePA, slotPA, Nat.reduceAdd, Array.getD_eq_getD_getElem?] at e1
      have gs := hk.some_ (s := 8) (by omega) e1
      go_simp
      exact hK _ _ (Below.refl _ _) rfl
    | 5, _ =>
      intro o ho a wc hk hb hd K hK
      cases ho
      have e0 := hd 3 (by simp [waitPA])
      have e1 := hd 4 (by simp [waitPA])
      simp only [leavePA, slotPA, Nat.reduceAdd, Array.getD_eq_getD_getElem?] at e0 e1
      have gs := hk.some_ (s := 8) (by omega) e0
      go_simp
      exact hK _ _ (Below.refl _ _) rfl
    | 6, _ =>
      intro o ho a wc hk hb hd K hK
      cases ho
      have e0 := hd 3 (by simp [waitPA])
      have e1 := hd 5 (by simp [waitPA])
      simp only [leavePA, slotPA, Nat.reduceAdd, Array.getD_eq_getD_getElem?] at e0 e1
      have gs := hk.some_ (s := 8) (by omega) e0
      go_simp
      exact hK _ _ (Below.refl _ _) rfl
    | 7, _ =>
      intro o ho a wc hk hb hd K hK
      cases ho
      have e0 := hd 3 (by simp [waitPA])
      have e1 := hd 6 (by simp [waitPA])
      simp only [leavePA, slotPA, Nat.reduceAdd, Array.getD_eq_getD_getElem?] at e0 e1
      go_simp
      exact hK _ _ (Below.refl _ _) rfl
    | 8, _ =>
      intro o ho a wc hk hb hd K hK
      cases ho
      have e0 := hd 7 (by simp [waitPA])
      simp only [leavePA, slotPA, Nat.reduceAdd, Array.getD_eq_getD_getElem?] at e0
      go_simp
      exact hK _ _ (Below.refl _ _) rfl
    | 9, _ =>
      intro o ho a wc hk hb hd K hK
      cases ho
      have e0 := hk.rest 1 (.slice A n c) (by omega) (by kernel_rfl) rfl
      rw [Array.getD_eq_getD_getElem?] at e0
      have e1 := hd 8 (by simp [waitPA])
      simp only [leavePA, slotPA, Nat.reduceAdd, Array.getD_eq_getD_getElem?] at e1
      have gs := hk.some_ (s := 13) (by omega) e1
      go_simp
      exact hK _ _ (Below.refl _ _) rfl
    | 10, _ =>
      intro o ho a wc hk hb hd K hK
      cases ho
      have e0 := hd 8 (by simp [waitPA])
      have e1 := hd 9 (by simp [waitPA])
      simp only [leavePA, slotPA, Nat.reduceAdd, Array.getD_eq_getD_getElem?] at e0 e1
      have gs := hk.some_ (s := 13) (by omega) e0
      go_simp
      exact hK _ _ (Below.refl _ _) rfl
    | 11, _ =>
      intro o ho a wc hk hb hd K hK
      cases ho
      have e0 := hd 8 (by simp [waitPA])
      have e1 := hd 10 (by simp [waitPA])
      simp only [leavePA, slotPA, Nat.reduceAdd, Array.getD_eq_getD_getElem?] at e0 e1
      have gs := hk.some_ (s := 13) (by omega) e0
      go_simp
      exact hK _ _ (Below.refl _ _) rfl
    | 12, _ =>
      intro o ho a wc hk hb hd K hK
      cases ho
      have e0 := hk.rest 2 (.pointer (some ⟨g, 0, none⟩)) (by omega) (by kernel_rfl) rfl
      rw [Array.getD_eq_getD_getElem?] at e0
      have e1 := hd 8 (by simp [waitPA])
      simp only [leavePA, slotPA, Nat.reduceAdd, Array.getD_eq_getD_getElem?] at e1
      have gs := hk.some_ (s := 13) (by omega) e1
      go_simp
      exact hK _ _ (Below.refl _ _) rfl
    | 13, _ =>
      intro o ho a wc hk hb hd K hK
      cases ho
      have e0 := hd 8 (by simp [waitPA])
      have e1 := hd 12 (by simp [waitPA])
      simp only [leavePA, slotPA, Nat.reduceAdd, Array.getD_eq_getD_getElem?] at e0 e1
      have gs := hk.some_ (s := 13) (by omega) e0
      go_simp
      exact hK _ _ (Below.refl _ _) rfl
    | 14, _ =>
      intro o ho a wc hk hb hd K hK
      cases ho
      have e0 := hd 8 (by simp [waitPA])
      have e1 := hd 11 (by simp [waitPA])
      have e2 := hd 13 (by simp [waitPA])
      simp only [leavePA, slotPA, Nat.reduceAdd, Array.getD_eq_getD_getElem?] at e0 e1 e2
      have gs := hk.some_ (s := 13) (by omega) e0
      go_simp
      exact hK _ _ (Below.refl _ _) rfl
    | 15, _ =>
      intro o ho a wc hk hb hd K hK
      cases ho
      have e0 := hd 8 (by simp [waitPA])
      have e1 := hd 14 (by simp [waitPA])
      simp only [leavePA, slotPA, Nat.reduceAdd, Array.getD_eq_getD_getElem?] at e0 e1
      go_simp
      exact hK _ _ (Below.refl _ _) rfl
    | _ + 16, h => exact absurd h (by omega)
  · intro vals w2 hb hR
    have v0 := hR 0 (by omega)
    have v1 := hR 1 (by omega)
    have v2 := hR 2 (by omega)
    have v3 := hR 3 (by omega)
    have v4 := hR 4 (by omega)
    have v5 := hR 5 (by omega)
    have v6 := hR 6 (by omega)
    have v7 := hR 7 (by omega)
    have v8 := hR 8 (by omega)
    have v9 := hR 9 (by omega)
    have v10 := hR 10 (by omega)
    have v11 := hR 11 (by omega)
    have v12 := hR 12 (by omega)
    have v13 := hR 13 (by omega)
    have v14 := hR 14 (by omega)
    have v15 := hR 15 (by omega)
    simp only [leavePA] at v0 v1 v2 v3 v4 v5 v6 v7 v8 v9 v10 v11 v12 v13 v14 v15
    clear hR
    simp only [putAll, slotPA, Nat.reduceAdd, List.setIfInBounds_toArray, List.set_cons_zero, List.set_cons_succ, List.drop_succ_cons, List.drop_zero, v0, v1, v2, v3, v4, v5, v6, v7, v8, v9, v10, v11, v12, v13, v14, v15]
    clear v0 v1 v2 v3 v4 v5 v6 v7 v8 v9 v10 v11 v12 v13 v14 v15
    go_wp2
    go_ret
    exact ⟨rfl, by rw [HG.out]; have := HB0.out.trans (hb.mono HB0.out.size); rwa [HG.out] at this⟩

set_option maxHeartbeats 2000000 in
theorem points_len (x : Int) (y : Nat) (A : Option Addr) (n c sm : Nat) (bs : List UInt8) (u : Bool) (w : World) (hl : bs.length = n) (hs : sumN bs = sm) (hn : n ≤ 9223372036854775807) (hr : Rd w w.heap.size A (bs.map bv)) (hT : Tab w) (hy : y < 4294967296) (hu : ((sm : Int) == (y : Int)) = u) (hx : 0 < x) (hne : ((n : Int) == 128) = false) :
    Calls Tryd.prog 12 #[.agg #[.int .i64 x, .int .u32 (y : Int)], .slice A n c] w fun e w' => e = .returned (.bool false) ∧ Below w.heap.size w w' := by
  have HL := Lib.hid hl
  have HS := Lib.hid hs
  have HR := Lib.hid hr
  have HT := Lib.hid hT
  have HU := Lib.hid hu
  have K0 := Lib.hid (Bk.new w 29 #[.int .i64 x, .int .u32 (y : Int)])
  have HB0 := Lib.hid ((Below.refl w.heap.size w).alloc (Nat.le_refl _) (.cells #[.int .i64 x, .int .u32 (y : Int)] 29))
  obtain ⟨g, hg⟩ : ∃ g, w.heap.size = g := ⟨_, rfl⟩
  obtain ⟨w0, hw0⟩ : ∃ w0, w.alloc (.cells #[.int .i64 x, .int .u32 (y : Int)] 29) = w0 := ⟨_, rfl⟩
  rw [hw0] at K0 HB0
  have K0' : Hid (Bk w0 g 29 #[.int .i64 x, .int .u32 (y : Int)]) := by show Bk _ _ _ _; rw [← hg]; exact K0.out
  have HW0 := Lib.hid hw0
  have HG := Lib.hid hg
  have HK : Hid (∀ w', Below w0.heap.size w0 w' → Bk w' g 29 #[.int .i64 x, .int .u32 (y : Int)]) := fun w' hb => K0'.out.below hb K0'.out.lt
  have HZ := Lib.hid (Nat.le_refl w0.heap.size)
  clear hl hs hr hT hu hw0 hg K0 K0'
  go_enter Tryd.func12, Tryd.ntmps12
  go_wp2_with fail
  rw [HW0.out, HG.out]
  refine wp_region_tail (by kernel_rfl) 16 21 slotPB waitPB (leavePB w0.heap.size g x y A n c sm u) rfl
    (by kernel_rfl) (leavePB_mono _ _ _ _ _ _ _ _ _ _) ?_ ?_
  · intro i hi
    match i, hi with
    | 0, _ =>
      intro o ho a wc hk hb hd K hK
      cases ho
      have e0 := hk.rest 2 (.pointer (some ⟨g, 0, none⟩)) (by omega) (by kernel_rfl) rfl
      rw [Array.getD_eq_getD_getElem?] at e0
      go_simp
      exact hK _ _ (Below.refl _ _) rfl
    | 1, _ =>
      intro o ho a wc hk hb hd K hK
      cases ho
      have e0 := hd 0 (by simp [waitPB])
      simp only [leavePB, slotPB, Nat.reduceAdd, Array.getD_eq_getD_getElem?] at e0
      obtain ⟨c0, c1, -⟩ := ino_cells2 (HK.out _ hb)
      go_simp
      exact hK _ _ (Below.refl _ _) rfl
    | 2, _ =>
      intro o ho a wc hk hb hd K hK
      cases ho
      have e0 := hd 1 (by simp [waitPB])
      simp only [leavePB, slotPB, Nat.reduceAdd, Array.getD_eq_getD_getElem?] at e0
      go_simp
      exact hK _ _ (Below.refl _ _) rfl
    | 3, _ =>
      intro o ho a wc hk hb hd K hK
      cases ho
      have e0 := hd 2 (by simp [waitPB])
      simp only [leavePB, slotPB, Nat.reduceAdd, Array.getD_eq_getD_getElem?] at e0
      go_simp
      exact hK _ _ (Below.refl _ _) rfl
    | 4, _ =>
      intro o ho a wc hk hb hd K hK
      cases ho
      have e0 := hk.rest 1 (.slice A n c) (by omega) (by kernel_rfl) rfl
      rw [Array.getD_eq_getD_getElem?] at e0
      have e1 := hd 3 (by simp [waitPB])
      simp only [leavePB, slotPB, Nat.reduceAdd, Array.getD_eq_getD_getElem?] at e1
      have gs := hk.some_ (s := 8) (by omega) e1
      go_simp
      exact hK _ _ (Below.refl _ _) rfl
    | 5, _ =>
      intro o ho a wc hk hb hd K hK
      cases ho
      have e0 := hd 3 (by simp [waitPB])
      have e1 := hd 4 (by simp [waitPB])
      simp only [leavePB, slotPB, Nat.reduceAdd, Array.getD_eq_getD_getElem?] at e0 e1
      have gs := hk.some_ (s := 8) (by omega) e0
      go_simp
      exact hK _ _ (Below.refl _ _) rfl
    | 6, _ =>
      intro o ho a wc hk hb hd K hK
      cases ho
      have e0 := hd 3 (by simp [waitPB])
      have e1 := hd 5 (by simp [waitPB])
      simp only [leavePB, slotPB, Nat.reduceAdd, Array.getD_eq_getD_getElem?] at e0 e1
      have gs := hk.some_ (s := 8) (by omega) e0
      go_simp
      exact hK _ _ (Below.refl _ _) rfl
    | 7, _ =>
      intro o ho a wc hk hb hd K hK
      cases ho
      have e0 := hd 3 (by simp [waitPB])
      have e1 := hd 6 (by simp [waitPB])
      simp only [leavePB, slotPB, Nat.reduceAdd, Array.getD_eq_getD_getElem?] at e0 e1
      go_simp
      exact hK _ _ (Below.refl _ _) rfl
    | 8, _ =>
      intro o ho a wc hk hb hd K hK
      cases ho
      have e0 := hd 7 (by simp [waitPB])
      simp only [leavePB, slotPB, Nat.reduceAdd, Array.getD_eq_getD_getElem?] at e0
      go_simp
      exact hK _ _ (Below.refl _ _) rfl
    | 9, _ =>
      intro o ho a wc hk hb hd K hK
      cases ho
      have e0 := hk.rest 1 (.slice A n c) (by omega) (by kernel_rfl) rfl
      rw [Array.getD_eq_getD_getElem?] at e0
      have e1 := hd 8 (by simp [waitPB])
      simp only [leavePB, slotPB, Nat.reduceAdd, Array.getD_eq_getD_getElem?] at e1
      have gs := hk.some_ (s := 13) (by omega) e1
      go_simp
      exact hK _ _ (Below.refl _ _) rfl
    | 10, _ =>
      intro o ho a wc hk hb hd K hK
      cases ho
      have e0 := hd 8 (by simp [waitPB])
      have e1 := hd 9 (by simp [waitPB])
      simp only [leavePB, slotPB, Nat.reduceAdd, Array.getD_eq_getD_getElem?] at e0 e1
      have gs := hk.some_ (s := 13) (by omega) e0
      go_simp
      exact hK _ _ (Below.refl _ _) rfl
    | 11, _ =>
      intro o ho a wc hk hb hd K hK
      cases ho
      have e0 := hd 8 (by simp [waitPB])
      have e1 := hd 10 (by simp [waitPB])
      simp only [leavePB, slotPB, Nat.reduceAdd, Array.getD_eq_getD_getElem?] at e0 e1
      have gs := hk.some_ (s := 13) (by omega) e0
      go_simp
      exact hK _ _ (Below.refl _ _) rfl
    | 12, _ =>
      intro o ho a wc hk hb hd K hK
      cases ho
      have e0 := hk.rest 2 (.pointer (some ⟨g, 0, none⟩)) (by omega) (by kernel_rfl) rfl
      rw [Array.getD_eq_getD_getElem?] at e0
      have e1 := hd 8 (by simp [waitPB])
      simp only [leavePB, slotPB, Nat.reduceAdd, Array.getD_eq_getD_getElem?] at e1
      have gs := hk.some_ (s := 13) (by omega) e1
      go_simp
      exact hK _ _ (Below.refl _ _) rfl
    | 13, _ =>
      intro o ho a wc hk hb hd K hK
      cases ho
      have e0 := hd 8 (by simp [waitPB])
      have e1 := hd 12 (by simp [waitPB])
      simp only [leavePB, slotPB, Nat.reduceAdd, Array.getD_eq_getD_getElem?] at e0 e1
      have gs := hk.some_ (s := 13) (by omega) e0
      go_simp
      exact hK _ _ (Below.refl _ _) rfl
    | 14, _ =>
      intro o ho a wc hk hb hd K hK
      cases ho
      have e0 := hd 8 (by simp [waitPB])
      have e1 := hd 11 (by simp [waitPB])
      have e2 := hd 13 (by simp [waitPB])
      simp only [leavePB, slotPB, Nat.reduceAdd, Array.getD_eq_getD_getElem?] at e0 e1 e2
      have gs := hk.some_ (s := 13) (by omega) e0
      go_simp
      exact hK _ _ (Below.refl _ _) rfl
    | 15, _ =>
      intro o ho a wc hk hb hd K hK
      cases ho
      have e0 := hd 8 (by simp [waitPB])
      have e1 := hd 14 (by simp [waitPB])
      simp only [leavePB, slotPB, Nat.reduceAdd, Array.getD_eq_getD_getElem?] at e0 e1
      go_simp
      exact hK _ _ (Below.refl _ _) rfl
    | _ + 16, h => exact absurd h (by omega)
  · intro vals w2 hb hR
    have v0 := hR 0 (by omega)
    have v1 := hR 1 (by omega)
    have v2 := hR 2 (by omega)
    have v3 := hR 3 (by omega)
    have v4 := hR 4 (by omega)
    have v5 := hR 5 (by omega)
    have v6 := hR 6 (by omega)
    have v7 := hR 7 (by omega)
    have v8 := hR 8 (by omega)
    have v9 := hR 9 (by omega)
    have v10 := hR 10 (by omega)
    have v11 := hR 11 (by omega)
    have v12 := hR 12 (by omega)
    have v13 := hR 13 (by omega)
    have v14 := hR 14 (by omega)
    have v15 := hR 15 (by omega)
    simp only [leavePB] at v0 v1 v2 v3 v4 v5 v6 v7 v8 v9 v10 v11 v12 v13 v14 v15
    clear hR
    simp only [putAll, slotPB, Nat.reduceAdd, List.setIfInBounds_toArray, List.set_cons_zero, List.set_cons_succ, List.drop_succ_cons, List.drop_zero, v0, v1, v2, v3, v4, v5, v6, v7, v8, v9, v10, v11, v12, v13, v14, v15]
    clear v0 v1 v2 v3 v4 v5 v6 v7 v8 v9 v10 v11 v12 v13 v14 v15
    go_wp2
    go_ret
    exact ⟨rfl, by rw [HG.out]; have := HB0.out.trans (hb.mono HB0.out.size); rwa [HG.out] at this⟩

set_option maxHeartbeats 2000000 in
theorem points_sum (x : Int) (y : Nat) (A : Option Addr) (c sm : Nat) (bs : List UInt8) (u : Bool) (w : World) (hl : bs.length = 128) (hs : sumN bs = sm) (hr : Rd w w.heap.size A (bs.map bv)) (hT : Tab w) (hy : y < 4294967296) (hu : ((sm : Int) == (y : Int)) = u) (hx : 0 < x) :
    Calls Tryd.prog 12 #[.agg #[.int .i64 x, .int .u32 (y : Int)], .slice A 128 c] w fun e w' => e = .returned (.bool u) ∧ Below w.heap.size w w' := by
  have HL := Lib.hid hl
  have HS := Lib.hid hs
  have HR := Lib.hid hr
  have HT := Lib.hid hT
  have HU := Lib.hid hu
  have K0 := Lib.hid (Bk.new w 29 #[.int .i64 x, .int .u32 (y : Int)])
  have HB0 := Lib.hid ((Below.refl w.heap.size w).alloc (Nat.le_refl _) (.cells #[.int .i64 x, .int .u32 (y : Int)] 29))
  obtain ⟨g, hg⟩ : ∃ g, w.heap.size = g := ⟨_, rfl⟩
  obtain ⟨w0, hw0⟩ : ∃ w0, w.alloc (.cells #[.int .i64 x, .int .u32 (y : Int)] 29) = w0 := ⟨_, rfl⟩
  rw [hw0] at K0 HB0
  have K0' : Hid (Bk w0 g 29 #[.int .i64 x, .int .u32 (y : Int)]) := by show Bk _ _ _ _; rw [← hg]; exact K0.out
  have HW0 := Lib.hid hw0
  have HG := Lib.hid hg
  have HK : Hid (∀ w', Below w0.heap.size w0 w' → Bk w' g 29 #[.int .i64 x, .int .u32 (y : Int)]) := fun w' hb => K0'.out.below hb K0'.out.lt
  have HZ := Lib.hid (Nat.le_refl w0.heap.size)
  clear hl hs hr hT hu hw0 hg K0 K0'
  go_enter Tryd.func12, Tryd.ntmps12
  go_wp2_with fail
  rw [HW0.out, HG.out]
  refine wp_region_tail (by kernel_rfl) 16 21 slotPC waitPC (leavePC w0.heap.size g x y A 128 c sm u) rfl
    (by kernel_rfl) (leavePC_mono _ _ _ _ _ _ _ _ _ _) ?_ ?_
  · intro i hi
    match i, hi with
    | 0, _ =>
      intro o ho a wc hk hb hd K hK
      cases ho
      have e0 := hk.rest 2 (.pointer (some ⟨g, 0, none⟩)) (by omega) (by kernel_rfl) rfl
      rw [Array.getD_eq_getD_getElem?] at e0
      go_simp
      exact hK _ _ (Below.refl _ _) rfl
    | 1, _ =>
      intro o ho a wc hk hb hd K hK
      cases ho
      have e0 := hd 0 (by simp [waitPC])
      simp only [leavePC, slotPC, Nat.reduceAdd, Array.getD_eq_getD_getElem?] at e0
      obtain ⟨c0, c1, -⟩ := ino_cells2 (HK.out _ hb)
      go_simp
      exact hK _ _ (Below.refl _ _) rfl
    | 2, _ =>
      intro o ho a wc hk hb hd K hK
      cases ho
      have e0 := hd 1 (by simp [waitPC])
      simp only [leavePC, slotPC, Nat.reduceAdd, Array.getD_eq_getD_getElem?] at e0
      go_simp
      exact hK _ _ (Below.refl _ _) rfl
    | 3, _ =>
      intro o ho a wc hk hb hd K hK
      cases ho
      have e0 := hd 2 (by simp [waitPC])
      simp only [leavePC, slotPC, Nat.reduceAdd, Array.getD_eq_getD_getElem?] at e0
      go_simp
      exact hK _ _ (Below.refl _ _) rfl
    | 4, _ =>
      intro o ho a wc hk hb hd K hK
      cases ho
      have e0 := hk.rest 1 (.slice A 128 c) (by omega) (by kernel_rfl) rfl
      rw [Array.getD_eq_getD_getElem?] at e0
      have e1 := hd 3 (by simp [waitPC])
      simp only [leavePC, slotPC, Nat.reduceAdd, Array.getD_eq_getD_getElem?] at e1
      have gs := hk.some_ (s := 8) (by omega) e1
      go_simp
      exact hK _ _ (Below.refl _ _) rfl
    | 5, _ =>
      intro o ho a wc hk hb hd K hK
      cases ho
      have e0 := hd 3 (by simp [waitPC])
      have e1 := hd 4 (by simp [waitPC])
      simp only [leavePC, slotPC, Nat.reduceAdd, Array.getD_eq_getD_getElem?] at e0 e1
      have gs := hk.some_ (s := 8) (by omega) e0
      go_simp
      exact hK _ _ (Below.refl _ _) rfl
    | 6, _ =>
      intro o ho a wc hk hb hd K hK
      cases ho
      have e0 := hd 3 (by simp [waitPC])
      have e1 := hd 5 (by simp [waitPC])
      simp only [leavePC, slotPC, Nat.reduceAdd, Array.getD_eq_getD_getElem?] at e0 e1
      have gs := hk.some_ (s := 8) (by omega) e0
      go_simp
      exact hK _ _ (Below.refl _ _) rfl
    | 7, _ =>
      intro o ho a wc hk hb hd K hK
      cases ho
      have e0 := hd 3 (by simp [waitPC])
      have e1 := hd 6 (by simp [waitPC])
      simp only [leavePC, slotPC, Nat.reduceAdd, Array.getD_eq_getD_getElem?] at e0 e1
      go_simp
      exact hK _ _ (Below.refl _ _) rfl
    | 8, _ =>
      intro o ho a wc hk hb hd K hK
      cases ho
      have e0 := hd 7 (by simp [waitPC])
      simp only [leavePC, slotPC, Nat.reduceAdd, Array.getD_eq_getD_getElem?] at e0
      go_simp
      exact hK _ _ (Below.refl _ _) rfl
    | 9, _ =>
      intro o ho a wc hk hb hd K hK
      cases ho
      have e0 := hk.rest 1 (.slice A 128 c) (by omega) (by kernel_rfl) rfl
      rw [Array.getD_eq_getD_getElem?] at e0
      have e1 := hd 8 (by simp [waitPC])
      simp only [leavePC, slotPC, Nat.reduceAdd, Array.getD_eq_getD_getElem?] at e1
      have gs := hk.some_ (s := 13) (by omega) e1
      go_simp
      exact hK _ _ (Below.refl _ _) rfl
    | 10, _ =>
      intro o ho a wc hk hb hd K hK
      cases ho
      have e0 := hd 8 (by simp [waitPC])
      have e1 := hd 9 (by simp [waitPC])
      simp only [leavePC, slotPC, Nat.reduceAdd, Array.getD_eq_getD_getElem?] at e0 e1
      have gs := hk.some_ (s := 13) (by omega) e0
      go_simp
      exact hK _ _ ((Below.refl _ _).alloc (Nat.le_refl _) _) ⟨_, rfl, Nat.le_trans HZ.out hb.size, Bk.new wc _ _⟩
    | 11, _ =>
      intro o ho a wc hk hb hd K hK
      cases ho
      have e0 := hd 8 (by simp [waitPC])
      have e1 := hd 10 (by simp [waitPC])
      simp only [leavePC, slotPC, Nat.reduceAdd, Array.getD_eq_getD_getElem?] at e0 e1
      have gs := hk.some_ (s := 13) (by omega) e0
      obtain ⟨g3, e1, hg3, hbk3⟩ := e1
      go_simp
      refine (Sum_one wc.heap.size (some ⟨g3, 0, none⟩) A 1 c 128 sm bs wc HL.out HS.out (by omega) (by simpa using Rd.bk hbk3) ((HR.out.below (HB0.out.trans (hb.mono HB0.out.size))).mono (HB0.out.trans (hb.mono HB0.out.size)).size) (HT.out.up (HB0.out.trans (hb.mono HB0.out.size)))).mono ?_
      rintro e w3 ⟨rfl, rfl⟩
      exact hK _ _ (Below.refl _ _) rfl
    | 12, _ =>
      intro o ho a wc hk hb hd K hK
      cases ho
      have e0 := hk.rest 2 (.pointer (some ⟨g, 0, none⟩)) (by omega) (by kernel_rfl) rfl
      rw [Array.getD_eq_getD_getElem?] at e0
      have e1 := hd 8 (by simp [waitPC])
      simp only [leavePC, slotPC, Nat.reduceAdd, Array.getD_eq_getD_getElem?] at e1
      have gs := hk.some_ (s := 13) (by omega) e1
      go_simp
      exact hK _ _ (Below.refl _ _) rfl
    | 13, _ =>
      intro o ho a wc hk hb hd K hK
      cases ho
      have e0 := hd 8 (by simp [waitPC])
      have e1 := hd 12 (by simp [waitPC])
      simp only [leavePC, slotPC, Nat.reduceAdd, Array.getD_eq_getD_getElem?] at e0 e1
      have gs := hk.some_ (s := 13) (by omega) e0
      obtain ⟨c0, c1, -⟩ := ino_cells2 (HK.out _ hb)
      go_simp
      exact hK _ _ (Below.refl _ _) rfl
    | 14, _ =>
      intro o ho a wc hk hb hd K hK
      cases ho
      have e0 := hd 8 (by simp [waitPC])
      have e1 := hd 11 (by simp [waitPC])
      have e2 := hd 13 (by simp [waitPC])
      simp only [leavePC, slotPC, Nat.reduceAdd, Array.getD_eq_getD_getElem?] at e0 e1 e2
      have gs := hk.some_ (s := 13) (by omega) e0
      go_simp
      exact hK _ _ (Below.refl _ _) (by show Value.bool _ = Value.bool _; rw [HU.out])
    | 15, _ =>
      intro o ho a wc hk hb hd K hK
      cases ho
      have e0 := hd 8 (by simp [waitPC])
      have e1 := hd 14 (by simp [waitPC])
      simp only [leavePC, slotPC, Nat.reduceAdd, Array.getD_eq_getD_getElem?] at e0 e1
      go_simp
      exact hK _ _ (Below.refl _ _) rfl
    | _ + 16, h => exact absurd h (by omega)
  · intro vals w2 hb hR
    have v0 := hR 0 (by omega)
    have v1 := hR 1 (by omega)
    have v2 := hR 2 (by omega)
    have v3 := hR 3 (by omega)
    have v4 := hR 4 (by omega)
    have v5 := hR 5 (by omega)
    have v6 := hR 6 (by omega)
    have v7 := hR 7 (by omega)
    have v8 := hR 8 (by omega)
    have v9 := hR 9 (by omega)
    have v10 := hR 10 (by omega)
    have v11 := hR 11 (by omega)
    have v12 := hR 12 (by omega)
    have v13 := hR 13 (by omega)
    have v14 := hR 14 (by omega)
    have v15 := hR 15 (by omega)
    simp only [leavePC] at v0 v1 v2 v3 v4 v5 v6 v7 v8 v9 v10 v11 v12 v13 v14 v15
    clear hR
    simp only [putAll, slotPC, Nat.reduceAdd, List.setIfInBounds_toArray, List.set_cons_zero, List.set_cons_succ, List.drop_succ_cons, List.drop_zero, v0, v1, v2, v3, v4, v5, v6, v7, v8, v9, v11, v12, v13, v14, v15]
    clear v0 v1 v2 v3 v4 v5 v6 v7 v8 v9 v11 v12 v13 v14 v15
    go_wp2
    go_ret
    exact ⟨rfl, by rw [HG.out]; have := HB0.out.trans (hb.mono HB0.out.size); rwa [HG.out] at this⟩

/-- does the pointer point to the block? -/
def ptsB (p : Pr) (bs : List UInt8) : Bool := decide (0 < p.at_) && (decide (bs.length = 128) && (sumN bs == p.sum))
theorem inoPoints_any (p : Pr) (A : Option Addr) (n c : Nat) (bs : List UInt8) (t : Bool) (w : World) (hl : bs.length = n) (hn : n ≤ 9223372036854775807) (hr : Rd w w.heap.size A (bs.map bv)) (hT : Tab w) (hy : p.sum < 4294967296) (ht : ptsB p bs = t) :
    Calls Tryd.prog 12 #[.agg #[.int .i64 p.at_, .int .u32 (p.sum : Int)], .slice A n c] w fun e w' => e = .returned (.bool t) ∧ Below w.heap.size w w' := by
  unfold ptsB at ht
  by_cases hx : 0 < p.at_
  · by_cases h1 : n = 128
    · subst h1
      refine points_sum p.at_ p.sum A c (sumN bs) bs t w hl rfl hr hT hy ?_ hx
      rw [← ht, decide_eq_true hx, decide_eq_true hl, Bool.eq_iff_iff]
      simp only [Bool.true_and, beq_iff_eq]
      omega
    · obtain rfl : false = t := by rw [← ht, decide_eq_true hx, decide_eq_false (by omega)]; rfl
      exact points_len p.at_ p.sum A n c (sumN bs) bs _ w hl rfl hn hr hT hy rfl hx (by simp; omega)
  · obtain rfl : false = t := by rw [← ht, decide_eq_false hx]; rfl
    exact points_low p.at_ p.sum A n c (sumN bs) bs _ w hl rfl hn hr hT hy rfl (by omega)
end Go.Proofs.YtnipfonglheofaaDoor
