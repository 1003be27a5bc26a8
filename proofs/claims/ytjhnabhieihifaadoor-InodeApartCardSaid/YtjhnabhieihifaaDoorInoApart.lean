/-
  Two inodes of one number have the same block just if they are the same; two nodes likewise. Conditions: crc.halves holds what its text lays, tied to the program.
-/
import Derived.Test.YtjhnabhieihifaaDoorInoTwo
import Derived.Test.YtjhnabhieihifaaDoorRegTail
import Derived.Deep.DeepCutAuto
import Derived.Deep.CutRange
import Derived.Test.YtjhnabhieihifaaDoorRef07b
import Derived.Test.YtjhnabhieihifaaDoorRef07c
import Derived.Test.YtjhnabhieihifaaDoorRef07d
import Derived.Test.YtjhnabhieihifaaDoorCrcTab
import Derived.Test.YtjhnabhieihifaaDoorOpenIno
import Derived.Test.YtjhnabhieihifaaDoorCards
import Derived.Test.YtjhnabhieihifaaDoorTie
import Derived.SevenTiedAt
import Derived.Deep.RegionHeld3
import Derived.BigQuiet
namespace Go.Proofs.YtjhnabhieihifaaDoor.inodeApart
open Go.ChangeShapes Go.WideShapes Go.ChangeAt Go.RowKit
set_option maxRecDepth 100000
set_option linter.unusedVariables false

def slotPA5 (i : Nat) : Nat := 43 + i
def waitPA5 : Nat → List Nat
  | 1 => [0]
  | 2 => [1]
  | 3 => [2]
  | 4 => [2, 3]
  | 5 => [2, 4]
  | 6 => [5]
  | 7 => [6]
  | 8 => [6, 7]
  | 9 => [6]
  | 10 => [6, 9]
  | 11 => [6, 8, 10]
  | 12 => [6]
  | 13 => [6]
  | 14 => [6, 12, 13]
  | 15 => [6, 11, 14]
  | 16 => [6, 15]
  | _ => []
def leavePA5 (E2 : Int) (s1 s2 : Value) (B1 B2 : List UInt8) (x y : Ino) (u : Bool) : Nat → Value → World → Prop
  | 0, v, _ => v = .int .i64 1
  | 1, v, _ => v = .bool false
  | 2, v, _ => v = .bool false
  | 3, v, _ => v = undef
  | 4, v, _ => v = undef
  | 5, v, _ => v = .bool false
  | 6, v, _ => v = .bool false
  | 7, v, _ => v = undef
  | 8, v, _ => v = undef
  | 9, v, _ => v = undef
  | 10, v, _ => v = undef
  | 11, v, _ => v = undef
  | 12, v, _ => v = undef
  | 13, v, _ => v = undef
  | 14, v, _ => v = undef
  | 15, v, _ => v = undef
  | _, _, _ => True
def slotPB5 (i : Nat) : Nat := 43 + i
def waitPB5 : Nat → List Nat
  | 1 => [0]
  | 2 => [1]
  | 3 => [2]
  | 4 => [2, 3]
  | 5 => [2, 4]
  | 6 => [5]
  | 7 => [6]
  | 8 => [6, 7]
  | 9 => [6]
  | 10 => [6, 9]
  | 11 => [6, 8, 10]
  | 12 => [6]
  | 13 => [6]
  | 14 => [6, 12, 13]
  | 15 => [6, 11, 14]
  | 16 => [6, 15]
  | _ => []
def leavePB5 (E2 : Int) (s1 s2 : Value) (B1 B2 : List UInt8) (x y : Ino) (u : Bool) : Nat → Value → World → Prop
  | 0, v, _ => v = .int .i64 0
  | 1, v, _ => v = .bool true
  | 2, v, _ => v = .bool true
  | 3, v, _ => v = .int .i64 1
  | 4, v, _ => v = .bool false
  | 5, v, _ => v = .bool false
  | 6, v, _ => v = .bool false
  | 7, v, _ => v = undef
  | 8, v, _ => v = undef
  | 9, v, _ => v = undef
  | 10, v, _ => v = undef
  | 11, v, _ => v = undef
  | 12, v, _ => v = undef
  | 13, v, _ => v = undef
  | 14, v, _ => v = undef
  | 15, v, _ => v = undef
  | _, _, _ => True
def slotPC5 (i : Nat) : Nat := 43 + i
def waitPC5 : Nat → List Nat
  | 1 => [0]
  | 2 => [1]
  | 3 => [2]
  | 4 => [2, 3]
  | 5 => [2, 4]
  | 6 => [5]
  | 7 => [6]
  | 8 => [6, 7]
  | 9 => [6]
  | 10 => [6, 9]
  | 11 => [6, 8, 10]
  | 12 => [6]
  | 13 => [6]
  | 14 => [6, 12, 13]
  | 15 => [6, 11, 14]
  | 16 => [6, 15]
  | _ => []
def leavePC5 (E2 : Int) (s1 s2 : Value) (B1 B2 : List UInt8) (x y : Ino) (u : Bool) : Nat → Value → World → Prop
  | 0, v, _ => v = .int .i64 0
  | 1, v, _ => v = .bool true
  | 2, v, _ => v = .bool true
  | 3, v, _ => v = .int .i64 0
  | 4, v, _ => v = .bool true
  | 5, v, _ => v = .bool true
  | 6, v, _ => v = .bool true
  | 7, v, _ => v = s1
  | 8, v, _ => v = .string (str B1)
  | 9, v, _ => v = s2
  | 10, v, _ => v = .string (str B2)
  | 11, v, _ => v = .bool u
  | 12, v, _ => v = .agg (inoC x)
  | 13, v, _ => v = .agg (inoC y)
  | 14, v, _ => v = .bool u
  | 15, v, _ => v = .bool false
  | _, _, _ => True
def slotPA13 (i : Nat) : Nat := 80 + i
def waitPA13 : Nat → List Nat
  | 1 => [0]
  | 2 => [1]
  | 3 => [2]
  | 4 => [2, 3]
  | 5 => [2, 4]
  | 6 => [5]
  | 7 => [6]
  | 8 => [6, 7]
  | 9 => [6]
  | 10 => [6, 9]
  | 11 => [6, 8, 10]
  | 12 => [6]
  | 13 => [6]
  | 14 => [6, 12, 13]
  | 15 => [6, 11, 14]
  | 16 => [6, 15]
  | 17 => [16]
  | 18 => [17]
  | 19 => [17, 18]
  | 20 => [19]
  | _ => []
def leavePA13 (E2 : Int) (s1 s2 t1 t2 : Value) (B1 B2 : List UInt8) (u : Bool) : Nat → Value → World → Prop
  | 0, v, _ => v = .int .i64 1
  | 1, v, _ => v = .bool true
  | 2, v, _ => v = .bool true
  | 3, v, _ => v = undef
  | 4, v, _ => v = undef
  | 5, v, _ => v = .bool true
  | 6, v, _ => v = .bool true
  | 7, v, _ => v = undef
  | 8, v, _ => v = undef
  | 9, v, _ => v = undef
  | 10, v, _ => v = undef
  | 11, v, _ => v = undef
  | 12, v, _ => v = undef
  | 13, v, _ => v = undef
  | 14, v, _ => v = undef
  | 15, v, _ => v = undef
  | 16, v, _ => v = .bool true
  | 17, v, _ => v = .bool true
  | 18, v, _ => v = .bool true
  | 19, v, _ => v = .bool true
  | _, _, _ => True
def slotPB13 (i : Nat) : Nat := 80 + i
def waitPB13 : Nat → List Nat
  | 1 => [0]
  | 2 => [1]
  | 3 => [2]
  | 4 => [2, 3]
  | 5 => [2, 4]
  | 6 => [5]
  | 7 => [6]
  | 8 => [6, 7]
  | 9 => [6]
  | 10 => [6, 9]
  | 11 => [6, 8, 10]
  | 12 => [6]
  | 13 => [6]
  | 14 => [6, 12, 13]
  | 15 => [6, 11, 14]
  | 16 => [6, 15]
  | 17 => [16]
  | 18 => [17]
  | 19 => [17, 18]
  | 20 => [19]
  | _ => []
def leavePB13 (E2 : Int) (s1 s2 t1 t2 : Value) (B1 B2 : List UInt8) (u : Bool) : Nat → Value → World → Prop
  | 0, v, _ => v = .int .i64 0
  | 1, v, _ => v = .bool false
  | 2, v, _ => v = .bool false
  | 3, v, _ => v = .int .i64 1
  | 4, v, _ => v = .bool true
  | 5, v, _ => v = .bool true
  | 6, v, _ => v = .bool true
  | 7, v, _ => v = undef
  | 8, v, _ => v = undef
  | 9, v, _ => v = undef
  | 10, v, _ => v = undef
  | 11, v, _ => v = undef
  | 12, v, _ => v = undef
  | 13, v, _ => v = undef
  | 14, v, _ => v = undef
  | 15, v, _ => v = undef
  | 16, v, _ => v = .bool true
  | 17, v, _ => v = .bool true
  | 18, v, _ => v = .bool true
  | 19, v, _ => v = .bool true
  | _, _, _ => True
def slotPC13 (i : Nat) : Nat := 80 + i
def waitPC13 : Nat → List Nat
  | 1 => [0]
  | 2 => [1]
  | 3 => [2]
  | 4 => [2, 3]
  | 5 => [2, 4]
  | 6 => [5]
  | 7 => [6]
  | 8 => [6, 7]
  | 9 => [6]
  | 10 => [6, 9]
  | 11 => [6, 8, 10]
  | 12 => [6]
  | 13 => [6]
  | 14 => [6, 12, 13]
  | 15 => [6, 11, 14]
  | 16 => [6, 15]
  | 17 => [16]
  | 18 => [17]
  | 19 => [17, 18]
  | 20 => [19]
  | _ => []
def leavePC13 (E2 : Int) (s1 s2 t1 t2 : Value) (B1 B2 : List UInt8) (u : Bool) : Nat → Value → World → Prop
  | 0, v, _ => v = .int .i64 0
  | 1, v, _ => v = .bool false
  | 2, v, _ => v = .bool false
  | 3, v, _ => v = .int .i64 0
  | 4, v, _ => v = .bool false
  | 5, v, _ => v = .bool false
  | 6, v, _ => v = .bool false
  | 7, v, _ => v = s1
  | 8, v, _ => v = .string (str B1)
  | 9, v, _ => v = s2
  | 10, v, _ => v = .string (str B2)
  | 11, v, _ => v = .bool u
  | 12, v, _ => v = t1
  | 13, v, _ => v = t2
  | 14, v, _ => v = .bool u
  | 15, v, _ => v = .bool true
  | 16, v, _ => v = .bool true
  | 17, v, _ => v = .bool true
  | 18, v, _ => v = .bool true
  | 19, v, _ => v = .bool true
  | _, _, _ => True

theorem ino_range {w : World} {g : Nat} {t : TypeId} {x : Ino} (hk : Bk w g t (inoC x)) : w.rangeAt g 0 (inoV x) := fun j v hv => by rw [Nat.zero_add, hk.cell]; simpa [inoC] using hv
theorem both {u : Bool} {a b : List UInt8} (h : (a == b) = u) : ((str a).toList == (str b).toList) = u := by rw [str_toList, str_toList]; exact h
set_option maxHeartbeats 8000000 in
theorem walk (a : Int) (x y : Ino) (A : Option Addr) (n c : Nat) (l : List Pr) (A' : Option Addr) (n' c' : Nat) (m : List Pr) (w : World) (p1 : 0 ≤ a) (p2 : a ≤ 255) (hx9 : x.p.length = 9) (hxi : inoI x) (hy9 : y.p.length = 9) (hyi : inoI y) (hl : l.length = n) (hnc : n ≤ c) (hcm : c ≤ maxLen) (hr : Rd w w.heap.size A (prsV l)) (hs : prSums l) (hl' : m.length = n') (hnc' : n' ≤ c') (hcm' : c' ≤ maxLen) (hr' : Rd w w.heap.size A' (prsV m)) (hs' : prSums m) (hT : Tab w) :
    Calls Tryd.prog 7 #[.agg (apV a x y (.slice A n c) (.slice A' n' c')).toArray] w fun e w' => e = .returned (.bool true) ∧ Below w.heap.size w w' := by
  have HX9 := Lib.hid hx9
  have HXI := Lib.hid hxi
  have HY9 := Lib.hid hy9
  have HYI := Lib.hid hyi
  have HXS : Hid (prSums x.p) := fun q hq => (hxi.2.2.2.2.2 q hq).2
  have HYS : Hid (prSums y.p) := fun q hq => (hyi.2.2.2.2.2 q hq).2
  have HL := Lib.hid hl
  have HLC := Lib.hid (And.intro hnc hcm)
  have HR := Lib.hid hr
  have HL2 := Lib.hid hl'
  have HLC2 := Lib.hid (And.intro hnc' hcm')
  have HR2 := Lib.hid hr'
  have HS := Lib.hid hs
  have HS2 := Lib.hid hs'
  have HT := Lib.hid hT
  obtain ⟨QQ, hQQ⟩ : ∃ QQ : Array Value, (apV a x y (.slice A n c) (.slice A' n' c')).toArray = QQ := ⟨_, rfl⟩
  have K0 := Bk.new w 58 QQ
  have HB0 := Lib.hid ((Below.refl w.heap.size w).alloc (Nat.le_refl _) (.cells QQ 58))
  rw [hQQ]
  obtain ⟨w0, hw0⟩ : ∃ w0, w.alloc (.cells QQ 58) = w0 := ⟨_, rfl⟩
  rw [hw0] at K0 HB0
  have HW0 := Lib.hid hw0
  have HQ : Hid (∀ w', Below w0.heap.size w0 w' → w'.cell? ⟨w.heap.size, 0, none⟩ = some (.int .u8 a) ∧ w'.rangeAt w.heap.size 1 (inoV x) ∧ w'.rangeAt w.heap.size 24 (inoV y) ∧ w'.cell? ⟨w.heap.size, 47, none⟩ = some (.slice A n c) ∧ w'.cell? ⟨w.heap.size, 48, none⟩ = some (.slice A' n' c')) := fun w' hb => by
    have h := K0.below hb K0.lt
    rw [← hQQ] at h
    have lx : (inoV x).length = 23 := by simp [inoV, prsV_length, hx9]
    have ly : (inoV y).length = 23 := by simp [inoV, prsV_length, hy9]
    refine ⟨(h.cell 0).trans rfl, fun j v hv => ?_, fun j v hv => ?_, (h.cell 47).trans ?_, (h.cell 48).trans ?_⟩
    · have hj : j < 23 := by have := (List.getElem?_eq_some_iff.1 hv).1; omega
      rw [show 1 + j = j + 1 from by omega, h.cell]
      simp only [apV, List.getElem?_toArray, List.getElem?_cons_succ]
      rw [List.getElem?_append_left (by omega)]; exact hv
    · have hj : j < 23 := by have := (List.getElem?_eq_some_iff.1 hv).1; omega
      rw [show 24 + j = (23 + j) + 1 from by omega, h.cell]
      simp only [apV, List.getElem?_toArray, List.getElem?_cons_succ]
      rw [List.getElem?_append_right (by omega), List.getElem?_append_left (by omega), lx, show 23 + j - 23 = j from by omega]; exact hv
    · simp only [apV, List.getElem?_toArray]
      rw [show (47 : Nat) = 46 + 1 from rfl, List.getElem?_cons_succ, List.getElem?_append_right (by omega), List.getElem?_append_right (by omega), lx, ly]; rfl
    · simp only [apV, List.getElem?_toArray]
      rw [show (48 : Nat) = 47 + 1 from rfl, List.getElem?_cons_succ, List.getElem?_append_right (by omega), List.getElem?_append_right (by omega), lx, ly]; rfl
  obtain ⟨VV, hVV⟩ : ∃ VV : Nat → Value, VV = fun ix => ([.pointer (some ⟨w.heap.size, 0, none⟩), .int .u8 a, .pointer (some ⟨w.heap.size, 1, none⟩), .agg (inoC x), .pointer (some ⟨w.heap.size, 24, none⟩), .agg (inoC y), .pointer (some ⟨w.heap.size, 47, none⟩), .slice A n c, .pointer (some ⟨w.heap.size, 48, none⟩), .slice A' n' c', undef, undef, .int .u8 a, undef, undef, .slice A n c, .slice A' n' c'] : List Value).getD ix undef := ⟨_, rfl⟩
  obtain ⟨CC, hCC⟩ : ∃ CC : Nat → Array Value, CC = fun ix => ([inoC x, inoC y] : List (Array Value)).getD (ix - 10) #[] := ⟨_, rfl⟩
  have HVV := Lib.hid hVV
  have HCC := Lib.hid hCC
  clear hx9 hxi hy9 hyi hl hnc hcm hr hs hl' hnc' hcm' hr' hs' hT hQQ hw0 K0 hVV hCC
  go_enter Tryd.func7, Tryd.ntmps7
  go_upto_region 1 with fail
  rw [HW0.out]
  refine wp_region_states (by kernel_rfl) 17 100 iaD iaW (IaJ w0 VV CC) (by kernel_rfl) rfl ⟨(Below.refl _ _).drew, fun j _ _ _ _ _ hj => (nomatch hj), fun j _ _ hj => (nomatch hj), fun i j g _ _ _ _ _ hj => (nomatch hj)⟩ ?_ ?_
  · refine (all_succ (all_succ (all_succ (all_succ (all_succ (all_succ (all_succ (all_succ (all_succ (all_succ (all_succ (all_succ (all_succ (all_succ (all_succ (all_succ (all_succ all_zero ?h0) ?h1) ?h2) ?h3) ?h4) ?h5) ?h6) ?h7) ?h8) ?h9) ?h10) ?h11) ?h12) ?h13) ?h14) ?h15) ?h16)
    case h0 =>
      intro o ho LL vals aa w' hs hi hcl hdl hJ K hK
      cases ho
      have e0 := hs.outS 1 (.pointer (some ⟨w.heap.size, 0, none⟩)) (by omega) (fun ix hix => iaD_ne1 ix) rfl
      go_simp
      exact hK _ _ (hJ.plainE 0 _ (by omega) (by omega) (by omega) (by omega) (by omega) (by rw [HVV.out]; rfl))
    case h1 =>
      intro o ho LL vals aa w' hs hi hcl hdl hJ K hK
      cases ho
      have e0 := hs.vsI 0 17 (.pointer (some ⟨w.heap.size, 0, none⟩)) (hdl 0 (by simp [iaW])) (by omega) rfl (by omega) ((hJ.val 0 (by omega) (by omega) (by omega) (by omega) (by omega) (hdl 0 (by simp [iaW]))).trans (by rw [HVV.out]; rfl))
      obtain ⟨q0, q1, q2, q3, q4⟩ := HQ.out _ hJ.below
      clear q1 q2
      go_simp
      exact hK _ _ (hJ.plainE 1 _ (by omega) (by omega) (by omega) (by omega) (by omega) (by rw [HVV.out]; rfl))
    case h2 =>
      intro o ho LL vals aa w' hs hi hcl hdl hJ K hK
      cases ho
      have e0 := hs.outS 1 (.pointer (some ⟨w.heap.size, 0, none⟩)) (by omega) (fun ix hix => iaD_ne1 ix) rfl
      go_simp
      exact hK _ _ (hJ.plainE 2 _ (by omega) (by omega) (by omega) (by omega) (by omega) (by rw [HVV.out]; rfl))
    case h3 =>
      intro o ho LL vals aa w' hs hi hcl hdl hJ K hK
      cases ho
      have e0 := hs.vsI 2 19 (.pointer (some ⟨w.heap.size, 1, none⟩)) (hdl 2 (by simp [iaW])) (by omega) rfl (by omega) ((hJ.val 2 (by omega) (by omega) (by omega) (by omega) (by omega) (hdl 2 (by simp [iaW]))).trans (by rw [HVV.out]; rfl))
      obtain ⟨q0, q1, q2, q3, q4⟩ := HQ.out _ hJ.below
      refine (if_pos (show Region.wanted _ _ = true from rfl)).mpr ?_
      exact wp_load_inoAt _ rfl w.heap.size 1 x (by simp [Act.eval, e0]) HX9.out q1 (hK _ _ (hJ.plainE 3 _ (by omega) (by omega) (by omega) (by omega) (by omega) (by rw [HVV.out]; rfl)))
    case h4 =>
      intro o ho LL vals aa w' hs hi hcl hdl hJ K hK
      cases ho
      have e0 := hs.outS 1 (.pointer (some ⟨w.heap.size, 0, none⟩)) (by omega) (fun ix hix => iaD_ne1 ix) rfl
      go_simp
      exact hK _ _ (hJ.plainE 4 _ (by omega) (by omega) (by omega) (by omega) (by omega) (by rw [HVV.out]; rfl))
    case h5 =>
      intro o ho LL vals aa w' hs hi hcl hdl hJ K hK
      cases ho
      have e0 := hs.vsI 4 21 (.pointer (some ⟨w.heap.size, 24, none⟩)) (hdl 4 (by simp [iaW])) (by omega) rfl (by omega) ((hJ.val 4 (by omega) (by omega) (by omega) (by omega) (by omega) (hdl 4 (by simp [iaW]))).trans (by rw [HVV.out]; rfl))
      obtain ⟨q0, q1, q2, q3, q4⟩ := HQ.out _ hJ.below
      refine (if_pos (show Region.wanted _ _ = true from rfl)).mpr ?_
      exact wp_load_inoAt _ rfl w.heap.size 24 y (by simp [Act.eval, e0]) HY9.out q2 (hK _ _ (hJ.plainE 5 _ (by omega) (by omega) (by omega) (by omega) (by omega) (by rw [HVV.out]; rfl)))
    case h6 =>
      intro o ho LL vals aa w' hs hi hcl hdl hJ K hK
      cases ho
      have e0 := hs.outS 1 (.pointer (some ⟨w.heap.size, 0, none⟩)) (by omega) (fun ix hix => iaD_ne1 ix) rfl
      go_simp
      exact hK _ _ (hJ.plainE 6 _ (by omega) (by omega) (by omega) (by omega) (by omega) (by rw [HVV.out]; rfl))
    case h7 =>
      intro o ho LL vals aa w' hs hi hcl hdl hJ K hK
      cases ho
      have e0 := hs.vsI 6 23 (.pointer (some ⟨w.heap.size, 47, none⟩)) (hdl 6 (by simp [iaW])) (by omega) rfl (by omega) ((hJ.val 6 (by omega) (by omega) (by omega) (by omega) (by omega) (hdl 6 (by simp [iaW]))).trans (by rw [HVV.out]; rfl))
      obtain ⟨q0, q1, q2, q3, q4⟩ := HQ.out _ hJ.below
      clear q1 q2
      go_simp
      exact hK _ _ (hJ.plainE 7 _ (by omega) (by omega) (by omega) (by omega) (by omega) (by rw [HVV.out]; rfl))
    case h8 =>
      intro o ho LL vals aa w' hs hi hcl hdl hJ K hK
      cases ho
      have e0 := hs.outS 1 (.pointer (some ⟨w.heap.size, 0, none⟩)) (by omega) (fun ix hix => iaD_ne1 ix) rfl
      go_simp
      exact hK _ _ (hJ.plainE 8 _ (by omega) (by omega) (by omega) (by omega) (by omega) (by rw [HVV.out]; rfl))
    case h9 =>
      intro o ho LL vals aa w' hs hi hcl hdl hJ K hK
      cases ho
      have e0 := hs.vsI 8 25 (.pointer (some ⟨w.heap.size, 48, none⟩)) (hdl 8 (by simp [iaW])) (by omega) rfl (by omega) ((hJ.val 8 (by omega) (by omega) (by omega) (by omega) (by omega) (hdl 8 (by simp [iaW]))).trans (by rw [HVV.out]; rfl))
      obtain ⟨q0, q1, q2, q3, q4⟩ := HQ.out _ hJ.below
      clear q1 q2
      go_simp
      exact hK _ _ (hJ.plainE 9 _ (by omega) (by omega) (by omega) (by omega) (by omega) (by rw [HVV.out]; rfl))
    case h10 =>
      intro o ho LL vals aa w' hs hi hcl hdl hJ K hK
      cases ho
      have h4 : LL 13 = false := by
        rw [Bool.eq_false_iff]
        intro h
        rw [hcl 13 h 10 (by simp [iaW])] at hi
        cases hi
      go_simp
      exact hK _ _ (hJ.alloc 10 (by omega) (by omega) h4)
    case h11 =>
      intro o ho LL vals aa w' hs hi hcl hdl hJ K hK
      cases ho
      have h4 : LL 14 = false := by
        rw [Bool.eq_false_iff]
        intro h
        rw [hcl 14 h 11 (by simp [iaW])] at hi
        cases hi
      go_simp
      exact hK _ _ (hJ.alloc 11 (by omega) (by omega) h4)
    case h12 =>
      intro o ho LL vals aa w' hs hi hcl hdl hJ K hK
      cases ho
      have e0 := hs.vsI 1 18 (.int .u8 a) (hdl 1 (by simp [iaW])) (by omega) rfl (by omega) ((hJ.val 1 (by omega) (by omega) (by omega) (by omega) (by omega) (hdl 1 (by simp [iaW]))).trans (by rw [HVV.out]; rfl))
      go_simp
      exact hK _ _ (hJ.plainE 12 _ (by omega) (by omega) (by omega) (by omega) (by omega) (by rw [HVV.out]; rfl))
    case h13 =>
      intro o ho LL vals aa w' hs hi hcl hdl hJ K hK
      cases ho
      have e0 := hs.vsI 3 20 (.agg (inoC x)) (hdl 3 (by simp [iaW])) (by omega) rfl (by omega) ((hJ.val 3 (by omega) (by omega) (by omega) (by omega) (by omega) (hdl 3 (by simp [iaW]))).trans (by rw [HVV.out]; rfl))
      obtain ⟨g, hv, hg, hz⟩ := hJ.blk 10 (by omega) (by omega) (hdl 10 (by simp [iaW]))
      rw [hi, if_neg (by decide)] at hz
      have e1 := hs.vsI 10 4 _ (hdl 10 (by simp [iaW])) (by omega) rfl (by omega) hv
      refine (if_pos (show Region.wanted _ _ = true from rfl)).mpr ?_
      exact wp_store_ino _ _ rfl g _ (inoC noI) x (by simp [Act.eval, e1]) (by simp [Act.eval, e0]) HX9.out rfl hz (hK undef _ (hJ.store 10 (by omega) (by omega) (hdl 10 (by simp [iaW])) g hv (by rw [HCC.out]; exact hz.setRow _) (fun g' t cs hne hb3 => hb3.setRow_far (Ne.symm hne) _) (hJ.below.setRow' hg _) undef))
    case h14 =>
      intro o ho LL vals aa w' hs hi hcl hdl hJ K hK
      cases ho
      have e0 := hs.vsI 5 22 (.agg (inoC y)) (hdl 5 (by simp [iaW])) (by omega) rfl (by omega) ((hJ.val 5 (by omega) (by omega) (by omega) (by omega) (by omega) (hdl 5 (by simp [iaW]))).trans (by rw [HVV.out]; rfl))
      obtain ⟨g, hv, hg, hz⟩ := hJ.blk 11 (by omega) (by omega) (hdl 11 (by simp [iaW]))
      rw [hi, if_neg (by decide)] at hz
      have e1 := hs.vsI 11 5 _ (hdl 11 (by simp [iaW])) (by omega) rfl (by omega) hv
      refine (if_pos (show Region.wanted _ _ = true from rfl)).mpr ?_
      exact wp_store_ino _ _ rfl g _ (inoC noI) y (by simp [Act.eval, e1]) (by simp [Act.eval, e0]) HY9.out rfl hz (hK undef _ (hJ.store 11 (by omega) (by omega) (hdl 11 (by simp [iaW])) g hv (by rw [HCC.out]; exact hz.setRow _) (fun g' t cs hne hb3 => hb3.setRow_far (Ne.symm hne) _) (hJ.below.setRow' hg _) undef))
    case h15 =>
      intro o ho LL vals aa w' hs hi hcl hdl hJ K hK
      cases ho
      have e0 := hs.vsI 7 24 (.slice A n c) (hdl 7 (by simp [iaW])) (by omega) rfl (by omega) ((hJ.val 7 (by omega) (by omega) (by omega) (by omega) (by omega) (hdl 7 (by simp [iaW]))).trans (by rw [HVV.out]; rfl))
      go_simp
      exact hK _ _ (hJ.plainE 15 _ (by omega) (by omega) (by omega) (by omega) (by omega) (by rw [HVV.out]; rfl))
    case h16 =>
      intro o ho LL vals aa w' hs hi hcl hdl hJ K hK
      cases ho
      have e0 := hs.vsI 9 26 (.slice A' n' c') (hdl 9 (by simp [iaW])) (by omega) rfl (by omega) ((hJ.val 9 (by omega) (by omega) (by omega) (by omega) (by omega) (hdl 9 (by simp [iaW]))).trans (by rw [HVV.out]; rfl))
      go_simp
      exact hK _ _ (hJ.plainE 16 _ (by omega) (by omega) (by omega) (by omega) (by omega) (by rw [HVV.out]; rfl))
  · intro vals a2 w2 hs hJ
    obtain ⟨gx, v0, hgx, k0⟩ := hJ.blk 10 (by omega) (by omega) (by decide)
    obtain ⟨gy, v1, hgy, k1⟩ := hJ.blk 11 (by omega) (by omega) (by decide)
    rw [HCC.out] at k0 k1
    have GX : Hid (Bk w2 gx 27 (inoC x)) := k0
    have GY : Hid (Bk w2 gy 27 (inoC y)) := k1
    have HB2 := Lib.hid (HB0.out.trans (hJ.below.mono HB0.out.size))
    have hval : ∀ i, i < 17 → vals i = ([.pointer (some ⟨w.heap.size, 0, none⟩), .int .u8 a, .pointer (some ⟨w.heap.size, 1, none⟩), .agg (inoC x), .pointer (some ⟨w.heap.size, 24, none⟩), .agg (inoC y), .pointer (some ⟨w.heap.size, 47, none⟩), .slice A n c, .pointer (some ⟨w.heap.size, 48, none⟩), .slice A' n' c', .pointer (some ⟨gx, 0, none⟩), .pointer (some ⟨gy, 0, none⟩), .int .u8 a, vals 13, vals 14, .slice A n c, .slice A' n' c'] : List Value).getD i undef := by
      refine (all_succ (all_succ (all_succ (all_succ (all_succ (all_succ (all_succ (all_succ (all_succ (all_succ (all_succ (all_succ (all_succ (all_succ (all_succ (all_succ (all_succ all_zero ?h0) ?h1) ?h2) ?h3) ?h4) ?h5) ?h6) ?h7) ?h8) ?h9) ?h10) ?h11) ?h12) ?h13) ?h14) ?h15) ?h16)
      case h0 => exact (hJ.val 0 (by omega) (by omega) (by omega) (by omega) (by omega) (by decide)).trans (by rw [HVV.out]; rfl)
      case h1 => exact (hJ.val 1 (by omega) (by omega) (by omega) (by omega) (by omega) (by decide)).trans (by rw [HVV.out]; rfl)
      case h2 => exact (hJ.val 2 (by omega) (by omega) (by omega) (by omega) (by omega) (by decide)).trans (by rw [HVV.out]; rfl)
      case h3 => exact (hJ.val 3 (by omega) (by omega) (by omega) (by omega) (by omega) (by decide)).trans (by rw [HVV.out]; rfl)
      case h4 => exact (hJ.val 4 (by omega) (by omega) (by omega) (by omega) (by omega) (by decide)).trans (by rw [HVV.out]; rfl)
      case h5 => exact (hJ.val 5 (by omega) (by omega) (by omega) (by omega) (by omega) (by decide)).trans (by rw [HVV.out]; rfl)
      case h6 => exact (hJ.val 6 (by omega) (by omega) (by omega) (by omega) (by omega) (by decide)).trans (by rw [HVV.out]; rfl)
      case h7 => exact (hJ.val 7 (by omega) (by omega) (by omega) (by omega) (by omega) (by decide)).trans (by rw [HVV.out]; rfl)
      case h8 => exact (hJ.val 8 (by omega) (by omega) (by omega) (by omega) (by omega) (by decide)).trans (by rw [HVV.out]; rfl)
      case h9 => exact (hJ.val 9 (by omega) (by omega) (by omega) (by omega) (by omega) (by decide)).trans (by rw [HVV.out]; rfl)
      case h10 => exact v0
      case h11 => exact v1
      case h12 => exact (hJ.val 12 (by omega) (by omega) (by omega) (by omega) (by omega) (by decide)).trans (by rw [HVV.out]; rfl)
      case h13 => exact rfl
      case h14 => exact rfl
      case h15 => exact (hJ.val 15 (by omega) (by omega) (by omega) (by omega) (by omega) (by decide)).trans (by rw [HVV.out]; rfl)
      case h16 => exact (hJ.val 16 (by omega) (by omega) (by omega) (by omega) (by omega) (by decide)).trans (by rw [HVV.out]; rfl)
    have ha := hs.frame rfl rfl (fun ix jx h1 h2 h => iaD_apart ix jx h1 h2 h)
    rw [putAll_congr 17 _ hval] at ha
    clear hs hJ k0 k1 hgx hgy hval v0 v1 HCC HVV HQ HB0 HW0
    subst ha
    simp only [putAll, iaD, List.setIfInBounds_toArray, List.set_cons_zero, List.set_cons_succ, List.set_nil, List.getD_cons_zero, List.getD_cons_succ, Nat.reduceAdd, Nat.reduceLT, Nat.reduceSub, Nat.reduceEqDiff, if_true, if_false]
    have HN : Hid (1 ≤ 1 + a % 39 ∧ 1 + a % 39 ≤ 39) := ⟨by omega, by omega⟩
    obtain ⟨B1, hB1⟩ : ∃ B, inoB (1 + a % 39) x = B := ⟨_, rfl⟩
    obtain ⟨B2, hB2⟩ : ∃ B, inoB (1 + a % 39) y = B := ⟨_, rfl⟩
    have HBB1 := Lib.hid hB1
    have HBB2 := Lib.hid hB2
    clear hB1 hB2
    obtain ⟨t1, ht1⟩ : ∃ t, inoOk x = t := ⟨_, rfl⟩
    obtain ⟨t2, ht2⟩ : ∃ t, inoOk y = t := ⟨_, rfl⟩
    have HT1 := Lib.hid ht1
    have HT2 := Lib.hid ht2
    clear ht1 ht2
    go_wp2_with (refine wpList_load_ino rfl _ rfl gx _ x rfl HX9.out GX.out ?_)
    refine (encode_or (1 + a % 39) x t1 _ HX9.out HN.out HT1.out HXS.out (HT.out.up HB2.out)).mono ?_
    rintro e w3 ⟨⟨r1, E1, rfl, h1⟩, hb3⟩
    rw [HBB1.out] at h1
    have H1 := Lib.hid h1
    have GX3 := Lib.hid (GX.out.below hb3 GX.out.lt)
    have GY3 := Lib.hid (GY.out.below hb3 GY.out.lt)
    have HB3 := Lib.hid (HB2.out.trans (hb3.mono HB2.out.size))
    clear hb3 h1 GX GY HB2
    go_wp2_with (refine wpList_load_ino rfl _ rfl gy _ y rfl HY9.out GY3.out ?_)
    refine (encode_or (1 + a % 39) y t2 _ HY9.out HN.out HT2.out HYS.out (HT.out.up HB3.out)).mono ?_
    rintro e w4 ⟨⟨r2, E2, rfl, h2⟩, hb4⟩
    rw [HBB2.out] at h2
    have H2 := Lib.hid h2
    have HB34 := Lib.hid hb4
    have HB4 := Lib.hid (HB3.out.trans (hb4.mono HB3.out.size))
    have HK5 : Hid (∀ w', Below w4.heap.size w4 w' → Bk w' gx 27 (inoC x) ∧ Bk w' gy 27 (inoC y)) := fun w' hb =>
      ⟨(GX3.out.below hb4 GX3.out.lt).below hb (GX3.out.below hb4 GX3.out.lt).lt, (GY3.out.below hb4 GY3.out.lt).below hb (GY3.out.below hb4 GY3.out.lt).lt⟩
    clear hb4 h2 GX3 GY3 HB3
    go_upto_region 5 with fail
    go_cut [59] from 43 to 59 (fun s wc => s = .bool false ∧ Hid (Below w4.heap.size w4 wc))
    case first =>
      rcases H1.out with ⟨ht1, rfl, g1, rfl, hg1, hk1⟩ | ⟨ht1, rfl, rfl⟩
      · rcases H2.out with ⟨ht2, rfl, g2, rfl, hg2, hk2⟩ | ⟨ht2, rfl, rfl⟩
        · have HL1 : B1.length = 128 := by rw [← HBB1.out]; exact inoB_len _ x HX9.out
          have HL2' : B2.length = 128 := by rw [← HBB2.out]; exact inoB_len _ y HY9.out
          have HC1 : Hid (∀ w', Below w4.heap.size w4 w' → (convert 28 9 (.slice (some ⟨g1, 0, none⟩) 128 128)).run Tryd.prog w' = .ok (.string (str B1)) w') := fun w' hb =>
            run_conv 28 5 9 Tryd.underlying28 Tryd.underlying5 under_strI 128 128 HL1 (by simpa using Rd.bk ((hk1.below HB34.out hk1.lt).below hb (hk1.below HB34.out hk1.lt).lt))
          have HC2 : Hid (∀ w', Below w4.heap.size w4 w' → (convert 28 9 (.slice (some ⟨g2, 0, none⟩) 128 128)).run Tryd.prog w' = .ok (.string (str B2)) w') := fun w' hb =>
            run_conv 28 5 9 Tryd.underlying28 Tryd.underlying5 under_strI 128 128 HL2' (by simpa using Rd.bk (hk2.below hb hk2.lt))
          obtain ⟨u, hu⟩ : ∃ u, (B1 == B2) = u := ⟨_, rfl⟩
          have HE := Lib.hid (both hu)
          have HU : Hid (u = true ↔ x = y) := by
            show _ ↔ _
            rw [← hu, beq_iff_eq, ← HBB1.out, ← HBB2.out]
            exact inoB_inj HN.out (HT1.out.trans ht1) (HT2.out.trans ht2) HX9.out HY9.out HXS.out HYS.out
          clear hg1 hk1 hg2 hk2 hu HL1 HL2' ht1 ht2
          refine wp_region_tail (by kernel_rfl) 16 100 slotPC5 waitPC5 (leavePC5 0 (.slice (some ⟨g1, 0, none⟩) 128 128) (.slice (some ⟨g2, 0, none⟩) 128 128) B1 B2 x y u) rfl
            (by kernel_rfl) (fun i v w w' _ _ h => by unfold leavePC5 at *; split at h <;> exact h) ?_ ?_
          · intro i hi
            match i, hi with
            | 0, _ =>
              intro o ho a wc hk hb hd K hK
              cases ho
              have e0 := hk.rest 10 (.int .i64 0) (by omega) (by kernel_rfl) rfl
              rw [Array.getD_eq_getD_getElem?] at e0
              go_simp
              exact hK _ _ (Below.refl _ _) rfl
            | 1, _ =>
              intro o ho a wc hk hb hd K hK
              cases ho
              have e0 := hd 0 (by simp [waitPC5])
              simp only [leavePC5, slotPC5, Nat.reduceAdd, Array.getD_eq_getD_getElem?] at e0
              go_simp
              exact hK _ _ (Below.refl _ _) rfl
            | 2, _ =>
              intro o ho a wc hk hb hd K hK
              cases ho
              have e0 := hd 1 (by simp [waitPC5])
              simp only [leavePC5, slotPC5, Nat.reduceAdd, Array.getD_eq_getD_getElem?] at e0
              go_simp
              exact hK _ _ (Below.refl _ _) rfl
            | 3, _ =>
              intro o ho a wc hk hb hd K hK
              cases ho
              have e0 := hk.rest 12 (.int .i64 0) (by omega) (by kernel_rfl) rfl
              rw [Array.getD_eq_getD_getElem?] at e0
              have e1 := hd 2 (by simp [waitPC5])
              simp only [leavePC5, slotPC5, Nat.reduceAdd, Array.getD_eq_getD_getElem?] at e1
              have gs := hk.some_ (s := 45) (by omega) e1
              go_simp
              exact hK _ _ (Below.refl _ _) rfl
            | 4, _ =>
              intro o ho a wc hk hb hd K hK
              cases ho
              have e0 := hd 2 (by simp [waitPC5])
              have e1 := hd 3 (by simp [waitPC5])
              simp only [leavePC5, slotPC5, Nat.reduceAdd, Array.getD_eq_getD_getElem?] at e0 e1
              have gs := hk.some_ (s := 45) (by omega) e0
              go_simp
              exact hK _ _ (Below.refl _ _) rfl
            | 5, _ =>
              intro o ho a wc hk hb hd K hK
              cases ho
              have e0 := hd 2 (by simp [waitPC5])
              have e1 := hd 4 (by simp [waitPC5])
              simp only [leavePC5, slotPC5, Nat.reduceAdd, Array.getD_eq_getD_getElem?] at e0 e1
              go_simp
              exact hK _ _ (Below.refl _ _) rfl
            | 6, _ =>
              intro o ho a wc hk hb hd K hK
              cases ho
              have e0 := hd 5 (by simp [waitPC5])
              simp only [leavePC5, slotPC5, Nat.reduceAdd, Array.getD_eq_getD_getElem?] at e0
              go_simp
              exact hK _ _ (Below.refl _ _) rfl
            | 7, _ =>
              intro o ho a wc hk hb hd K hK
              cases ho
              have e0 := hk.rest 9 ((.slice (some ⟨g1, 0, none⟩) 128 128)) (by omega) (by kernel_rfl) rfl
              rw [Array.getD_eq_getD_getElem?] at e0
              have e1 := hd 6 (by simp [waitPC5])
              simp only [leavePC5, slotPC5, Nat.reduceAdd, Array.getD_eq_getD_getElem?] at e1
              have gs := hk.some_ (s := 49) (by omega) e1
              go_simp
              exact hK _ _ (Below.refl _ _) rfl
            | 8, _ =>
              intro o ho a wc hk hb hd K hK
              cases ho
              have e0 := hd 6 (by simp [waitPC5])
              have e1 := hd 7 (by simp [waitPC5])
              simp only [leavePC5, slotPC5, Nat.reduceAdd, Array.getD_eq_getD_getElem?] at e0 e1
              have gs := hk.some_ (s := 49) (by omega) e0
              have hcv := HC1.out wc hb
              go_simp
              exact hK _ _ (Below.refl _ _) rfl
            | 9, _ =>
              intro o ho a wc hk hb hd K hK
              cases ho
              have e0 := hk.rest 11 ((.slice (some ⟨g2, 0, none⟩) 128 128)) (by omega) (by kernel_rfl) rfl
              rw [Array.getD_eq_getD_getElem?] at e0
              have e1 := hd 6 (by simp [waitPC5])
              simp only [leavePC5, slotPC5, Nat.reduceAdd, Array.getD_eq_getD_getElem?] at e1
              have gs := hk.some_ (s := 49) (by omega) e1
              go_simp
              exact hK _ _ (Below.refl _ _) rfl
            | 10, _ =>
              intro o ho a wc hk hb hd K hK
              cases ho
              have e0 := hd 6 (by simp [waitPC5])
              have e1 := hd 9 (by simp [waitPC5])
              simp only [leavePC5, slotPC5, Nat.reduceAdd, Array.getD_eq_getD_getElem?] at e0 e1
              have gs := hk.some_ (s := 49) (by omega) e0
              have hcv := HC2.out wc hb
              go_simp
              exact hK _ _ (Below.refl _ _) rfl
            | 11, _ =>
              intro o ho a wc hk hb hd K hK
              cases ho
              have e0 := hd 6 (by simp [waitPC5])
              have e1 := hd 8 (by simp [waitPC5])
              have e2 := hd 10 (by simp [waitPC5])
              simp only [leavePC5, slotPC5, Nat.reduceAdd, Array.getD_eq_getD_getElem?] at e0 e1 e2
              have gs := hk.some_ (s := 49) (by omega) e0
              have hE := HE.out
              go_simp
              exact hK _ _ (Below.refl _ _) rfl
            | 12, _ =>
              intro o ho a wc hk hb hd K hK
              cases ho
              have e0 := hk.rest 4 (.pointer (some ⟨gx, 0, none⟩)) (by omega) (by kernel_rfl) rfl
              rw [Array.getD_eq_getD_getElem?] at e0
              have e1 := hd 6 (by simp [waitPC5])
              simp only [leavePC5, slotPC5, Nat.reduceAdd, Array.getD_eq_getD_getElem?] at e1
              have gs := hk.some_ (s := 49) (by omega) e1
              refine (if_pos (show Region.wanted _ _ = true from by simp [Region.wanted, yielded, gs])).mpr ?_
              rw [← Array.getD_eq_getD_getElem?] at e0
              exact wp_load_inoAt _ rfl gx 0 x e0 HX9.out (ino_range (HK5.out _ hb).1) (hK _ _ (Below.refl _ _) rfl)
            | 13, _ =>
              intro o ho a wc hk hb hd K hK
              cases ho
              have e0 := hk.rest 5 (.pointer (some ⟨gy, 0, none⟩)) (by omega) (by kernel_rfl) rfl
              rw [Array.getD_eq_getD_getElem?] at e0
              have e1 := hd 6 (by simp [waitPC5])
              simp only [leavePC5, slotPC5, Nat.reduceAdd, Array.getD_eq_getD_getElem?] at e1
              have gs := hk.some_ (s := 49) (by omega) e1
              refine (if_pos (show Region.wanted _ _ = true from by simp [Region.wanted, yielded, gs])).mpr ?_
              rw [← Array.getD_eq_getD_getElem?] at e0
              exact wp_load_inoAt _ rfl gy 0 y e0 HY9.out (ino_range (HK5.out _ hb).2) (hK _ _ (Below.refl _ _) rfl)
            | 14, _ =>
              intro o ho a wc hk hb hd K hK
              cases ho
              have e0 := hd 6 (by simp [waitPC5])
              have e1 := hd 12 (by simp [waitPC5])
              have e2 := hd 13 (by simp [waitPC5])
              simp only [leavePC5, slotPC5, Nat.reduceAdd, Array.getD_eq_getD_getElem?] at e0 e1 e2
              have gs := hk.some_ (s := 49) (by omega) e0
              refine (if_pos (show Region.wanted _ _ = true from by simp [Region.wanted, yielded, gs])).mpr ?_
              rw [← Array.getD_eq_getD_getElem?] at e1 e2
              exact wp_eql_ino _ _ _ rfl x y u e1 e2 HX9.out HY9.out HXI.out HYI.out HU.out (hK _ _ (Below.refl _ _) rfl)
            | 15, _ =>
              intro o ho a wc hk hb hd K hK
              cases ho
              have e0 := hd 6 (by simp [waitPC5])
              have e1 := hd 11 (by simp [waitPC5])
              have e2 := hd 14 (by simp [waitPC5])
              simp only [leavePC5, slotPC5, Nat.reduceAdd, Array.getD_eq_getD_getElem?] at e0 e1 e2
              have gs := hk.some_ (s := 49) (by omega) e0
              go_simp
              exact hK _ _ (Below.refl _ _) rfl
            | _ + 16, h => exact absurd h (by omega)
          · intro vals w5 hb hR
            have v0 := hR 0 (by omega)
            have v1 := hR 1 (by omega)
            have v2 := hR 2 (by omega)
            have v3 := hR 3 (by omega)
            have v4 := hR 4 (by omega)
            have v5 := hR 5 (by omega)
            have v6 := hR 6 (by omega)
            have v7 := hR 7 (by omega)
            have v8 := hR 8 (by omega)
            have v9 := hR 9 (by omega)
            have v10 := hR 10 (by omega)
            have v11 := hR 11 (by omega)
            have v12 := hR 12 (by omega)
            have v13 := hR 13 (by omega)
            have v14 := hR 14 (by omega)
            have v15 := hR 15 (by omega)
            simp only [leavePC5] at v0 v1 v2 v3 v4 v5 v6 v7 v8 v9 v10 v11 v12 v13 v14 v15
            clear hR
            simp only [putAll, slotPC5, Nat.reduceAdd, List.setIfInBounds_toArray, List.set_cons_zero, List.set_cons_succ, List.drop_succ_cons, List.drop_zero, v0, v1, v2, v3, v4, v5, v6, v7, v8, v9, v10, v11, v12, v13, v14, v15]
            clear v0 v1 v2 v3 v4 v5 v6 v7 v8 v9 v10 v11 v12 v13 v14 v15
            have hbb := Lib.hid hb
            clear hb
            go_wp2_with fail
            go_meet
            exact ⟨rfl, hbb.out⟩
        · clear hg1 hk1 ht1 ht2
          refine wp_region_tail (by kernel_rfl) 16 100 slotPB5 waitPB5 (leavePB5 1 (.slice (some ⟨g1, 0, none⟩) 128 128) (.slice none 0 0) [] [] x y false) rfl
            (by kernel_rfl) (fun i v w w' _ _ h => by unfold leavePB5 at *; split at h <;> exact h) ?_ ?_
          · intro i hi
            match i, hi with
            | 0, _ =>
              intro o ho a wc hk hb hd K hK
              cases ho
              have e0 := hk.rest 10 (.int .i64 0) (by omega) (by kernel_rfl) rfl
              rw [Array.getD_eq_getD_getElem?] at e0
              go_simp
              exact hK _ _ (Below.refl _ _) rfl
            | 1, _ =>
              intro o ho a wc hk hb hd K hK
              cases ho
              have e0 := hd 0 (by simp [waitPB5])
              simp only [leavePB5, slotPB5, Nat.reduceAdd, Array.getD_eq_getD_getElem?] at e0
              go_simp
              exact hK _ _ (Below.refl _ _) rfl
            | 2, _ =>
              intro o ho a wc hk hb hd K hK
              cases ho
              have e0 := hd 1 (by simp [waitPB5])
              simp only [leavePB5, slotPB5, Nat.reduceAdd, Array.getD_eq_getD_getElem?] at e0
              go_simp
              exact hK _ _ (Below.refl _ _) rfl
            | 3, _ =>
              intro o ho a wc hk hb hd K hK
              cases ho
              have e0 := hk.rest 12 (.int .i64 1) (by omega) (by kernel_rfl) rfl
              rw [Array.getD_eq_getD_getElem?] at e0
              have e1 := hd 2 (by simp [waitPB5])
              simp only [leavePB5, slotPB5, Nat.reduceAdd, Array.getD_eq_getD_getElem?] at e1
              have gs := hk.some_ (s := 45) (by omega) e1
              go_simp
              exact hK _ _ (Below.refl _ _) rfl
            | 4, _ =>
              intro o ho a wc hk hb hd K hK
              cases ho
              have e0 := hd 2 (by simp [waitPB5])
              have e1 := hd 3 (by simp [waitPB5])
              simp only [leavePB5, slotPB5, Nat.reduceAdd, Array.getD_eq_getD_getElem?] at e0 e1
              have gs := hk.some_ (s := 45) (by omega) e0
              go_simp
              exact hK _ _ (Below.refl _ _) rfl
            | 5, _ =>
              intro o ho a wc hk hb hd K hK
              cases ho
              have e0 := hd 2 (by simp [waitPB5])
              have e1 := hd 4 (by simp [waitPB5])
              simp only [leavePB5, slotPB5, Nat.reduceAdd, Array.getD_eq_getD_getElem?] at e0 e1
              go_simp
              exact hK _ _ (Below.refl _ _) rfl
            | 6, _ =>
              intro o ho a wc hk hb hd K hK
              cases ho
              have e0 := hd 5 (by simp [waitPB5])
              simp only [leavePB5, slotPB5, Nat.reduceAdd, Array.getD_eq_getD_getElem?] at e0
              go_simp
              exact hK _ _ (Below.refl _ _) rfl
            | 7, _ =>
              intro o ho a wc hk hb hd K hK
              cases ho
              have e0 := hk.rest 9 ((.slice (some ⟨g1, 0, none⟩) 128 128)) (by omega) (by kernel_rfl) rfl
              rw [Array.getD_eq_getD_getElem?] at e0
              have e1 := hd 6 (by simp [waitPB5])
              simp only [leavePB5, slotPB5, Nat.reduceAdd, Array.getD_eq_getD_getElem?] at e1
              have gs := hk.some_ (s := 49) (by omega) e1
              go_simp
              exact hK _ _ (Below.refl _ _) rfl
            | 8, _ =>
              intro o ho a wc hk hb hd K hK
              cases ho
              have e0 := hd 6 (by simp [waitPB5])
              have e1 := hd 7 (by simp [waitPB5])
              simp only [leavePB5, slotPB5, Nat.reduceAdd, Array.getD_eq_getD_getElem?] at e0 e1
              have gs := hk.some_ (s := 49) (by omega) e0
              go_simp
              exact hK _ _ (Below.refl _ _) rfl
            | 9, _ =>
              intro o ho a wc hk hb hd K hK
              cases ho
              have e0 := hk.rest 11 ((.slice none 0 0)) (by omega) (by kernel_rfl) rfl
              rw [Array.getD_eq_getD_getElem?] at e0
              have e1 := hd 6 (by simp [waitPB5])
              simp only [leavePB5, slotPB5, Nat.reduceAdd, Array.getD_eq_getD_getElem?] at e1
              have gs := hk.some_ (s := 49) (by omega) e1
              go_simp
              exact hK _ _ (Below.refl _ _) rfl
            | 10, _ =>
              intro o ho a wc hk hb hd K hK
              cases ho
              have e0 := hd 6 (by simp [waitPB5])
              have e1 := hd 9 (by simp [waitPB5])
              simp only [leavePB5, slotPB5, Nat.reduceAdd, Array.getD_eq_getD_getElem?] at e0 e1
              have gs := hk.some_ (s := 49) (by omega) e0
              go_simp
              exact hK _ _ (Below.refl _ _) rfl
            | 11, _ =>
              intro o ho a wc hk hb hd K hK
              cases ho
              have e0 := hd 6 (by simp [waitPB5])
              have e1 := hd 8 (by simp [waitPB5])
              have e2 := hd 10 (by simp [waitPB5])
              simp only [leavePB5, slotPB5, Nat.reduceAdd, Array.getD_eq_getD_getElem?] at e0 e1 e2
              have gs := hk.some_ (s := 49) (by omega) e0
              go_simp
              exact hK _ _ (Below.refl _ _) rfl
            | 12, _ =>
              intro o ho a wc hk hb hd K hK
              cases ho
              have e0 := hk.rest 4 (.pointer (some ⟨gx, 0, none⟩)) (by omega) (by kernel_rfl) rfl
              rw [Array.getD_eq_getD_getElem?] at e0
              have e1 := hd 6 (by simp [waitPB5])
              simp only [leavePB5, slotPB5, Nat.reduceAdd, Array.getD_eq_getD_getElem?] at e1
              have gs := hk.some_ (s := 49) (by omega) e1
              go_simp
              exact hK _ _ (Below.refl _ _) rfl
            | 13, _ =>
              intro o ho a wc hk hb hd K hK
              cases ho
              have e0 := hk.rest 5 (.pointer (some ⟨gy, 0, none⟩)) (by omega) (by kernel_rfl) rfl
              rw [Array.getD_eq_getD_getElem?] at e0
              have e1 := hd 6 (by simp [waitPB5])
              simp only [leavePB5, slotPB5, Nat.reduceAdd, Array.getD_eq_getD_getElem?] at e1
              have gs := hk.some_ (s := 49) (by omega) e1
              go_simp
              exact hK _ _ (Below.refl _ _) rfl
            | 14, _ =>
              intro o ho a wc hk hb hd K hK
              cases ho
              have e0 := hd 6 (by simp [waitPB5])
              have e1 := hd 12 (by simp [waitPB5])
              have e2 := hd 13 (by simp [waitPB5])
              simp only [leavePB5, slotPB5, Nat.reduceAdd, Array.getD_eq_getD_getElem?] at e0 e1 e2
              have gs := hk.some_ (s := 49) (by omega) e0
              go_simp
              exact hK _ _ (Below.refl _ _) rfl
            | 15, _ =>
              intro o ho a wc hk hb hd K hK
              cases ho
              have e0 := hd 6 (by simp [waitPB5])
              have e1 := hd 11 (by simp [waitPB5])
              have e2 := hd 14 (by simp [waitPB5])
              simp only [leavePB5, slotPB5, Nat.reduceAdd, Array.getD_eq_getD_getElem?] at e0 e1 e2
              have gs := hk.some_ (s := 49) (by omega) e0
              go_simp
              exact hK _ _ (Below.refl _ _) rfl
            | _ + 16, h => exact absurd h (by omega)
          · intro vals w5 hb hR
            have v0 := hR 0 (by omega)
            have v1 := hR 1 (by omega)
            have v2 := hR 2 (by omega)
            have v3 := hR 3 (by omega)
            have v4 := hR 4 (by omega)
            have v5 := hR 5 (by omega)
            have v6 := hR 6 (by omega)
            have v7 := hR 7 (by omega)
            have v8 := hR 8 (by omega)
            have v9 := hR 9 (by omega)
            have v10 := hR 10 (by omega)
            have v11 := hR 11 (by omega)
            have v12 := hR 12 (by omega)
            have v13 := hR 13 (by omega)
            have v14 := hR 14 (by omega)
            have v15 := hR 15 (by omega)
            simp only [leavePB5] at v0 v1 v2 v3 v4 v5 v6 v7 v8 v9 v10 v11 v12 v13 v14 v15
            clear hR
            simp only [putAll, slotPB5, Nat.reduceAdd, List.setIfInBounds_toArray, List.set_cons_zero, List.set_cons_succ, List.drop_succ_cons, List.drop_zero, v0, v1, v2, v3, v4, v5, v6, v7, v8, v9, v10, v11, v12, v13, v14, v15]
            clear v0 v1 v2 v3 v4 v5 v6 v7 v8 v9 v10 v11 v12 v13 v14 v15
            have hbb := Lib.hid hb
            clear hb
            go_wp2_with fail
            go_meet
            exact ⟨rfl, hbb.out⟩
      · clear ht1
        refine wp_region_tail (by kernel_rfl) 16 100 slotPA5 waitPA5 (leavePA5 E2 (.slice none 0 0) r2 [] [] x y false) rfl
          (by kernel_rfl) (fun i v w w' _ _ h => by unfold leavePA5 at *; split at h <;> exact h) ?_ ?_
        · intro i hi
          match i, hi with
          | 0, _ =>
            intro o ho a wc hk hb hd K hK
            cases ho
            have e0 := hk.rest 10 (.int .i64 1) (by omega) (by kernel_rfl) rfl
            rw [Array.getD_eq_getD_getElem?] at e0
            go_simp
            exact hK _ _ (Below.refl _ _) rfl
          | 1, _ =>
            intro o ho a wc hk hb hd K hK
            cases ho
            have e0 := hd 0 (by simp [waitPA5])
            simp only [leavePA5, slotPA5, Nat.reduceAdd, Array.getD_eq_getD_getElem?] at e0
            go_simp
            exact hK _ _ (Below.refl _ _) rfl
          | 2, _ =>
            intro o ho a wc hk hb hd K hK
            cases ho
            have e0 := hd 1 (by simp [waitPA5])
            simp only [leavePA5, slotPA5, Nat.reduceAdd, Array.getD_eq_getD_getElem?] at e0
            go_simp
            exact hK _ _ (Below.refl _ _) rfl
          | 3, _ =>
            intro o ho a wc hk hb hd K hK
            cases ho
            have e0 := hk.rest 12 (.int .i64 E2) (by omega) (by kernel_rfl) rfl
            rw [Array.getD_eq_getD_getElem?] at e0
            have e1 := hd 2 (by simp [waitPA5])
            simp only [leavePA5, slotPA5, Nat.reduceAdd, Array.getD_eq_getD_getElem?] at e1
            have gs := hk.some_ (s := 45) (by omega) e1
            go_simp
            exact hK _ _ (Below.refl _ _) rfl
          | 4, _ =>
            intro o ho a wc hk hb hd K hK
            cases ho
            have e0 := hd 2 (by simp [waitPA5])
            have e1 := hd 3 (by simp [waitPA5])
            simp only [leavePA5, slotPA5, Nat.reduceAdd, Array.getD_eq_getD_getElem?] at e0 e1
            have gs := hk.some_ (s := 45) (by omega) e0
            go_simp
            exact hK _ _ (Below.refl _ _) rfl
          | 5, _ =>
            intro o ho a wc hk hb hd K hK
            cases ho
            have e0 := hd 2 (by simp [waitPA5])
            have e1 := hd 4 (by simp [waitPA5])
            simp only [leavePA5, slotPA5, Nat.reduceAdd, Array.getD_eq_getD_getElem?] at e0 e1
            go_simp
            exact hK _ _ (Below.refl _ _) rfl
          | 6, _ =>
            intro o ho a wc hk hb hd K hK
            cases ho
            have e0 := hd 5 (by simp [waitPA5])
            simp only [leavePA5, slotPA5, Nat.reduceAdd, Array.getD_eq_getD_getElem?] at e0
            go_simp
            exact hK _ _ (Below.refl _ _) rfl
          | 7, _ =>
            intro o ho a wc hk hb hd K hK
            cases ho
            have e0 := hk.rest 9 ((.slice none 0 0)) (by omega) (by kernel_rfl) rfl
            rw [Array.getD_eq_getD_getElem?] at e0
            have e1 := hd 6 (by simp [waitPA5])
            simp only [leavePA5, slotPA5, Nat.reduceAdd, Array.getD_eq_getD_getElem?] at e1
            have gs := hk.some_ (s := 49) (by omega) e1
            go_simp
            exact hK _ _ (Below.refl _ _) rfl
          | 8, _ =>
            intro o ho a wc hk hb hd K hK
            cases ho
            have e0 := hd 6 (by simp [waitPA5])
            have e1 := hd 7 (by simp [waitPA5])
            simp only [leavePA5, slotPA5, Nat.reduceAdd, Array.getD_eq_getD_getElem?] at e0 e1
            have gs := hk.some_ (s := 49) (by omega) e0
            go_simp
            exact hK _ _ (Below.refl _ _) rfl
          | 9, _ =>
            intro o ho a wc hk hb hd K hK
            cases ho
            have e0 := hk.rest 11 (r2) (by omega) (by kernel_rfl) rfl
            rw [Array.getD_eq_getD_getElem?] at e0
            have e1 := hd 6 (by simp [waitPA5])
            simp only [leavePA5, slotPA5, Nat.reduceAdd, Array.getD_eq_getD_getElem?] at e1
            have gs := hk.some_ (s := 49) (by omega) e1
            go_simp
            exact hK _ _ (Below.refl _ _) rfl
          | 10, _ =>
            intro o ho a wc hk hb hd K hK
            cases ho
            have e0 := hd 6 (by simp [waitPA5])
            have e1 := hd 9 (by simp [waitPA5])
            simp only [leavePA5, slotPA5, Nat.reduceAdd, Array.getD_eq_getD_getElem?] at e0 e1
            have gs := hk.some_ (s := 49) (by omega) e0
            go_simp
            exact hK _ _ (Below.refl _ _) rfl
          | 11, _ =>
            intro o ho a wc hk hb hd K hK
            cases ho
            have e0 := hd 6 (by simp [waitPA5])
            have e1 := hd 8 (by simp [waitPA5])
            have e2 := hd 10 (by simp [waitPA5])
            simp only [leavePA5, slotPA5, Nat.reduceAdd, Array.getD_eq_getD_getElem?] at e0 e1 e2
            have gs := hk.some_ (s := 49) (by omega) e0
            go_simp
            exact hK _ _ (Below.refl _ _) rfl
          | 12, _ =>
            intro o ho a wc hk hb hd K hK
            cases ho
            have e0 := hk.rest 4 (.pointer (some ⟨gx, 0, none⟩)) (by omega) (by kernel_rfl) rfl
            rw [Array.getD_eq_getD_getElem?] at e0
            have e1 := hd 6 (by simp [waitPA5])
            simp only [leavePA5, slotPA5, Nat.reduceAdd, Array.getD_eq_getD_getElem?] at e1
            have gs := hk.some_ (s := 49) (by omega) e1
            go_simp
            exact hK _ _ (Below.refl _ _) rfl
          | 13, _ =>
            intro o ho a wc hk hb hd K hK
            cases ho
            have e0 := hk.rest 5 (.pointer (some ⟨gy, 0, none⟩)) (by omega) (by kernel_rfl) rfl
            rw [Array.getD_eq_getD_getElem?] at e0
            have e1 := hd 6 (by simp [waitPA5])
            simp only [leavePA5, slotPA5, Nat.reduceAdd, Array.getD_eq_getD_getElem?] at e1
            have gs := hk.some_ (s := 49) (by omega) e1
            go_simp
            exact hK _ _ (Below.refl _ _) rfl
          | 14, _ =>
            intro o ho a wc hk hb hd K hK
            cases ho
            have e0 := hd 6 (by simp [waitPA5])
            have e1 := hd 12 (by simp [waitPA5])
            have e2 := hd 13 (by simp [waitPA5])
            simp only [leavePA5, slotPA5, Nat.reduceAdd, Array.getD_eq_getD_getElem?] at e0 e1 e2
            have gs := hk.some_ (s := 49) (by omega) e0
            go_simp
            exact hK _ _ (Below.refl _ _) rfl
          | 15, _ =>
            intro o ho a wc hk hb hd K hK
            cases ho
            have e0 := hd 6 (by simp [waitPA5])
            have e1 := hd 11 (by simp [waitPA5])
            have e2 := hd 14 (by simp [waitPA5])
            simp only [leavePA5, slotPA5, Nat.reduceAdd, Array.getD_eq_getD_getElem?] at e0 e1 e2
            have gs := hk.some_ (s := 49) (by omega) e0
            go_simp
            exact hK _ _ (Below.refl _ _) rfl
          | _ + 16, h => exact absurd h (by omega)
        · intro vals w5 hb hR
          have v0 := hR 0 (by omega)
          have v1 := hR 1 (by omega)
          have v2 := hR 2 (by omega)
          have v3 := hR 3 (by omega)
          have v4 := hR 4 (by omega)
          have v5 := hR 5 (by omega)
          have v6 := hR 6 (by omega)
          have v7 := hR 7 (by omega)
          have v8 := hR 8 (by omega)
          have v9 := hR 9 (by omega)
          have v10 := hR 10 (by omega)
          have v11 := hR 11 (by omega)
          have v12 := hR 12 (by omega)
          have v13 := hR 13 (by omega)
          have v14 := hR 14 (by omega)
          have v15 := hR 15 (by omega)
          simp only [leavePA5] at v0 v1 v2 v3 v4 v5 v6 v7 v8 v9 v10 v11 v12 v13 v14 v15
          clear hR
          simp only [putAll, slotPA5, Nat.reduceAdd, List.setIfInBounds_toArray, List.set_cons_zero, List.set_cons_succ, List.drop_succ_cons, List.drop_zero, v0, v1, v2, v3, v4, v5, v6, v7, v8, v9, v10, v11, v12, v13, v14, v15]
          clear v0 v1 v2 v3 v4 v5 v6 v7 v8 v9 v10 v11 v12 v13 v14 v15
          have hbb := Lib.hid hb
          clear hb
          go_wp2_with fail
          go_meet
          exact ⟨rfl, hbb.out⟩
    case rest =>
      obtain ⟨rfl, HBC⟩ := hcut
      have HB5 := Lib.hid (HB4.out.trans (HBC.out.mono HB4.out.size))
      clear HBC HB4 HB34 HK5 H1 H2 HBB1 HBB2
      obtain ⟨L, hL⟩ : ∃ L, l.take 20 = L := ⟨_, rfl⟩
      obtain ⟨nl, hnl⟩ : ∃ nl, L.length = nl := ⟨_, rfl⟩
      obtain ⟨P, hP⟩ : ∃ P, m.take 20 = P := ⟨_, rfl⟩
      obtain ⟨ml, hml⟩ : ∃ ml, P.length = ml := ⟨_, rfl⟩
      have HNL : Hid (nl ≤ 20 ∧ (n ≤ 20 → nl = n) ∧ (20 < n → nl = 20)) := by
        have := HL.out
        rw [← hL, List.length_take] at hnl
        exact ⟨by omega, by omega, by omega⟩
      have HML : Hid (ml ≤ 20 ∧ (n' ≤ 20 → ml = n') ∧ (20 < n' → ml = 20)) := by
        have := HL2.out
        rw [← hP, List.length_take] at hml
        exact ⟨by omega, by omega, by omega⟩
      have HLN := Lib.hid hnl
      have HPN := Lib.hid hml
      have HRL : Hid (Rd w w.heap.size A (prsV L)) := by show Rd _ _ _ _; rw [← hL, prsV_take]; exact HR.out.take _
      have HRP : Hid (Rd w w.heap.size A' (prsV P)) := by show Rd _ _ _ _; rw [← hP, prsV_take]; exact HR2.out.take _
      have HSL : Hid (prSums L) := by show prSums _; rw [← hL]; exact prSums_take HS.out 20
      have HSP : Hid (prSums P) := by show prSums _; rw [← hP]; exact prSums_take HS2.out 20
      clear hL hnl hP hml
      go_upto_if 62 with fail
      go_cut [6] from 63 to 64 (fun s wx => wc = wx ∧ s = .slice A nl c)
      case first =>
        by_cases h : n ≤ 20
        · have hno : ¬ (20 : Int) < (n : Int) := by omega
          have hE := HNL.out.2.1 h
          go_wp2_with fail
          go_meet
          exact ⟨rfl, by rw [hE]⟩
        · obtain ⟨bb, oo, rfl, _, _⟩ := HR.out.plain (by rw [prsV_length]; have := HL.out; omega)
          have hyes : (20 : Int) < (n : Int) := by omega
          have h2 : n ≤ c := HLC.out.1
          have h3 := HLC.out.2
          unfold maxLen at h3
          have hE := HNL.out.2.2 (by omega)
          go_wp2_with fail
          go_meet
          exact ⟨rfl, by rw [hE]⟩
      case rest =>
        obtain ⟨rfl, rfl⟩ := hcut
        go_upto_if 67 with fail
        go_cut [7] from 68 to 69 (fun s wx => wc = wx ∧ s = .slice A' ml c')
        case first =>
          by_cases h : n' ≤ 20
          · have hno : ¬ (20 : Int) < (n' : Int) := by omega
            have hE := HML.out.2.1 h
            go_wp2_with fail
            go_meet
            exact ⟨rfl, by rw [hE]⟩
          · obtain ⟨bb, oo, rfl, _, _⟩ := HR2.out.plain (by rw [prsV_length]; have := HL2.out; omega)
            have hyes : (20 : Int) < (n' : Int) := by omega
            have h2 : n' ≤ c' := HLC2.out.1
            have h3 := HLC2.out.2
            unfold maxLen at h3
            have hE := HML.out.2.2 (by omega)
            go_wp2_with fail
            go_meet
            exact ⟨rfl, by rw [hE]⟩
        case rest =>
          obtain ⟨rfl, rfl⟩ := hcut
          obtain ⟨t3, ht3⟩ : ∃ t, nodOk L = t := ⟨_, rfl⟩
          obtain ⟨t4, ht4⟩ : ∃ t, nodOk P = t := ⟨_, rfl⟩
          have HT3 := Lib.hid ht3
          have HT4 := Lib.hid ht4
          obtain ⟨B1, hB1⟩ : ∃ B, nodB L = B := ⟨_, rfl⟩
          obtain ⟨B2, hB2⟩ : ∃ B, nodB P = B := ⟨_, rfl⟩
          have HBB1 := Lib.hid hB1
          have HBB2 := Lib.hid hB2
          clear ht3 ht4 hB1 hB2
          go_wp2_with fail
          refine (node_or A nl c L t3 _ HLN.out HNL.out.1 ((HRL.out.below HB5.out).mono HB5.out.size) HT3.out HSL.out (HT.out.up HB5.out)).mono ?_
          rintro e w7 ⟨⟨r3, E3, rfl, h1⟩, hb7⟩
          rw [HBB1.out] at h1
          have H1 := Lib.hid h1
          have HB7 := Lib.hid (HB5.out.trans (hb7.mono HB5.out.size))
          clear hb7 h1 HB5
          go_wp2_with fail
          refine (node_or A' ml c' P t4 _ HPN.out HML.out.1 ((HRP.out.below HB7.out).mono HB7.out.size) HT4.out HSP.out (HT.out.up HB7.out)).mono ?_
          rintro e w9 ⟨⟨r4, E4, rfl, h2⟩, hb9⟩
          rw [HBB2.out] at h2
          have H2 := Lib.hid h2
          have HB79 := Lib.hid hb9
          have HB9 := Lib.hid (HB7.out.trans (hb9.mono HB7.out.size))
          have HAW := Lib.hid (fun w' (hb : Below w9.heap.size w9 w') => awakeI_any w' (HT.out.up (HB9.out.trans (hb.mono HB9.out.size))))
          clear hb9 h2 HB7
          go_upto_region 13 with fail
          rcases H1.out with ⟨ht1, rfl, g1, rfl, hg1, hk1⟩ | ⟨ht1, rfl, rfl⟩
          · rcases H2.out with ⟨ht2, rfl, g2, rfl, hg2, hk2⟩ | ⟨ht2, rfl, rfl⟩
            · obtain ⟨l1, o1⟩ := nodOk_yes (HT3.out.trans ht1)
              obtain ⟨l2, o2⟩ := nodOk_yes (HT4.out.trans ht2)
              have HL1 : B1.length = 128 := by rw [← HBB1.out]; exact nodB_len L l1
              have HL2' : B2.length = 128 := by rw [← HBB2.out]; exact nodB_len P l2
              have HC1 : Hid (∀ w', Below w9.heap.size w9 w' → (convert 28 9 (.slice (some ⟨g1, 0, none⟩) 128 128)).run Tryd.prog w' = .ok (.string (str B1)) w') := fun w' hb =>
                run_conv 28 5 9 Tryd.underlying28 Tryd.underlying5 under_strI 128 128 HL1 (by simpa using Rd.bk ((hk1.below HB79.out hk1.lt).below hb (hk1.below HB79.out hk1.lt).lt))
              have HC2 : Hid (∀ w', Below w9.heap.size w9 w' → (convert 28 9 (.slice (some ⟨g2, 0, none⟩) 128 128)).run Tryd.prog w' = .ok (.string (str B2)) w') := fun w' hb =>
                run_conv 28 5 9 Tryd.underlying28 Tryd.underlying5 under_strI 128 128 HL2' (by simpa using Rd.bk (hk2.below hb hk2.lt))
              obtain ⟨u, hu⟩ : ∃ u, (B1 == B2) = u := ⟨_, rfl⟩
              have HE := Lib.hid (both hu)
              have hU : u = true ↔ L = P := by
                rw [← hu, beq_iff_eq, ← HBB1.out, ← HBB2.out]
                exact nodB_inj l1 l2 o1 o2 HSL.out HSP.out
              have HSM := Lib.hid (fun w' (hb : Below w9.heap.size w9 w') => refSameI_any w.heap.size w.heap.size A A' nl c ml c' L P u w' HLN.out HPN.out (by have := HNL.out.1; omega) (by have := HML.out.1; omega) (HRL.out.below (HB9.out.trans (hb.mono HB9.out.size))) (HRP.out.below (HB9.out.trans (hb.mono HB9.out.size))) (HB9.out.trans (hb.mono HB9.out.size)).size (HB9.out.trans (hb.mono HB9.out.size)).size hU)
              clear hg1 hk1 hg2 hk2 hu HL1 HL2' ht1 ht2 l1 o1 l2 o2 hU
              refine wp_region_tail (by kernel_rfl) 20 100 slotPC13 waitPC13 (leavePC13 0 (.slice (some ⟨g1, 0, none⟩) 128 128) (.slice (some ⟨g2, 0, none⟩) 128 128) (.slice A nl c) (.slice A' ml c') B1 B2 u) rfl
                (by kernel_rfl) (fun i v w w' _ _ h => by unfold leavePC13 at *; split at h <;> exact h) ?_ ?_
              · intro i hi
                match i, hi with
                | 0, _ =>
                  intro o ho a wc hk hb hd K hK
                  cases ho
                  have e0 := hk.rest 14 (.int .i64 0) (by omega) (by kernel_rfl) rfl
                  rw [Array.getD_eq_getD_getElem?] at e0
                  go_simp
                  exact hK _ _ (Below.refl _ _) rfl
                | 1, _ =>
                  intro o ho a wc hk hb hd K hK
                  cases ho
                  have e0 := hd 0 (by simp [waitPC13])
                  simp only [leavePC13, slotPC13, Nat.reduceAdd, Array.getD_eq_getD_getElem?] at e0
                  go_simp
                  exact hK _ _ (Below.refl _ _) rfl
                | 2, _ =>
                  intro o ho a wc hk hb hd K hK
                  cases ho
                  have e0 := hd 1 (by simp [waitPC13])
                  simp only [leavePC13, slotPC13, Nat.reduceAdd, Array.getD_eq_getD_getElem?] at e0
                  go_simp
                  exact hK _ _ (Below.refl _ _) rfl
                | 3, _ =>
                  intro o ho a wc hk hb hd K hK
                  cases ho
                  have e0 := hk.rest 16 (.int .i64 0) (by omega) (by kernel_rfl) rfl
                  rw [Array.getD_eq_getD_getElem?] at e0
                  have e1 := hd 2 (by simp [waitPC13])
                  simp only [leavePC13, slotPC13, Nat.reduceAdd, Array.getD_eq_getD_getElem?] at e1
                  have gs := hk.some_ (s := 82) (by omega) e1
                  go_simp
                  exact hK _ _ (Below.refl _ _) rfl
                | 4, _ =>
                  intro o ho a wc hk hb hd K hK
                  cases ho
                  have e0 := hd 2 (by simp [waitPC13])
                  have e1 := hd 3 (by simp [waitPC13])
                  simp only [leavePC13, slotPC13, Nat.reduceAdd, Array.getD_eq_getD_getElem?] at e0 e1
                  have gs := hk.some_ (s := 82) (by omega) e0
                  go_simp
                  exact hK _ _ (Below.refl _ _) rfl
                | 5, _ =>
                  intro o ho a wc hk hb hd K hK
                  cases ho
                  have e0 := hd 2 (by simp [waitPC13])
                  have e1 := hd 4 (by simp [waitPC13])
                  simp only [leavePC13, slotPC13, Nat.reduceAdd, Array.getD_eq_getD_getElem?] at e0 e1
                  go_simp
                  exact hK _ _ (Below.refl _ _) rfl
                | 6, _ =>
                  intro o ho a wc hk hb hd K hK
                  cases ho
                  have e0 := hd 5 (by simp [waitPC13])
                  simp only [leavePC13, slotPC13, Nat.reduceAdd, Array.getD_eq_getD_getElem?] at e0
                  go_simp
                  exact hK _ _ (Below.refl _ _) rfl
                | 7, _ =>
                  intro o ho a wc hk hb hd K hK
                  cases ho
                  have e0 := hk.rest 13 ((.slice (some ⟨g1, 0, none⟩) 128 128)) (by omega) (by kernel_rfl) rfl
                  rw [Array.getD_eq_getD_getElem?] at e0
                  have e1 := hd 6 (by simp [waitPC13])
                  simp only [leavePC13, slotPC13, Nat.reduceAdd, Array.getD_eq_getD_getElem?] at e1
                  have gs := hk.some_ (s := 86) (by omega) e1
                  go_simp
                  exact hK _ _ (Below.refl _ _) rfl
                | 8, _ =>
                  intro o ho a wc hk hb hd K hK
                  cases ho
                  have e0 := hd 6 (by simp [waitPC13])
                  have e1 := hd 7 (by simp [waitPC13])
                  simp only [leavePC13, slotPC13, Nat.reduceAdd, Array.getD_eq_getD_getElem?] at e0 e1
                  have gs := hk.some_ (s := 86) (by omega) e0
                  have hcv := HC1.out wc hb
                  go_simp
                  exact hK _ _ (Below.refl _ _) rfl
                | 9, _ =>
                  intro o ho a wc hk hb hd K hK
                  cases ho
                  have e0 := hk.rest 15 ((.slice (some ⟨g2, 0, none⟩) 128 128)) (by omega) (by kernel_rfl) rfl
                  rw [Array.getD_eq_getD_getElem?] at e0
                  have e1 := hd 6 (by simp [waitPC13])
                  simp only [leavePC13, slotPC13, Nat.reduceAdd, Array.getD_eq_getD_getElem?] at e1
                  have gs := hk.some_ (s := 86) (by omega) e1
                  go_simp
                  exact hK _ _ (Below.refl _ _) rfl
                | 10, _ =>
                  intro o ho a wc hk hb hd K hK
                  cases ho
                  have e0 := hd 6 (by simp [waitPC13])
                  have e1 := hd 9 (by simp [waitPC13])
                  simp only [leavePC13, slotPC13, Nat.reduceAdd, Array.getD_eq_getD_getElem?] at e0 e1
                  have gs := hk.some_ (s := 86) (by omega) e0
                  have hcv := HC2.out wc hb
                  go_simp
                  exact hK _ _ (Below.refl _ _) rfl
                | 11, _ =>
                  intro o ho a wc hk hb hd K hK
                  cases ho
                  have e0 := hd 6 (by simp [waitPC13])
                  have e1 := hd 8 (by simp [waitPC13])
                  have e2 := hd 10 (by simp [waitPC13])
                  simp only [leavePC13, slotPC13, Nat.reduceAdd, Array.getD_eq_getD_getElem?] at e0 e1 e2
                  have gs := hk.some_ (s := 86) (by omega) e0
                  have hE := HE.out
                  go_simp
                  exact hK _ _ (Below.refl _ _) rfl
                | 12, _ =>
                  intro o ho a wc hk hb hd K hK
                  cases ho
                  have e0 := hk.rest 6 ((.slice A nl c)) (by omega) (by kernel_rfl) rfl
                  rw [Array.getD_eq_getD_getElem?] at e0
                  have e1 := hd 6 (by simp [waitPC13])
                  simp only [leavePC13, slotPC13, Nat.reduceAdd, Array.getD_eq_getD_getElem?] at e1
                  have gs := hk.some_ (s := 86) (by omega) e1
                  go_simp
                  exact hK _ _ (Below.refl _ _) rfl
                | 13, _ =>
                  intro o ho a wc hk hb hd K hK
                  cases ho
                  have e0 := hk.rest 7 ((.slice A' ml c')) (by omega) (by kernel_rfl) rfl
                  rw [Array.getD_eq_getD_getElem?] at e0
                  have e1 := hd 6 (by simp [waitPC13])
                  simp only [leavePC13, slotPC13, Nat.reduceAdd, Array.getD_eq_getD_getElem?] at e1
                  have gs := hk.some_ (s := 86) (by omega) e1
                  go_simp
                  exact hK _ _ (Below.refl _ _) rfl
                | 14, _ =>
                  intro o ho a wc hk hb hd K hK
                  cases ho
                  have e0 := hd 6 (by simp [waitPC13])
                  have e1 := hd 12 (by simp [waitPC13])
                  have e2 := hd 13 (by simp [waitPC13])
                  simp only [leavePC13, slotPC13, Nat.reduceAdd, Array.getD_eq_getD_getElem?] at e0 e1 e2
                  have gs := hk.some_ (s := 86) (by omega) e0
                  go_simp
                  refine (HSM.out wc hb).mono ?_
                  rintro e w9 ⟨rfl, hw9⟩
                  exact hK _ _ hw9 rfl
                | 15, _ =>
                  intro o ho a wc hk hb hd K hK
                  cases ho
                  have e0 := hd 6 (by simp [waitPC13])
                  have e1 := hd 11 (by simp [waitPC13])
                  have e2 := hd 14 (by simp [waitPC13])
                  simp only [leavePC13, slotPC13, Nat.reduceAdd, Array.getD_eq_getD_getElem?] at e0 e1 e2
                  have gs := hk.some_ (s := 86) (by omega) e0
                  go_simp
                  exact hK _ _ (Below.refl _ _) rfl
                | 16, _ =>
                  intro o ho a wc hk hb hd K hK
                  cases ho
                  have e0 := hd 6 (by simp [waitPC13])
                  have e1 := hd 15 (by simp [waitPC13])
                  simp only [leavePC13, slotPC13, Nat.reduceAdd, Array.getD_eq_getD_getElem?] at e0 e1
                  go_simp
                  exact hK _ _ (Below.refl _ _) rfl
                | 17, _ =>
                  intro o ho a wc hk hb hd K hK
                  cases ho
                  have e0 := hd 16 (by simp [waitPC13])
                  simp only [leavePC13, slotPC13, Nat.reduceAdd, Array.getD_eq_getD_getElem?] at e0
                  go_simp
                  exact hK _ _ (Below.refl _ _) rfl
                | 18, _ =>
                  intro o ho a wc hk hb hd K hK
                  cases ho
                  have e0 := hd 17 (by simp [waitPC13])
                  simp only [leavePC13, slotPC13, Nat.reduceAdd, Array.getD_eq_getD_getElem?] at e0
                  have gs := hk.some_ (s := 97) (by omega) e0
                  go_simp
                  refine (HAW.out wc hb).mono ?_
                  rintro e w9 ⟨rfl, hw9⟩
                  exact hK _ _ hw9 rfl
                | 19, _ =>
                  intro o ho a wc hk hb hd K hK
                  cases ho
                  have e0 := hd 17 (by simp [waitPC13])
                  have e1 := hd 18 (by simp [waitPC13])
                  simp only [leavePC13, slotPC13, Nat.reduceAdd, Array.getD_eq_getD_getElem?] at e0 e1
                  go_simp
                  exact hK _ _ (Below.refl _ _) rfl
                | _ + 20, h => exact absurd h (by omega)
              · intro vals w13 hb hR
                have v0 := hR 0 (by omega)
                have v1 := hR 1 (by omega)
                have v2 := hR 2 (by omega)
                have v3 := hR 3 (by omega)
                have v4 := hR 4 (by omega)
                have v5 := hR 5 (by omega)
                have v6 := hR 6 (by omega)
                have v7 := hR 7 (by omega)
                have v8 := hR 8 (by omega)
                have v9 := hR 9 (by omega)
                have v10 := hR 10 (by omega)
                have v11 := hR 11 (by omega)
                have v12 := hR 12 (by omega)
                have v13 := hR 13 (by omega)
                have v14 := hR 14 (by omega)
                have v15 := hR 15 (by omega)
                have v16 := hR 16 (by omega)
                have v17 := hR 17 (by omega)
                have v18 := hR 18 (by omega)
                have v19 := hR 19 (by omega)
                simp only [leavePC13] at v0 v1 v2 v3 v4 v5 v6 v7 v8 v9 v10 v11 v12 v13 v14 v15 v16 v17 v18 v19
                clear hR
                simp only [putAll, slotPC13, Nat.reduceAdd, List.setIfInBounds_toArray, List.set_cons_zero, List.set_cons_succ, List.drop_succ_cons, List.drop_zero, v0, v1, v2, v3, v4, v5, v6, v7, v8, v9, v10, v11, v12, v13, v14, v15, v16, v17, v18, v19]
                clear v0 v1 v2 v3 v4 v5 v6 v7 v8 v9 v10 v11 v12 v13 v14 v15 v16 v17 v18 v19
                have HB14 := Lib.hid (HB9.out.trans (hb.mono HB9.out.size))
                clear hb
                go_wp2
                go_ret
                exact ⟨rfl, HB14.out⟩
            · clear hg1 hk1 ht1 ht2
              refine wp_region_tail (by kernel_rfl) 20 100 slotPB13 waitPB13 (leavePB13 1 (.slice (some ⟨g1, 0, none⟩) 128 128) (.slice none 0 0) (.slice A nl c) (.slice A' ml c') [] [] false) rfl
                (by kernel_rfl) (fun i v w w' _ _ h => by unfold leavePB13 at *; split at h <;> exact h) ?_ ?_
              · intro i hi
                match i, hi with
                | 0, _ =>
                  intro o ho a wc hk hb hd K hK
                  cases ho
                  have e0 := hk.rest 14 (.int .i64 0) (by omega) (by kernel_rfl) rfl
                  rw [Array.getD_eq_getD_getElem?] at e0
                  go_simp
                  exact hK _ _ (Below.refl _ _) rfl
                | 1, _ =>
                  intro o ho a wc hk hb hd K hK
                  cases ho
                  have e0 := hd 0 (by simp [waitPB13])
                  simp only [leavePB13, slotPB13, Nat.reduceAdd, Array.getD_eq_getD_getElem?] at e0
                  go_simp
                  exact hK _ _ (Below.refl _ _) rfl
                | 2, _ =>
                  intro o ho a wc hk hb hd K hK
                  cases ho
                  have e0 := hd 1 (by simp [waitPB13])
                  simp only [leavePB13, slotPB13, Nat.reduceAdd, Array.getD_eq_getD_getElem?] at e0
                  go_simp
                  exact hK _ _ (Below.refl _ _) rfl
                | 3, _ =>
                  intro o ho a wc hk hb hd K hK
                  cases ho
                  have e0 := hk.rest 16 (.int .i64 1) (by omega) (by kernel_rfl) rfl
                  rw [Array.getD_eq_getD_getElem?] at e0
                  have e1 := hd 2 (by simp [waitPB13])
                  simp only [leavePB13, slotPB13, Nat.reduceAdd, Array.getD_eq_getD_getElem?] at e1
                  have gs := hk.some_ (s := 82) (by omega) e1
                  go_simp
                  exact hK _ _ (Below.refl _ _) rfl
                | 4, _ =>
                  intro o ho a wc hk hb hd K hK
                  cases ho
                  have e0 := hd 2 (by simp [waitPB13])
                  have e1 := hd 3 (by simp [waitPB13])
                  simp only [leavePB13, slotPB13, Nat.reduceAdd, Array.getD_eq_getD_getElem?] at e0 e1
                  have gs := hk.some_ (s := 82) (by omega) e0
                  go_simp
                  exact hK _ _ (Below.refl _ _) rfl
                | 5, _ =>
                  intro o ho a wc hk hb hd K hK
                  cases ho
                  have e0 := hd 2 (by simp [waitPB13])
                  have e1 := hd 4 (by simp [waitPB13])
                  simp only [leavePB13, slotPB13, Nat.reduceAdd, Array.getD_eq_getD_getElem?] at e0 e1
                  go_simp
                  exact hK _ _ (Below.refl _ _) rfl
                | 6, _ =>
                  intro o ho a wc hk hb hd K hK
                  cases ho
                  have e0 := hd 5 (by simp [waitPB13])
                  simp only [leavePB13, slotPB13, Nat.reduceAdd, Array.getD_eq_getD_getElem?] at e0
                  go_simp
                  exact hK _ _ (Below.refl _ _) rfl
                | 7, _ =>
                  intro o ho a wc hk hb hd K hK
                  cases ho
                  have e0 := hk.rest 13 ((.slice (some ⟨g1, 0, none⟩) 128 128)) (by omega) (by kernel_rfl) rfl
                  rw [Array.getD_eq_getD_getElem?] at e0
                  have e1 := hd 6 (by simp [waitPB13])
                  simp only [leavePB13, slotPB13, Nat.reduceAdd, Array.getD_eq_getD_getElem?] at e1
                  have gs := hk.some_ (s := 86) (by omega) e1
                  go_simp
                  exact hK _ _ (Below.refl _ _) rfl
                | 8, _ =>
                  intro o ho a wc hk hb hd K hK
                  cases ho
                  have e0 := hd 6 (by simp [waitPB13])
                  have e1 := hd 7 (by simp [waitPB13])
                  simp only [leavePB13, slotPB13, Nat.reduceAdd, Array.getD_eq_getD_getElem?] at e0 e1
                  have gs := hk.some_ (s := 86) (by omega) e0
                  go_simp
                  exact hK _ _ (Below.refl _ _) rfl
                | 9, _ =>
                  intro o ho a wc hk hb hd K hK
                  cases ho
                  have e0 := hk.rest 15 ((.slice none 0 0)) (by omega) (by kernel_rfl) rfl
                  rw [Array.getD_eq_getD_getElem?] at e0
                  have e1 := hd 6 (by simp [waitPB13])
                  simp only [leavePB13, slotPB13, Nat.reduceAdd, Array.getD_eq_getD_getElem?] at e1
                  have gs := hk.some_ (s := 86) (by omega) e1
                  go_simp
                  exact hK _ _ (Below.refl _ _) rfl
                | 10, _ =>
                  intro o ho a wc hk hb hd K hK
                  cases ho
                  have e0 := hd 6 (by simp [waitPB13])
                  have e1 := hd 9 (by simp [waitPB13])
                  simp only [leavePB13, slotPB13, Nat.reduceAdd, Array.getD_eq_getD_getElem?] at e0 e1
                  have gs := hk.some_ (s := 86) (by omega) e0
                  go_simp
                  exact hK _ _ (Below.refl _ _) rfl
                | 11, _ =>
                  intro o ho a wc hk hb hd K hK
                  cases ho
                  have e0 := hd 6 (by simp [waitPB13])
                  have e1 := hd 8 (by simp [waitPB13])
                  have e2 := hd 10 (by simp [waitPB13])
                  simp only [leavePB13, slotPB13, Nat.reduceAdd, Array.getD_eq_getD_getElem?] at e0 e1 e2
                  have gs := hk.some_ (s := 86) (by omega) e0
                  go_simp
                  exact hK _ _ (Below.refl _ _) rfl
                | 12, _ =>
                  intro o ho a wc hk hb hd K hK
                  cases ho
                  have e0 := hk.rest 6 ((.slice A nl c)) (by omega) (by kernel_rfl) rfl
                  rw [Array.getD_eq_getD_getElem?] at e0
                  have e1 := hd 6 (by simp [waitPB13])
                  simp only [leavePB13, slotPB13, Nat.reduceAdd, Array.getD_eq_getD_getElem?] at e1
                  have gs := hk.some_ (s := 86) (by omega) e1
                  go_simp
                  exact hK _ _ (Below.refl _ _) rfl
                | 13, _ =>
                  intro o ho a wc hk hb hd K hK
                  cases ho
                  have e0 := hk.rest 7 ((.slice A' ml c')) (by omega) (by kernel_rfl) rfl
                  rw [Array.getD_eq_getD_getElem?] at e0
                  have e1 := hd 6 (by simp [waitPB13])
                  simp only [leavePB13, slotPB13, Nat.reduceAdd, Array.getD_eq_getD_getElem?] at e1
                  have gs := hk.some_ (s := 86) (by omega) e1
                  go_simp
                  exact hK _ _ (Below.refl _ _) rfl
                | 14, _ =>
                  intro o ho a wc hk hb hd K hK
                  cases ho
                  have e0 := hd 6 (by simp [waitPB13])
                  have e1 := hd 12 (by simp [waitPB13])
                  have e2 := hd 13 (by simp [waitPB13])
                  simp only [leavePB13, slotPB13, Nat.reduceAdd, Array.getD_eq_getD_getElem?] at e0 e1 e2
                  have gs := hk.some_ (s := 86) (by omega) e0
                  go_simp
                  exact hK _ _ (Below.refl _ _) rfl
                | 15, _ =>
                  intro o ho a wc hk hb hd K hK
                  cases ho
                  have e0 := hd 6 (by simp [waitPB13])
                  have e1 := hd 11 (by simp [waitPB13])
                  have e2 := hd 14 (by simp [waitPB13])
                  simp only [leavePB13, slotPB13, Nat.reduceAdd, Array.getD_eq_getD_getElem?] at e0 e1 e2
                  have gs := hk.some_ (s := 86) (by omega) e0
                  go_simp
                  exact hK _ _ (Below.refl _ _) rfl
                | 16, _ =>
                  intro o ho a wc hk hb hd K hK
                  cases ho
                  have e0 := hd 6 (by simp [waitPB13])
                  have e1 := hd 15 (by simp [waitPB13])
                  simp only [leavePB13, slotPB13, Nat.reduceAdd, Array.getD_eq_getD_getElem?] at e0 e1
                  go_simp
                  exact hK _ _ (Below.refl _ _) rfl
                | 17, _ =>
                  intro o ho a wc hk hb hd K hK
                  cases ho
                  have e0 := hd 16 (by simp [waitPB13])
                  simp only [leavePB13, slotPB13, Nat.reduceAdd, Array.getD_eq_getD_getElem?] at e0
                  go_simp
                  exact hK _ _ (Below.refl _ _) rfl
                | 18, _ =>
                  intro o ho a wc hk hb hd K hK
                  cases ho
                  have e0 := hd 17 (by simp [waitPB13])
                  simp only [leavePB13, slotPB13, Nat.reduceAdd, Array.getD_eq_getD_getElem?] at e0
                  have gs := hk.some_ (s := 97) (by omega) e0
                  go_simp
                  refine (HAW.out wc hb).mono ?_
                  rintro e w9 ⟨rfl, hw9⟩
                  exact hK _ _ hw9 rfl
                | 19, _ =>
                  intro o ho a wc hk hb hd K hK
                  cases ho
                  have e0 := hd 17 (by simp [waitPB13])
                  have e1 := hd 18 (by simp [waitPB13])
                  simp only [leavePB13, slotPB13, Nat.reduceAdd, Array.getD_eq_getD_getElem?] at e0 e1
                  go_simp
                  exact hK _ _ (Below.refl _ _) rfl
                | _ + 20, h => exact absurd h (by omega)
              · intro vals w13 hb hR
                have v0 := hR 0 (by omega)
                have v1 := hR 1 (by omega)
                have v2 := hR 2 (by omega)
                have v3 := hR 3 (by omega)
                have v4 := hR 4 (by omega)
                have v5 := hR 5 (by omega)
                have v6 := hR 6 (by omega)
                have v7 := hR 7 (by omega)
                have v8 := hR 8 (by omega)
                have v9 := hR 9 (by omega)
                have v10 := hR 10 (by omega)
                have v11 := hR 11 (by omega)
                have v12 := hR 12 (by omega)
                have v13 := hR 13 (by omega)
                have v14 := hR 14 (by omega)
                have v15 := hR 15 (by omega)
                have v16 := hR 16 (by omega)
                have v17 := hR 17 (by omega)
                have v18 := hR 18 (by omega)
                have v19 := hR 19 (by omega)
                simp only [leavePB13] at v0 v1 v2 v3 v4 v5 v6 v7 v8 v9 v10 v11 v12 v13 v14 v15 v16 v17 v18 v19
                clear hR
                simp only [putAll, slotPB13, Nat.reduceAdd, List.setIfInBounds_toArray, List.set_cons_zero, List.set_cons_succ, List.drop_succ_cons, List.drop_zero, v0, v1, v2, v3, v4, v5, v6, v7, v8, v9, v10, v11, v12, v13, v14, v15, v16, v17, v18, v19]
                clear v0 v1 v2 v3 v4 v5 v6 v7 v8 v9 v10 v11 v12 v13 v14 v15 v16 v17 v18 v19
                have HB14 := Lib.hid (HB9.out.trans (hb.mono HB9.out.size))
                clear hb
                go_wp2
                go_ret
                exact ⟨rfl, HB14.out⟩
          · clear ht1
            refine wp_region_tail (by kernel_rfl) 20 100 slotPA13 waitPA13 (leavePA13 E4 (.slice none 0 0) r4 (.slice A nl c) (.slice A' ml c') [] [] false) rfl
              (by kernel_rfl) (fun i v w w' _ _ h => by unfold leavePA13 at *; split at h <;> exact h) ?_ ?_
            · intro i hi
              match i, hi with
              | 0, _ =>
                intro o ho a wc hk hb hd K hK
                cases ho
                have e0 := hk.rest 14 (.int .i64 1) (by omega) (by kernel_rfl) rfl
                rw [Array.getD_eq_getD_getElem?] at e0
                go_simp
                exact hK _ _ (Below.refl _ _) rfl
              | 1, _ =>
                intro o ho a wc hk hb hd K hK
                cases ho
                have e0 := hd 0 (by simp [waitPA13])
                simp only [leavePA13, slotPA13, Nat.reduceAdd, Array.getD_eq_getD_getElem?] at e0
                go_simp
                exact hK _ _ (Below.refl _ _) rfl
              | 2, _ =>
                intro o ho a wc hk hb hd K hK
                cases ho
                have e0 := hd 1 (by simp [waitPA13])
                simp only [leavePA13, slotPA13, Nat.reduceAdd, Array.getD_eq_getD_getElem?] at e0
                go_simp
                exact hK _ _ (Below.refl _ _) rfl
              | 3, _ =>
                intro o ho a wc hk hb hd K hK
                cases ho
                have e0 := hk.rest 16 (.int .i64 E4) (by omega) (by kernel_rfl) rfl
                rw [Array.getD_eq_getD_getElem?] at e0
                have e1 := hd 2 (by simp [waitPA13])
                simp only [leavePA13, slotPA13, Nat.reduceAdd, Array.getD_eq_getD_getElem?] at e1
                have gs := hk.some_ (s := 82) (by omega) e1
                go_simp
                exact hK _ _ (Below.refl _ _) rfl
              | 4, _ =>
                intro o ho a wc hk hb hd K hK
                cases ho
                have e0 := hd 2 (by simp [waitPA13])
                have e1 := hd 3 (by simp [waitPA13])
                simp only [leavePA13, slotPA13, Nat.reduceAdd, Array.getD_eq_getD_getElem?] at e0 e1
                have gs := hk.some_ (s := 82) (by omega) e0
                go_simp
                exact hK _ _ (Below.refl _ _) rfl
              | 5, _ =>
                intro o ho a wc hk hb hd K hK
                cases ho
                have e0 := hd 2 (by simp [waitPA13])
                have e1 := hd 4 (by simp [waitPA13])
                simp only [leavePA13, slotPA13, Nat.reduceAdd, Array.getD_eq_getD_getElem?] at e0 e1
                go_simp
                exact hK _ _ (Below.refl _ _) rfl
              | 6, _ =>
                intro o ho a wc hk hb hd K hK
                cases ho
                have e0 := hd 5 (by simp [waitPA13])
                simp only [leavePA13, slotPA13, Nat.reduceAdd, Array.getD_eq_getD_getElem?] at e0
                go_simp
                exact hK _ _ (Below.refl _ _) rfl
              | 7, _ =>
                intro o ho a wc hk hb hd K hK
                cases ho
                have e0 := hk.rest 13 ((.slice none 0 0)) (by omega) (by kernel_rfl) rfl
                rw [Array.getD_eq_getD_getElem?] at e0
                have e1 := hd 6 (by simp [waitPA13])
                simp only [leavePA13, slotPA13, Nat.reduceAdd, Array.getD_eq_getD_getElem?] at e1
                have gs := hk.some_ (s := 86) (by omega) e1
                go_simp
                exact hK _ _ (Below.refl _ _) rfl
              | 8, _ =>
                intro o ho a wc hk hb hd K hK
                cases ho
                have e0 := hd 6 (by simp [waitPA13])
                have e1 := hd 7 (by simp [waitPA13])
                simp only [leavePA13, slotPA13, Nat.reduceAdd, Array.getD_eq_getD_getElem?] at e0 e1
                have gs := hk.some_ (s := 86) (by omega) e0
                go_simp
                exact hK _ _ (Below.refl _ _) rfl
              | 9, _ =>
                intro o ho a wc hk hb hd K hK
                cases ho
                have e0 := hk.rest 15 (r4) (by omega) (by kernel_rfl) rfl
                rw [Array.getD_eq_getD_getElem?] at e0
                have e1 := hd 6 (by simp [waitPA13])
                simp only [leavePA13, slotPA13, Nat.reduceAdd, Array.getD_eq_getD_getElem?] at e1
                have gs := hk.some_ (s := 86) (by omega) e1
                go_simp
                exact hK _ _ (Below.refl _ _) rfl
              | 10, _ =>
                intro o ho a wc hk hb hd K hK
                cases ho
                have e0 := hd 6 (by simp [waitPA13])
                have e1 := hd 9 (by simp [waitPA13])
                simp only [leavePA13, slotPA13, Nat.reduceAdd, Array.getD_eq_getD_getElem?] at e0 e1
                have gs := hk.some_ (s := 86) (by omega) e0
                go_simp
                exact hK _ _ (Below.refl _ _) rfl
              | 11, _ =>
                intro o ho a wc hk hb hd K hK
                cases ho
                have e0 := hd 6 (by simp [waitPA13])
                have e1 := hd 8 (by simp [waitPA13])
                have e2 := hd 10 (by simp [waitPA13])
                simp only [leavePA13, slotPA13, Nat.reduceAdd, Array.getD_eq_getD_getElem?] at e0 e1 e2
                have gs := hk.some_ (s := 86) (by omega) e0
                go_simp
                exact hK _ _ (Below.refl _ _) rfl
              | 12, _ =>
                intro o ho a wc hk hb hd K hK
                cases ho
                have e0 := hk.rest 6 ((.slice A nl c)) (by omega) (by kernel_rfl) rfl
                rw [Array.getD_eq_getD_getElem?] at e0
                have e1 := hd 6 (by simp [waitPA13])
                simp only [leavePA13, slotPA13, Nat.reduceAdd, Array.getD_eq_getD_getElem?] at e1
                have gs := hk.some_ (s := 86) (by omega) e1
                go_simp
                exact hK _ _ (Below.refl _ _) rfl
              | 13, _ =>
                intro o ho a wc hk hb hd K hK
                cases ho
                have e0 := hk.rest 7 ((.slice A' ml c')) (by omega) (by kernel_rfl) rfl
                rw [Array.getD_eq_getD_getElem?] at e0
                have e1 := hd 6 (by simp [waitPA13])
                simp only [leavePA13, slotPA13, Nat.reduceAdd, Array.getD_eq_getD_getElem?] at e1
                have gs := hk.some_ (s := 86) (by omega) e1
                go_simp
                exact hK _ _ (Below.refl _ _) rfl
              | 14, _ =>
                intro o ho a wc hk hb hd K hK
                cases ho
                have e0 := hd 6 (by simp [waitPA13])
                have e1 := hd 12 (by simp [waitPA13])
                have e2 := hd 13 (by simp [waitPA13])
                simp only [leavePA13, slotPA13, Nat.reduceAdd, Array.getD_eq_getD_getElem?] at e0 e1 e2
                have gs := hk.some_ (s := 86) (by omega) e0
                go_simp
                exact hK _ _ (Below.refl _ _) rfl
              | 15, _ =>
                intro o ho a wc hk hb hd K hK
                cases ho
                have e0 := hd 6 (by simp [waitPA13])
                have e1 := hd 11 (by simp [waitPA13])
                have e2 := hd 14 (by simp [waitPA13])
                simp only [leavePA13, slotPA13, Nat.reduceAdd, Array.getD_eq_getD_getElem?] at e0 e1 e2
                have gs := hk.some_ (s := 86) (by omega) e0
                go_simp
                exact hK _ _ (Below.refl _ _) rfl
              | 16, _ =>
                intro o ho a wc hk hb hd K hK
                cases ho
                have e0 := hd 6 (by simp [waitPA13])
                have e1 := hd 15 (by simp [waitPA13])
                simp only [leavePA13, slotPA13, Nat.reduceAdd, Array.getD_eq_getD_getElem?] at e0 e1
                go_simp
                exact hK _ _ (Below.refl _ _) rfl
              | 17, _ =>
                intro o ho a wc hk hb hd K hK
                cases ho
                have e0 := hd 16 (by simp [waitPA13])
                simp only [leavePA13, slotPA13, Nat.reduceAdd, Array.getD_eq_getD_getElem?] at e0
                go_simp
                exact hK _ _ (Below.refl _ _) rfl
              | 18, _ =>
                intro o ho a wc hk hb hd K hK
                cases ho
                have e0 := hd 17 (by simp [waitPA13])
                simp only [leavePA13, slotPA13, Nat.reduceAdd, Array.getD_eq_getD_getElem?] at e0
                have gs := hk.some_ (s := 97) (by omega) e0
                go_simp
                refine (HAW.out wc hb).mono ?_
                rintro e w9 ⟨rfl, hw9⟩
                exact hK _ _ hw9 rfl
              | 19, _ =>
                intro o ho a wc hk hb hd K hK
                cases ho
                have e0 := hd 17 (by simp [waitPA13])
                have e1 := hd 18 (by simp [waitPA13])
                simp only [leavePA13, slotPA13, Nat.reduceAdd, Array.getD_eq_getD_getElem?] at e0 e1
                go_simp
                exact hK _ _ (Below.refl _ _) rfl
              | _ + 20, h => exact absurd h (by omega)
            · intro vals w13 hb hR
              have v0 := hR 0 (by omega)
              have v1 := hR 1 (by omega)
              have v2 := hR 2 (by omega)
              have v3 := hR 3 (by omega)
              have v4 := hR 4 (by omega)
              have v5 := hR 5 (by omega)
              have v6 := hR 6 (by omega)
              have v7 := hR 7 (by omega)
              have v8 := hR 8 (by omega)
              have v9 := hR 9 (by omega)
              have v10 := hR 10 (by omega)
              have v11 := hR 11 (by omega)
              have v12 := hR 12 (by omega)
              have v13 := hR 13 (by omega)
              have v14 := hR 14 (by omega)
              have v15 := hR 15 (by omega)
              have v16 := hR 16 (by omega)
              have v17 := hR 17 (by omega)
              have v18 := hR 18 (by omega)
              have v19 := hR 19 (by omega)
              simp only [leavePA13] at v0 v1 v2 v3 v4 v5 v6 v7 v8 v9 v10 v11 v12 v13 v14 v15 v16 v17 v18 v19
              clear hR
              simp only [putAll, slotPA13, Nat.reduceAdd, List.setIfInBounds_toArray, List.set_cons_zero, List.set_cons_succ, List.drop_succ_cons, List.drop_zero, v0, v1, v2, v3, v4, v5, v6, v7, v8, v9, v10, v11, v12, v13, v14, v15, v16, v17, v18, v19]
              clear v0 v1 v2 v3 v4 v5 v6 v7 v8 v9 v10 v11 v12 v13 v14 v15 v16 v17 v18 v19
              have HB14 := Lib.hid (HB9.out.trans (hb.mono HB9.out.size))
              clear hb
              go_wp2
              go_ret
              exact ⟨rfl, HB14.out⟩

set_option maxRecDepth 100000 in
theorem lifted (os : Os) (started : os.Started) (H : Type) (enc : TypeId × Value → H) :
    ReturnsInHanded {} Tryd.checked os 7 .any (fun w args => (Rows.inodeApartSpec.pre enc Tryd.prog Tryd.f7 [] false w args ∧ laidMetH Tryd.prog laidHalves w) ∧ sizedMet enc Tryd.prog Tryd.f7 (OpenSpec.ofChange Rows.inodeApartSpec) false w args) (Rows.inodeApartSpec.post enc Tryd.prog Tryd.f7 false true false false) := by
  refine returnsInHanded_of_change_and (C := Tryd.checked) (X := fun w _ => laidMetH Tryd.prog laidHalves w) (fun _ _ _ hh h => h.of_heap hh) own started (by kernel_rfl) Tryd.func7
    (ChangeSpec.witness_shaped (enc := enc) (C := Tryd.checked) (os := os) (X := fun w _ => laidMetH Tryd.prog laidHalves w) false (World.doorLaid Tryd.prog 400 os) #[.agg #[.int .u8 0, .int .i64 0, .int .i64 0, .int .i64 0, .int .i64 0, .int .i64 0, .int .i64 0, .int .u32 0, .int .i64 0, .int .u32 0, .int .i64 0, .int .u32 0, .int .i64 0, .int .u32 0, .int .i64 0, .int .u32 0, .int .i64 0, .int .u32 0, .int .i64 0, .int .u32 0, .int .i64 0, .int .u32 0, .int .i64 0, .int .u32 0, .int .i64 0, .int .i64 0, .int .i64 0, .int .i64 0, .int .i64 0, .int .i64 0, .int .u32 0, .int .i64 0, .int .u32 0, .int .i64 0, .int .u32 0, .int .i64 0, .int .u32 0, .int .i64 0, .int .u32 0, .int .i64 0, .int .u32 0, .int .i64 0, .int .u32 0, .int .i64 0, .int .u32 0, .int .i64 0, .int .u32 0, .slice none 0 0, .slice none 0 0]] 8 rfl (World.shaped_of_RefB (by kernel_rfl) (by kernel_rfl)) (by kernel_rfl) (by kernel_rfl) (by kernel_rfl) (door_met os _)) ?_
  intro W base args ds gs before hval0 hW _ _ hL _
  have hTab := tab_of_laid hL
  have hval : ∀ (j : Nat) t v, Tryd.f7.params[j]? = some t → args[j]? = some v → Value.okWide Tryd.prog W .any base t v := hval0
  have hW' := hW
  obtain ⟨p, q, hA0, hV, rfl, hfz, hnd⟩ := hW
  have hA : DataW.TrodAll enc Tryd.prog W 0 (fun _ => true) true Tryd.f7.params.toList args.toList ds p := hA0
  rw [Tryd.params7] at hA hval
  obtain ⟨v0, vs0, d0, ds0, p0, q0, hargs, rfl, rfl, h0, r0⟩ := trodAll_cons hA
  obtain ⟨rfl, rfl, rfl⟩ := trodAll_nil r0
  obtain rfl : args = #[v0] := by cases args; simp_all
  obtain ⟨rfl, rfl⟩ := trodVars_none hV
  have lt0 : ∀ x ∈ p0, x.block < W.heap.size := by obtain ⟨m, hm⟩ := h0; exact DataW.trod_lt m _ _ _ hm
  obtain ⟨y0_0, y0_1, y0_2, y0_3, y0_4, y0_5, y0_6, y0_7, y0_8, y0_9, y0_10, hb0, rfl⟩ := iapart_in (hval 0 58 v0 rfl rfl) h0
  clear hA0 hval0
  refine (walk y0_0 y0_1 y0_2 y0_3 y0_4 y0_5 y0_6 y0_7 y0_8 y0_9 y0_10 W hb0.1.1 hb0.1.2 hb0.2.1 hb0.2.2.1 hb0.2.2.2.1 hb0.2.2.2.2.1 hb0.2.2.2.2.2.1.1 hb0.2.2.2.2.2.1.2.1 hb0.2.2.2.2.2.1.2.2.1 hb0.2.2.2.2.2.1.2.2.2.1 hb0.2.2.2.2.2.1.2.2.2.2 hb0.2.2.2.2.2.2.1 hb0.2.2.2.2.2.2.2.1 hb0.2.2.2.2.2.2.2.2.1 hb0.2.2.2.2.2.2.2.2.2.1 hb0.2.2.2.2.2.2.2.2.2.2 hTab).mono fun e W' ⟨he, bel⟩ => ?_
  subst he
  exact ⟨_, rfl, _, _, _, [], _, [], hW', trodAll_mk1 (shut_bool Tryd.underlying4 _), (trodAll_cons_mk (Below.trod laidOut (by kernel_rfl) (of_decide_eq_true (by kernel_rfl)) h0 bel lt0) trodAll_mk0), rfl, bel.frame _, fun h => by cases h⟩

theorem over : Rows.inodeApartRow.holds Tryd.pinned (OpenSpec.ofChange Rows.inodeApartSpec) :=
  OpenClaim.holds_of_wide 7 Tryd.f7 rfl rfl rfl rfl rfl rfl rfl ⟨rfl, rfl, rfl, rfl, rfl⟩ rfl rfl rfl rfl rfl (by kernel_rfl) Tryd.func7 (by kernel_rfl)
    (of_decide_eq_true (by kernel_rfl)) (by unfold Func.isWrapper; first | (rw [if_pos (by decide +kernel)]; kernel_rfl) | (rw [if_neg (by decide +kernel)]; exact ⟨rfl, rfl⟩))
    (fun os started H enc _ => lifted os started H enc)

theorem proved : Rows.InodeApartCardSaid :=
  Claim7.holds_tied_plain_at .later [] [.data] true _ false
    over (fun _ h => by cases h) (by kernel_rfl) (fun _ h => by cases h) inodeApart_row_tie rfl ⟨rfl, rfl⟩ (by kernel_rfl) rfl
    (fun f fn hf hfn => by
      obtain rfl : f = 7 := Option.some.inj ((show Tryd.prog.funcNamed "haymow/haymowlaw07.InodeApart" = some 7 by kernel_rfl).symm.trans hf) |>.symm
      obtain rfl : fn = Tryd.f7 := (Option.some.inj (Tryd.func7.symm.trans hfn)).symm
      exact ⟨by kernel_rfl, fun j t ht => by
        rw [Tryd.params7] at ht
        have hm : t ∈ [58] := by simpa using Array.mem_of_getElem? ht
        have hall : ([58].all fun u => !Tryd.prog.wantsStandIn u) = true := by kernel_rfl
        exact (show Tryd.prog.wantsStandIn t = false by simpa using List.all_eq_true.1 hall t hm)⟩)
    (by kernel_rfl)
#print axioms proved
end Go.Proofs.YtjhnabhieihifaaDoor.inodeApart
