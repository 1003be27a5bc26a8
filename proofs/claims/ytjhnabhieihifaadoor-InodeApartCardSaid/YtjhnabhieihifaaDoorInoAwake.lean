/-
  The statements' own examples of layer 7: they come out true; the octets that are looked at.
-/
import Derived.Test.YtjhnabhieihifaaDoorIno6
import Derived.Test.YtjhnabhieihifaaDoorCrcAwake
namespace Go.Proofs.YtjhnabhieihifaaDoor
open Go.RowKit
set_option maxRecDepth 100000
set_option linter.unusedVariables false

/-- a new block that holds an inode -/
def layI (w : World) (x : Ino) : World := (w.alloc (.cells #[.int .i64 0, .int .i64 0, .int .i64 0, .int .i64 0, .int .i64 0, .int .i64 0, .int .u32 0, .int .i64 0, .int .u32 0, .int .i64 0, .int .u32 0, .int .i64 0, .int .u32 0, .int .i64 0, .int .u32 0, .int .i64 0, .int .u32 0, .int .i64 0, .int .u32 0, .int .i64 0, .int .u32 0, .int .i64 0, .int .u32 0] 27)).setRow w.heap.size (inoC x)
theorem layI_def (w : World) (x : Ino) : layI w x = (w.alloc (.cells #[.int .i64 0, .int .i64 0, .int .i64 0, .int .i64 0, .int .i64 0, .int .i64 0, .int .u32 0, .int .i64 0, .int .u32 0, .int .i64 0, .int .u32 0, .int .i64 0, .int .u32 0, .int .i64 0, .int .u32 0, .int .i64 0, .int .u32 0, .int .i64 0, .int .u32 0, .int .i64 0, .int .u32 0, .int .i64 0, .int .u32 0] 27)).setRow w.heap.size (inoC x) := rfl
theorem layI_new (w : World) : Bk (w.alloc (.cells #[.int .i64 0, .int .i64 0, .int .i64 0, .int .i64 0, .int .i64 0, .int .i64 0, .int .u32 0, .int .i64 0, .int .u32 0, .int .i64 0, .int .u32 0, .int .i64 0, .int .u32 0, .int .i64 0, .int .u32 0, .int .i64 0, .int .u32 0, .int .i64 0, .int .u32 0, .int .i64 0, .int .u32 0, .int .i64 0, .int .u32 0] 27)) w.heap.size 27 #[.int .i64 0, .int .i64 0, .int .i64 0, .int .i64 0, .int .i64 0, .int .i64 0, .int .u32 0, .int .i64 0, .int .u32 0, .int .i64 0, .int .u32 0, .int .i64 0, .int .u32 0, .int .i64 0, .int .u32 0, .int .i64 0, .int .u32 0, .int .i64 0, .int .u32 0, .int .i64 0, .int .u32 0, .int .i64 0, .int .u32 0] := Bk.new w _ _
theorem layI_bk (w : World) (x : Ino) : Bk (layI w x) w.heap.size 27 (inoC x) := (layI_new w).setRow (inoC x)
theorem layI_below {B : Nat} (w : World) (x : Ino) (hB : B ≤ w.heap.size) : Below B w (layI w x) := ((Below.refl _ _).alloc hB _).setRow' hB _
theorem layI_size (w : World) (x : Ino) : (layI w x).heap.size = w.heap.size + 1 := by simp [layI]

theorem fewI_any (B : Nat) (A : Option Addr) (n m c : Nat) (l : List UInt8) (w : World) (hl : l.length = n) (hm : (l.take 200).length = m) (hr : Rd w B A (l.map bv)) (hc : n ≤ c) (hcm : c ≤ maxLen) :
    Calls Tryd.prog 14 #[.slice A n c] w fun e w' => e = .returned (.slice A m c) ∧ w = w' := by
  unfold maxLen at hcm
  rw [List.length_take] at hm
  by_cases h : 200 < n
  · obtain ⟨b, o, rfl, _, _⟩ := hr.plain (by simp; omega)
    have h' : (200 : Int) < (n : Int) := by omega
    obtain rfl : m = 200 := by omega
    clear hr hl hm
    go_enter Tryd.func14, Tryd.ntmps14
    go_wp2
    go_ret
    exact ⟨rfl, rfl⟩
  · have h' : ¬ (200 : Int) < (n : Int) := by omega
    obtain rfl : m = n := by omega
    clear hr hl hm
    go_enter Tryd.func14, Tryd.ntmps14
    go_wp2
    go_ret
    exact ⟨rfl, rfl⟩

theorem decIQ_three {n m : Int} {x : Ino} (hn : 1 ≤ n ∧ n ≤ 39) (hm : 1 ≤ m ∧ m ≤ 39) (h : inoOk x = true) (hp : x.p.length = 9) (hs : prSums x.p) (hne : m ≠ n) : decIQ m (inoB n x) = 3 := by
  rw [decIQ, if_pos (decide_eq_true hm), inoB_held n x hp, decI_ino hn h hp hs, h]
  have hb : (inoB m x == inoB n x) = false := by
    rw [beq_eq_false_iff_ne]
    exact fun e => hne (inoB_num hm hn h h hp hp hs hs e)
  rw [hb]
  rfl
/-- a directory with 2 links -/
def exI : Ino := ⟨2, 2, 0, 0, 0, List.replicate 9 ⟨0, 0⟩⟩
theorem exI_p : exI.p.length = 9 := rfl
theorem exI_ok : inoOk exI = true := by decide
theorem exI_sums : prSums exI.p := fun q hq => by obtain rfl := List.eq_of_mem_replicate hq; decide
theorem exI_take : (inoB 1 exI).take 7 = [105, 110, 111, 100, 1, 2, 2] := by
  rw [inoB, sealB_split', List.take_append_of_le_length (by rw [recs_inoR]; simp [exI_p])]
  decide +kernel
theorem exI_no : decIR 2 (inoB 1 exI) = noI := decIR_not (decIQ_other (by decide) exI_ok exI_p exI_sums (by decide))
theorem exI_three : decIQ 2 (inoB 1 exI) = 3 := decIQ_three (by decide) (by decide) exI_ok exI_p exI_sums (by decide)

set_option maxHeartbeats 2000000 in
theorem awakeI_any (w : World) (ht : Tab w) : Calls Tryd.prog 11 #[] w fun e w' => e = .returned (.bool true) ∧ Below w.heap.size w w' := by
  have HT := Lib.hid ht
  clear ht
  go_enter Tryd.func11, Tryd.ntmps11
  go_wp2_with fail
  refine (inoEncode_yes 1 exI w exI_p (by decide) exI_ok exI_sums HT.out).mono ?_
  rintro e w1 ⟨g, rfl, hg, hbk, hb1⟩
  have HB1 := Lib.hid hb1
  have HBK1 := Lib.hid hbk
  have hlen : (inoB 1 exI).length = 128 := inoB_len 1 exI exI_p
  have HR1 := Lib.hid (show Rd w1 w1.heap.size (some ⟨g, 0, none⟩) ((inoB 1 exI).map bv) by simpa using Rd.bk hbk)
  have HD := Lib.hid (inoDecode_any 2 (some ⟨g, 0, none⟩) 128 128 (inoB 1 exI) 3 noI w1 hlen HR1.out (Nat.le_refl _) (by simp [maxLen]) (HT.out.up hb1) exI_three exI_no)
  have HC : Hid (∀ w', Below w1.heap.size w1 w' → (convert 28 9 (.slice (some ⟨g, 0, none⟩) 7 128)).run Tryd.prog w' = .ok (.string (str [105, 110, 111, 100, 1, 2, 2])) w') := fun w' hb => by
    have h := (HR1.out.below hb).take 7
    rw [← List.map_take, exI_take] at h
    exact run_conv 28 5 9 Tryd.underlying28 Tryd.underlying5 under_strI 7 128 rfl h
  clear hb1 hbk hg hlen
  go_wp2_with fail
  refine HD.out.mono ?_
  rintro e w2 ⟨rfl, hb2⟩
  have HB2 := Lib.hid (HB1.out.trans (hb2.mono HB1.out.size))
  have X3 := Lib.hid (layI_new w2)
  have HB3 := Lib.hid (HB2.out.trans (layI_below w2 noI HB2.out.size))
  have HB3' := Lib.hid (hb2.trans (layI_below w2 noI hb2.size))
  clear hb2 HD
  go_wp2_with (refine wpList_store_ino rfl _ _ rfl w2.heap.size _ _ noI rfl rfl rfl rfl X3.out ?_)
  rw [← layI_def]
  obtain ⟨w3, hw3⟩ : ∃ w3, layI w2 noI = w3 := ⟨_, rfl⟩
  rw [hw3] at HB3 HB3' ⊢
  clear hw3 X3
  refine (node_no 0 none 0 0 [] w3 rfl (by omega) Rd.nil_ (Nat.zero_le _) (.inl (by decide))).mono ?_
  rintro e w4 ⟨rfl, hb4⟩
  have HB4 := Lib.hid (HB3.out.trans (hb4.mono HB3.out.size))
  have hconv := HC.out w4 (HB3'.out.trans (hb4.mono HB3'.out.size))
  have hs7 : (str [105, 110, 111, 100, 1, 2, 2]).toList = [105, 110, 111, 100, 1, 2, 2] := str_toList _
  clear hb4
  go_wp2
  go_ret
  exact ⟨rfl, HB4.out⟩
end Go.Proofs.YtjhnabhieihifaaDoor
