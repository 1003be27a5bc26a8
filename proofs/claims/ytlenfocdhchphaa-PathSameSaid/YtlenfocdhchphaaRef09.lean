/-
  What the document's answers of layer 9 are: more, next.
-/
import Derived.Test.YtlenfocdhchphaaMem2
import Derived.Test.YtlenfocdhchphaaTitOrd
import Derived.BigQuiet
import Derived.BigRegion
namespace Go.Proofs.Ytlenfocdhchphaa
open Go.RowKit
set_option maxRecDepth 100000
set_option linter.unusedVariables false

theorem str_ext (l : List UInt8) (a b : Nat) : (str l).extract a b = str ((l.take b).drop a) := by
  unfold str
  apply ByteArray.ext
  simp [ByteArray.data_extract, List.drop_take]
theorem index_str (l : List UInt8) (k : Nat) (hk : k < l.length) (w : World) : (Instr.index 9 (.string (str l)) (.int .i64 (k : Int))).run Try.prog w = .ok (.int .u8 (octN l k : Int)) w := by
  have h : 0 ≤ (k : Int) ∧ (k : Int) < (str l).size := by rw [str_size]; omega
  rw [run_index_string w 9 (str l) .i64 (k : Int) Try.underlying9, dif_pos h]
  have e : ((str l)[(k : Int).toNat]'(by have := h; omega)).toNat = octN l k := by
    rw [str_get]
    simp only [Int.toNat_natCast, octN, List.getD, List.getElem?_eq_getElem hk, Option.getD_some]
  rw [e]

set_option maxHeartbeats 1000000 in
theorem refMore_any (l : List UInt8) (k : Nat) (t : Bool) (w : World) (hl : l.length ≤ 9223372036854775807) (ht : onN l k = t) :
    Calls Try.prog 53 #[.string (str l), .int .i64 (k : Int)] w fun e w' => e = .returned (.bool t) ∧ w = w' := by
  have hsz := str_size l
  by_cases h : k < l.length
  · have hi := index_str l k h
    obtain ⟨o, ho⟩ : ∃ o, octN l k = o := ⟨_, rfl⟩
    have HT : Hid (decide (128 ≤ o ∧ o < 192) = t) := by show _ = _; rw [← ht, ← ho]; rfl
    rw [ho] at hi
    have hk : (k : Int) < ((str l).size : Int) := by rw [hsz]; omega
    obtain ⟨s, hs⟩ : ∃ s, str l = s := ⟨_, rfl⟩
    rw [hs] at hi hk hsz ⊢
    clear ho hs ht
    rcases (by omega : (o : Int) < 128 ∨ (128 ≤ (o : Int) ∧ (o : Int) < 192) ∨ (128 ≤ (o : Int) ∧ ¬ (o : Int) < 192)) with h1 | ⟨h1, h2⟩ | ⟨h1, h2⟩
    · obtain rfl : t = false := by rw [← HT.out, decide_eq_false (by omega)]
      go_enter Try.func53, Try.ntmps53
      go_wp2
      go_ret
      exact ⟨rfl, rfl⟩
    · obtain rfl : t = true := by rw [← HT.out, decide_eq_true (by omega)]
      go_enter Try.func53, Try.ntmps53
      go_wp2
      go_ret
      exact ⟨rfl, rfl⟩
    · obtain rfl : t = false := by rw [← HT.out, decide_eq_false (by omega)]
      go_enter Try.func53, Try.ntmps53
      go_wp2
      go_ret
      exact ⟨rfl, rfl⟩
  · obtain rfl : t = false := by
      rw [← ht]
      cases e : onN l k with
      | false => rfl
      | true => exact absurd (on_lt e) h
    have hk : ¬ (k : Int) < ((str l).size : Int) := by rw [hsz]; omega
    obtain ⟨s, hs⟩ : ∃ s, str l = s := ⟨_, rfl⟩
    rw [hs] at hk hsz ⊢
    clear hs ht
    go_enter Try.func53, Try.ntmps53
    go_wp2
    go_ret
    exact ⟨rfl, rfl⟩

def tkA (x : Tk) : Array Value := #[.int .i64 x.v, .string (str x.s), .bool x.odd]
theorem ret_tk {v u : Int} {s t : ByteArray} {a b : Bool} (h1 : v = u) (h2 : s = t) (h3 : a = b) : Ending.returned (.agg #[.int .i64 v, .string s, .bool a]) = .returned (.agg #[.int .i64 u, .string t, .bool b]) := by rw [h1, h2, h3]
theorem tk_cells {w : World} {g : Nat} {t : TypeId} {x y z : Value} (h : Bk w g t #[x, y, z]) : w.cell? ⟨g, 0, none⟩ = some x ∧ w.cell? ⟨g, 1, none⟩ = some y ∧ w.cell? ⟨g, 2, none⟩ = some z
    ∧ w.frozen? ⟨g, 0, none⟩ = false ∧ w.frozen? ⟨g, 1, none⟩ = false ∧ w.frozen? ⟨g, 2, none⟩ = false := ⟨h.cell 0, h.cell 1, h.cell 2, h.free 0, h.free 1, h.free 2⟩
theorem tk_puts {w : World} {g : Nat} {t : TypeId} {x y z : Value} (h : Bk w g t #[x, y, z]) (v s o : Value) : (w.setCell ⟨g, 0, none⟩ v).cell? ⟨g, 0, none⟩ = some v ∧ ((w.setCell ⟨g, 0, none⟩ v).setCell ⟨g, 1, none⟩ s).cell? ⟨g, 1, none⟩ = some s
    ∧ (((w.setCell ⟨g, 0, none⟩ v).setCell ⟨g, 1, none⟩ s).setCell ⟨g, 2, none⟩ o).cell? ⟨g, 2, none⟩ = some o ∧ Bk (((w.setCell ⟨g, 0, none⟩ v).setCell ⟨g, 1, none⟩ s).setCell ⟨g, 2, none⟩ o) g t #[v, s, o] :=
  ⟨(h.set_ 0 v).cell 0, ((h.set_ 0 v).set_ 1 s).cell 1, (((h.set_ 0 v).set_ 1 s).set_ 2 o).cell 2, ((h.set_ 0 v).set_ 1 s).set_ 2 o⟩

set_option linter.unusedSimpArgs false
set_option maxHeartbeats 8000000 in
theorem refNext9_any (l : List UInt8) (w : World) (hl : l.length ≤ 9223372036854775807) (hne : l ≠ []) :
    Calls Try.prog 48 #[.string (str l)] w fun e w' => e = .returned (.agg (tkA (tkOf l))) ∧ Below w.heap.size w w' := by
  have hpos := List.length_pos_iff.2 hne
  have hsz := str_size l
  have hi0 := index_str l 0 hpos
  have hi1 := index_str l 1
  have hi2 := index_str l 2
  have hi3 := index_str l 3
  rw [show ((0 : Nat) : Int) = 0 from rfl] at hi0
  rw [show ((1 : Nat) : Int) = 1 from rfl] at hi1
  rw [show ((2 : Nat) : Int) = 2 from rfl] at hi2
  rw [show ((3 : Nat) : Int) = 3 from rfl] at hi3
  have HX : Hid ((str l).extract 0 1 = str (l.take 1) ∧ (str l).extract 0 2 = str (l.take 2) ∧ (str l).extract 0 3 = str (l.take 3) ∧ (str l).extract 0 4 = str (l.take 4)) := ⟨str_ext l 0 1, str_ext l 0 2, str_ext l 0 3, str_ext l 0 4⟩
  have HM := Lib.hid fun (k : Nat) (t : Bool) (h : onN l k = t) (w : World) => refMore_any l k t w hl h
  have o1 : onN l 1 = true → 1 < l.length ∧ 128 ≤ octN l 1 ∧ octN l 1 < 192 := fun h => ⟨on_lt h, on_is h⟩
  have o2 : onN l 2 = true → 2 < l.length ∧ 128 ≤ octN l 2 ∧ octN l 2 < 192 := fun h => ⟨on_lt h, on_is h⟩
  have o3 : onN l 3 = true → 3 < l.length ∧ 128 ≤ octN l 3 ∧ octN l 3 < 192 := fun h => ⟨on_lt h, on_is h⟩
  obtain ⟨S1, hS1⟩ : ∃ S1, str (l.take 1) = S1 := ⟨_, rfl⟩
  have HB1 : Hid (∀ q : Array Value, Below w.heap.size w ((w.alloc (.cells q 58)).alloc (.cells #[.int .i64 (-1), .string S1, .bool true] 58))) := fun q => ((Below.refl w.heap.size w).alloc (Nat.le_refl _) _).alloc (by simp) _
  have K0 : Hid (∀ j, Bk (((w.alloc (.cells #[.int .i64 0, .string ByteArray.empty, .bool false] 58)).alloc (.cells #[.int .i64 (-1), .string S1, .bool true] 58)).drewN j) w.heap.size 58 #[.int .i64 0, .string ByteArray.empty, .bool false]) := fun j => (Bk.new w _ _).alloc _
  have O0 : Hid (∀ j, Bk (((w.alloc (.cells #[.int .i64 0, .string ByteArray.empty, .bool false] 58)).alloc (.cells #[.int .i64 (-1), .string S1, .bool true] 58)).drewN j) (w.heap.size + 1) 58 #[.int .i64 (-1), .string S1, .bool true]) := fun j => by
    have h := Bk.new (w.alloc (.cells #[.int .i64 0, .string ByteArray.empty, .bool false] 58)) 58 #[.int .i64 (-1), .string S1, .bool true]
    rw [World.alloc_size'] at h
    exact h
  have HB0 : Hid (∀ j, Below w.heap.size w (((w.alloc (.cells #[.int .i64 0, .string ByteArray.empty, .bool false] 58)).alloc (.cells #[.int .i64 (-1), .string S1, .bool true] 58)).drewN j)) := fun j => (HB1.out _).drewN' j
  rw [hS1] at HX
  have hcs := next_cases l
  have ha256 : octN l 0 < 256 := UInt8.toNat_lt _
  obtain ⟨tk, htk⟩ : ∃ tk, tkOf l = tk := ⟨_, rfl⟩
  rw [htk] at hcs ⊢
  obtain ⟨a, ha⟩ : ∃ a, octN l 0 = a := ⟨_, rfl⟩
  obtain ⟨b, hb⟩ : ∃ b, octN l 1 = b := ⟨_, rfl⟩
  obtain ⟨c, hc⟩ : ∃ c, octN l 2 = c := ⟨_, rfl⟩
  obtain ⟨d, hd⟩ : ∃ d, octN l 3 = d := ⟨_, rfl⟩
  rw [ha] at hi0 hcs ha256
  rw [hb] at hi1 o1 hcs
  rw [hc] at hi2 o2 hcs
  rw [hd] at hi3 o3 hcs
  obtain ⟨n, hn⟩ : ∃ n, l.length = n := ⟨_, rfl⟩
  rw [hn] at hsz hpos hl hi1 hi2 hi3 o1 o2 o3
  clear hn ha hb hc hd htk hne
  rcases hcs with ⟨a1, rfl⟩ | ⟨a1, a2, rfl⟩ | ⟨a1, rfl⟩ | ⟨a1, a2, q1, rfl⟩ | ⟨a1, a2, q1, c1, rfl⟩ | ⟨a1, a2, q1, c1, rfl⟩ | ⟨a1, a2, q1, rfl⟩ | ⟨a1, a2, q1, q2, rfl⟩ | ⟨a1, a2, q1, q2, c1, rfl⟩ | ⟨a1, a2, q1, q2, c1, c2, rfl⟩ | ⟨a1, a2, q1, q2, c1, c2, rfl⟩ | ⟨a1, a2, q1, q2, c1, rfl⟩ | ⟨a1, a2, q1, rfl⟩ | ⟨a1, a2, q1, q2, rfl⟩ | ⟨a1, a2, q1, q2, q3, rfl⟩ | ⟨a1, a2, q1, q2, q3, c1, rfl⟩ | ⟨a1, a2, q1, q2, q3, c1, c2, rfl⟩ | ⟨a1, a2, q1, q2, q3, c1, rfl⟩
  · clear hi1 hi2 hi3 o1 o2 o3
    obtain ⟨x1, x2, x3, x4⟩ := HX.out
    obtain ⟨S2, hS2⟩ : ∃ S2, str (l.take 2) = S2 := ⟨_, rfl⟩
    obtain ⟨S3, hS3⟩ : ∃ S3, str (l.take 3) = S3 := ⟨_, rfl⟩
    obtain ⟨S4, hS4⟩ : ∃ S4, str (l.take 4) = S4 := ⟨_, rfl⟩
    rw [hS2] at x2
    rw [hS3] at x3
    rw [hS4] at x4
    have HS := Lib.hid hS1
    obtain ⟨s, hs⟩ : ∃ s, str l = s := ⟨_, rfl⟩
    rw [hs] at hsz hi0  x1 x2 x3 x4  ⊢
    clear hs hS1 hS2 hS3 hS4 HX HM
    go_enter Try.func48, Try.ntmps48
    go_wp2
    all_goals first | (exfalso; omega; done) | skip
    refine bodyPost_ret (v := .agg #[.int .i64 ((a : Int)), .string S1, .bool false]) (by simp [results, Try.results48, go_sem]) rfl ⟨ret_tk (by first | rfl | (dsimp only; omega)) HS.out.symm rfl, ?_⟩
    exact HB1.out _
  · clear hi1 hi2 hi3 o1 o2 o3
    obtain ⟨x1, x2, x3, x4⟩ := HX.out
    obtain ⟨S2, hS2⟩ : ∃ S2, str (l.take 2) = S2 := ⟨_, rfl⟩
    obtain ⟨S3, hS3⟩ : ∃ S3, str (l.take 3) = S3 := ⟨_, rfl⟩
    obtain ⟨S4, hS4⟩ : ∃ S4, str (l.take 4) = S4 := ⟨_, rfl⟩
    rw [hS2] at x2
    rw [hS3] at x3
    rw [hS4] at x4
    have HS := Lib.hid hS1
    obtain ⟨s, hs⟩ : ∃ s, str l = s := ⟨_, rfl⟩
    rw [hs] at hsz hi0  x1 x2 x3 x4  ⊢
    clear hs hS1 hS2 hS3 hS4 HX HM
    go_enter Try.func48, Try.ntmps48
    go_wp2
    all_goals first | (exfalso; omega; done) | skip
    refine bodyPost_ret (v := .agg #[.int .i64 (-1), .string S1, .bool true]) (by simp [results, Try.results48, go_sem]) rfl ⟨ret_tk (by first | rfl | (dsimp only; omega)) HS.out.symm rfl, ?_⟩
    exact HB1.out _
  · clear hi1 hi2 hi3 o1 o2 o3
    obtain ⟨x1, x2, x3, x4⟩ := HX.out
    obtain ⟨S2, hS2⟩ : ∃ S2, str (l.take 2) = S2 := ⟨_, rfl⟩
    obtain ⟨S3, hS3⟩ : ∃ S3, str (l.take 3) = S3 := ⟨_, rfl⟩
    obtain ⟨S4, hS4⟩ : ∃ S4, str (l.take 4) = S4 := ⟨_, rfl⟩
    rw [hS2] at x2
    rw [hS3] at x3
    rw [hS4] at x4
    have HS := Lib.hid hS1
    obtain ⟨s, hs⟩ : ∃ s, str l = s := ⟨_, rfl⟩
    rw [hs] at hsz hi0  x1 x2 x3 x4  ⊢
    clear hs hS1 hS2 hS3 hS4 HX HM
    go_enter Try.func48, Try.ntmps48
    go_wp2
    all_goals first | (exfalso; omega; done) | skip
    refine bodyPost_ret (v := .agg #[.int .i64 (-1), .string S1, .bool true]) (by simp [results, Try.results48, go_sem]) rfl ⟨ret_tk (by first | rfl | (dsimp only; omega)) HS.out.symm rfl, ?_⟩
    exact HB1.out _
  · have M1 := Lib.hid (HM.out 1 false q1)
    clear hi1 hi2 hi3 o1 o2 o3 q1
    obtain ⟨x1, x2, x3, x4⟩ := HX.out
    obtain ⟨S2, hS2⟩ : ∃ S2, str (l.take 2) = S2 := ⟨_, rfl⟩
    obtain ⟨S3, hS3⟩ : ∃ S3, str (l.take 3) = S3 := ⟨_, rfl⟩
    obtain ⟨S4, hS4⟩ : ∃ S4, str (l.take 4) = S4 := ⟨_, rfl⟩
    rw [hS2] at x2
    rw [hS3] at x3
    rw [hS4] at x4
    have HS := Lib.hid hS1
    obtain ⟨s, hs⟩ : ∃ s, str l = s := ⟨_, rfl⟩
    rw [hs] at hsz hi0  x1 x2 x3 x4 M1 ⊢
    clear hs hS1 hS2 hS3 hS4 HX HM
    go_enter Try.func48, Try.ntmps48
    go_wp2_with fail
    refine (M1.out _).mono ?_
    rintro e w1 ⟨rfl, rfl⟩
    go_wp2
    all_goals first | (exfalso; omega; done) | skip
    refine bodyPost_ret (v := .agg #[.int .i64 (-1), .string S1, .bool true]) (by simp [results, Try.results48, go_sem]) rfl ⟨ret_tk (by first | rfl | (dsimp only; omega)) HS.out.symm rfl, ?_⟩
    exact HB1.out _
  · obtain ⟨z1, y1, x1⟩ := o1 q1
    have hi1 := hi1 z1
    have M1 := Lib.hid (HM.out 1 true q1)
    clear hi2 hi3 o1 o2 o3 q1
    obtain ⟨x1, x2, x3, x4⟩ := HX.out
    obtain ⟨S2, hS2⟩ : ∃ S2, str (l.take 2) = S2 := ⟨_, rfl⟩
    obtain ⟨S3, hS3⟩ : ∃ S3, str (l.take 3) = S3 := ⟨_, rfl⟩
    obtain ⟨S4, hS4⟩ : ∃ S4, str (l.take 4) = S4 := ⟨_, rfl⟩
    rw [hS2] at x2
    rw [hS3] at x3
    rw [hS4] at x4
    have HS := Lib.hid hS1
    obtain ⟨s, hs⟩ : ∃ s, str l = s := ⟨_, rfl⟩
    rw [hs] at hsz hi0 hi1 x1 x2 x3 x4 M1 ⊢
    clear hs hS1 hS2 hS3 hS4 HX HM
    go_enter Try.func48, Try.ntmps48
    go_wp2_with fail
    refine (M1.out _).mono ?_
    rintro e w1 ⟨rfl, rfl⟩
    go_wp2
    all_goals first | (exfalso; omega; done) | skip
    refine bodyPost_ret (v := .agg #[.int .i64 (-1), .string S1, .bool true]) (by simp [results, Try.results48, go_sem]) rfl ⟨ret_tk (by first | rfl | (dsimp only; omega)) HS.out.symm rfl, ?_⟩
    exact HB1.out _
  · obtain ⟨z1, y1, x1⟩ := o1 q1
    have hi1 := hi1 z1
    have M1 := Lib.hid (HM.out 1 true q1)
    clear hi2 hi3 o1 o2 o3 q1
    obtain ⟨x1, x2, x3, x4⟩ := HX.out
    obtain ⟨S2, hS2⟩ : ∃ S2, str (l.take 2) = S2 := ⟨_, rfl⟩
    obtain ⟨S3, hS3⟩ : ∃ S3, str (l.take 3) = S3 := ⟨_, rfl⟩
    obtain ⟨S4, hS4⟩ : ∃ S4, str (l.take 4) = S4 := ⟨_, rfl⟩
    rw [hS2] at x2
    rw [hS3] at x3
    rw [hS4] at x4
    have HS := Lib.hid hS2
    obtain ⟨s, hs⟩ : ∃ s, str l = s := ⟨_, rfl⟩
    rw [hs] at hsz hi0 hi1 x1 x2 x3 x4 M1 ⊢
    clear hs hS1 hS2 hS3 hS4 HX HM
    go_enter Try.func48, Try.ntmps48
    go_wp2_with fail
    refine (M1.out _).mono ?_
    rintro e w1 ⟨rfl, rfl⟩
    go_wp2
    all_goals first | (exfalso; omega; done) | skip
    refine bodyPost_ret (v := .agg #[.int .i64 (((a : Int) - 192) * 64 + (b : Int) - 128), .string S2, .bool false]) (by simp [results, Try.results48, go_sem]) rfl ⟨ret_tk (by first | rfl | (dsimp only; omega)) HS.out.symm rfl, ?_⟩
    exact HB1.out _
  · have M1 := Lib.hid (HM.out 1 false q1)
    clear hi1 hi2 hi3 o1 o2 o3 q1
    obtain ⟨x1, x2, x3, x4⟩ := HX.out
    obtain ⟨S2, hS2⟩ : ∃ S2, str (l.take 2) = S2 := ⟨_, rfl⟩
    obtain ⟨S3, hS3⟩ : ∃ S3, str (l.take 3) = S3 := ⟨_, rfl⟩
    obtain ⟨S4, hS4⟩ : ∃ S4, str (l.take 4) = S4 := ⟨_, rfl⟩
    rw [hS2] at x2
    rw [hS3] at x3
    rw [hS4] at x4
    have HS := Lib.hid hS1
    obtain ⟨s, hs⟩ : ∃ s, str l = s := ⟨_, rfl⟩
    rw [hs] at hsz hi0  x1 x2 x3 x4 M1 ⊢
    clear hs hS1 hS2 hS3 hS4 HX HM
    go_enter Try.func48, Try.ntmps48
    go_wp2_with fail
    refine (M1.out _).mono ?_
    rintro e w1 ⟨rfl, rfl⟩
    go_wp2
    all_goals first | (exfalso; omega; done) | skip
    refine bodyPost_ret (v := .agg #[.int .i64 (-1), .string S1, .bool true]) (by simp [results, Try.results48, go_sem]) rfl ⟨ret_tk (by first | rfl | (dsimp only; omega)) HS.out.symm rfl, ?_⟩
    exact HB1.out _
  · obtain ⟨z1, y1, x1⟩ := o1 q1
    have hi1 := hi1 z1
    have M1 := Lib.hid (HM.out 1 true q1)
    have M2 := Lib.hid (HM.out 2 false q2)
    clear hi2 hi3 o1 o2 o3 q1 q2
    obtain ⟨x1, x2, x3, x4⟩ := HX.out
    obtain ⟨S2, hS2⟩ : ∃ S2, str (l.take 2) = S2 := ⟨_, rfl⟩
    obtain ⟨S3, hS3⟩ : ∃ S3, str (l.take 3) = S3 := ⟨_, rfl⟩
    obtain ⟨S4, hS4⟩ : ∃ S4, str (l.take 4) = S4 := ⟨_, rfl⟩
    rw [hS2] at x2
    rw [hS3] at x3
    rw [hS4] at x4
    have HS := Lib.hid hS1
    obtain ⟨s, hs⟩ : ∃ s, str l = s := ⟨_, rfl⟩
    rw [hs] at hsz hi0 hi1 x1 x2 x3 x4 M1 M2 ⊢
    clear hs hS1 hS2 hS3 hS4 HX HM
    go_enter Try.func48, Try.ntmps48
    go_wp2_with fail
    refine (M1.out _).mono ?_
    rintro e w1 ⟨rfl, rfl⟩
    go_wp2_with fail
    refine (M2.out _).mono ?_
    rintro e w1 ⟨rfl, rfl⟩
    go_wp2
    all_goals first | (exfalso; omega; done) | skip
    refine bodyPost_ret (v := .agg #[.int .i64 (-1), .string S1, .bool true]) (by simp [results, Try.results48, go_sem]) rfl ⟨ret_tk (by first | rfl | (dsimp only; omega)) HS.out.symm rfl, ?_⟩
    exact HB1.out _
  · obtain ⟨z1, y1, x1⟩ := o1 q1
    have hi1 := hi1 z1
    obtain ⟨z2, y2, x2⟩ := o2 q2
    have hi2 := hi2 z2
    have M1 := Lib.hid (HM.out 1 true q1)
    have M2 := Lib.hid (HM.out 2 true q2)
    clear hi3 o1 o2 o3 q1 q2
    obtain ⟨x1, x2, x3, x4⟩ := HX.out
    obtain ⟨S2, hS2⟩ : ∃ S2, str (l.take 2) = S2 := ⟨_, rfl⟩
    obtain ⟨S3, hS3⟩ : ∃ S3, str (l.take 3) = S3 := ⟨_, rfl⟩
    obtain ⟨S4, hS4⟩ : ∃ S4, str (l.take 4) = S4 := ⟨_, rfl⟩
    rw [hS2] at x2
    rw [hS3] at x3
    rw [hS4] at x4
    have HS := Lib.hid hS1
    obtain ⟨s, hs⟩ : ∃ s, str l = s := ⟨_, rfl⟩
    rw [hs] at hsz hi0 hi1 hi2 x1 x2 x3 x4 M1 M2 ⊢
    clear hs hS1 hS2 hS3 hS4 HX HM
    have k0 := fun j => (tk_cells (K0.out j)).1
    have k1 := fun j => (tk_cells (K0.out j)).2.1
    have k2 := fun j => (tk_cells (K0.out j)).2.2.1
    have f0 := fun j => (tk_cells (K0.out j)).2.2.2.1
    have f1 := fun j => (tk_cells (K0.out j)).2.2.2.2.1
    have f2 := fun j => (tk_cells (K0.out j)).2.2.2.2.2
    have m0 := fun j => (tk_cells (O0.out j)).1
    have m1 := fun j => (tk_cells (O0.out j)).2.1
    have m2 := fun j => (tk_cells (O0.out j)).2.2.1
    have p0 := fun j => (tk_puts (K0.out j) (.int .i64 (-1)) (.string S1) (.bool true)).1
    have p1 := fun j => (tk_puts (K0.out j) (.int .i64 (-1)) (.string S1) (.bool true)).2.1
    have p2 := fun j => (tk_puts (K0.out j) (.int .i64 (-1)) (.string S1) (.bool true)).2.2.1
    go_enter Try.func48, Try.ntmps48
    go_wp2_with fail
    refine (M1.out _).mono ?_
    rintro e w1 ⟨rfl, rfl⟩
    go_wp2_with fail
    refine (M2.out _).mono ?_
    rintro e w1 ⟨rfl, rfl⟩
    go_wp2_with fail
    go_quiet (fail)
    go_wp2
    all_goals first | (exfalso; omega; done) | skip
    refine bodyPost_ret (v := .agg #[.int .i64 (-1), .string S1, .bool true]) (by simp [results, Try.results48, go_sem, p0, p1, p2]) rfl ⟨ret_tk (by first | rfl | (dsimp only; omega)) HS.out.symm rfl, ?_⟩
    exact (((HB0.out _).setCell (p := ⟨w.heap.size, 0, none⟩) (Nat.le_refl _) _).setCell (p := ⟨w.heap.size, 1, none⟩) (Nat.le_refl _) _).setCell (p := ⟨w.heap.size, 2, none⟩) (Nat.le_refl _) _
  · obtain ⟨z1, y1, x1⟩ := o1 q1
    have hi1 := hi1 z1
    obtain ⟨z2, y2, x2⟩ := o2 q2
    have hi2 := hi2 z2
    have M1 := Lib.hid (HM.out 1 true q1)
    have M2 := Lib.hid (HM.out 2 true q2)
    clear hi3 o1 o2 o3 q1 q2
    obtain ⟨x1, x2, x3, x4⟩ := HX.out
    obtain ⟨S2, hS2⟩ : ∃ S2, str (l.take 2) = S2 := ⟨_, rfl⟩
    obtain ⟨S3, hS3⟩ : ∃ S3, str (l.take 3) = S3 := ⟨_, rfl⟩
    obtain ⟨S4, hS4⟩ : ∃ S4, str (l.take 4) = S4 := ⟨_, rfl⟩
    rw [hS2] at x2
    rw [hS3] at x3
    rw [hS4] at x4
    have HS := Lib.hid hS3
    obtain ⟨s, hs⟩ : ∃ s, str l = s := ⟨_, rfl⟩
    rw [hs] at hsz hi0 hi1 hi2 x1 x2 x3 x4 M1 M2 ⊢
    clear hs hS1 hS2 hS3 hS4 HX HM
    have k0 := fun j => (tk_cells (K0.out j)).1
    have k1 := fun j => (tk_cells (K0.out j)).2.1
    have k2 := fun j => (tk_cells (K0.out j)).2.2.1
    have f0 := fun j => (tk_cells (K0.out j)).2.2.2.1
    have f1 := fun j => (tk_cells (K0.out j)).2.2.2.2.1
    have f2 := fun j => (tk_cells (K0.out j)).2.2.2.2.2
    have m0 := fun j => (tk_cells (O0.out j)).1
    have m1 := fun j => (tk_cells (O0.out j)).2.1
    have m2 := fun j => (tk_cells (O0.out j)).2.2.1
    have p0 := fun j => (tk_puts (K0.out j) (.int .i64 (((a : Int) - 224) * 4096 + ((b : Int) - 128) * 64 + (c : Int) - 128)) (.string S3) (.bool false)).1
    have p1 := fun j => (tk_puts (K0.out j) (.int .i64 (((a : Int) - 224) * 4096 + ((b : Int) - 128) * 64 + (c : Int) - 128)) (.string S3) (.bool false)).2.1
    have p2 := fun j => (tk_puts (K0.out j) (.int .i64 (((a : Int) - 224) * 4096 + ((b : Int) - 128) * 64 + (c : Int) - 128)) (.string S3) (.bool false)).2.2.1
    go_enter Try.func48, Try.ntmps48
    go_wp2_with fail
    refine (M1.out _).mono ?_
    rintro e w1 ⟨rfl, rfl⟩
    go_wp2_with fail
    refine (M2.out _).mono ?_
    rintro e w1 ⟨rfl, rfl⟩
    go_wp2_with fail
    go_quiet (fail)
    go_wp2
    all_goals first | (exfalso; omega; done) | skip
    refine bodyPost_ret (v := .agg #[.int .i64 (((a : Int) - 224) * 4096 + ((b : Int) - 128) * 64 + (c : Int) - 128), .string S3, .bool false]) (by simp [results, Try.results48, go_sem, p0, p1, p2]) rfl ⟨ret_tk (by first | rfl | (dsimp only; omega)) HS.out.symm rfl, ?_⟩
    exact (((HB0.out _).setCell (p := ⟨w.heap.size, 0, none⟩) (Nat.le_refl _) _).setCell (p := ⟨w.heap.size, 1, none⟩) (Nat.le_refl _) _).setCell (p := ⟨w.heap.size, 2, none⟩) (Nat.le_refl _) _
  · obtain ⟨z1, y1, x1⟩ := o1 q1
    have hi1 := hi1 z1
    obtain ⟨z2, y2, x2⟩ := o2 q2
    have hi2 := hi2 z2
    have M1 := Lib.hid (HM.out 1 true q1)
    have M2 := Lib.hid (HM.out 2 true q2)
    clear hi3 o1 o2 o3 q1 q2
    obtain ⟨x1, x2, x3, x4⟩ := HX.out
    obtain ⟨S2, hS2⟩ : ∃ S2, str (l.take 2) = S2 := ⟨_, rfl⟩
    obtain ⟨S3, hS3⟩ : ∃ S3, str (l.take 3) = S3 := ⟨_, rfl⟩
    obtain ⟨S4, hS4⟩ : ∃ S4, str (l.take 4) = S4 := ⟨_, rfl⟩
    rw [hS2] at x2
    rw [hS3] at x3
    rw [hS4] at x4
    have HS := Lib.hid hS1
    obtain ⟨s, hs⟩ : ∃ s, str l = s := ⟨_, rfl⟩
    rw [hs] at hsz hi0 hi1 hi2 x1 x2 x3 x4 M1 M2 ⊢
    clear hs hS1 hS2 hS3 hS4 HX HM
    have k0 := fun j => (tk_cells (K0.out j)).1
    have k1 := fun j => (tk_cells (K0.out j)).2.1
    have k2 := fun j => (tk_cells (K0.out j)).2.2.1
    have f0 := fun j => (tk_cells (K0.out j)).2.2.2.1
    have f1 := fun j => (tk_cells (K0.out j)).2.2.2.2.1
    have f2 := fun j => (tk_cells (K0.out j)).2.2.2.2.2
    have m0 := fun j => (tk_cells (O0.out j)).1
    have m1 := fun j => (tk_cells (O0.out j)).2.1
    have m2 := fun j => (tk_cells (O0.out j)).2.2.1
    have p0 := fun j => (tk_puts (K0.out j) (.int .i64 (-1)) (.string S1) (.bool true)).1
    have p1 := fun j => (tk_puts (K0.out j) (.int .i64 (-1)) (.string S1) (.bool true)).2.1
    have p2 := fun j => (tk_puts (K0.out j) (.int .i64 (-1)) (.string S1) (.bool true)).2.2.1
    go_enter Try.func48, Try.ntmps48
    go_wp2_with fail
    refine (M1.out _).mono ?_
    rintro e w1 ⟨rfl, rfl⟩
    go_wp2_with fail
    refine (M2.out _).mono ?_
    rintro e w1 ⟨rfl, rfl⟩
    go_wp2_with fail
    go_quiet (fail)
    go_wp2
    all_goals first | (exfalso; omega; done) | skip
    refine bodyPost_ret (v := .agg #[.int .i64 (-1), .string S1, .bool true]) (by simp [results, Try.results48, go_sem, p0, p1, p2]) rfl ⟨ret_tk (by first | rfl | (dsimp only; omega)) HS.out.symm rfl, ?_⟩
    exact (((HB0.out _).setCell (p := ⟨w.heap.size, 0, none⟩) (Nat.le_refl _) _).setCell (p := ⟨w.heap.size, 1, none⟩) (Nat.le_refl _) _).setCell (p := ⟨w.heap.size, 2, none⟩) (Nat.le_refl _) _
  · obtain ⟨z1, y1, x1⟩ := o1 q1
    have hi1 := hi1 z1
    obtain ⟨z2, y2, x2⟩ := o2 q2
    have hi2 := hi2 z2
    have M1 := Lib.hid (HM.out 1 true q1)
    have M2 := Lib.hid (HM.out 2 true q2)
    clear hi3 o1 o2 o3 q1 q2
    obtain ⟨x1, x2, x3, x4⟩ := HX.out
    obtain ⟨S2, hS2⟩ : ∃ S2, str (l.take 2) = S2 := ⟨_, rfl⟩
    obtain ⟨S3, hS3⟩ : ∃ S3, str (l.take 3) = S3 := ⟨_, rfl⟩
    obtain ⟨S4, hS4⟩ : ∃ S4, str (l.take 4) = S4 := ⟨_, rfl⟩
    rw [hS2] at x2
    rw [hS3] at x3
    rw [hS4] at x4
    have HS := Lib.hid hS3
    obtain ⟨s, hs⟩ : ∃ s, str l = s := ⟨_, rfl⟩
    rw [hs] at hsz hi0 hi1 hi2 x1 x2 x3 x4 M1 M2 ⊢
    clear hs hS1 hS2 hS3 hS4 HX HM
    have k0 := fun j => (tk_cells (K0.out j)).1
    have k1 := fun j => (tk_cells (K0.out j)).2.1
    have k2 := fun j => (tk_cells (K0.out j)).2.2.1
    have f0 := fun j => (tk_cells (K0.out j)).2.2.2.1
    have f1 := fun j => (tk_cells (K0.out j)).2.2.2.2.1
    have f2 := fun j => (tk_cells (K0.out j)).2.2.2.2.2
    have m0 := fun j => (tk_cells (O0.out j)).1
    have m1 := fun j => (tk_cells (O0.out j)).2.1
    have m2 := fun j => (tk_cells (O0.out j)).2.2.1
    have p0 := fun j => (tk_puts (K0.out j) (.int .i64 (((a : Int) - 224) * 4096 + ((b : Int) - 128) * 64 + (c : Int) - 128)) (.string S3) (.bool false)).1
    have p1 := fun j => (tk_puts (K0.out j) (.int .i64 (((a : Int) - 224) * 4096 + ((b : Int) - 128) * 64 + (c : Int) - 128)) (.string S3) (.bool false)).2.1
    have p2 := fun j => (tk_puts (K0.out j) (.int .i64 (((a : Int) - 224) * 4096 + ((b : Int) - 128) * 64 + (c : Int) - 128)) (.string S3) (.bool false)).2.2.1
    go_enter Try.func48, Try.ntmps48
    go_wp2_with fail
    refine (M1.out _).mono ?_
    rintro e w1 ⟨rfl, rfl⟩
    go_wp2_with fail
    refine (M2.out _).mono ?_
    rintro e w1 ⟨rfl, rfl⟩
    go_wp2_with fail
    go_quiet (fail)
    go_wp2
    all_goals first | (exfalso; omega; done) | skip
    refine bodyPost_ret (v := .agg #[.int .i64 (((a : Int) - 224) * 4096 + ((b : Int) - 128) * 64 + (c : Int) - 128), .string S3, .bool false]) (by simp [results, Try.results48, go_sem, p0, p1, p2]) rfl ⟨ret_tk (by first | rfl | (dsimp only; omega)) HS.out.symm rfl, ?_⟩
    exact (((HB0.out _).setCell (p := ⟨w.heap.size, 0, none⟩) (Nat.le_refl _) _).setCell (p := ⟨w.heap.size, 1, none⟩) (Nat.le_refl _) _).setCell (p := ⟨w.heap.size, 2, none⟩) (Nat.le_refl _) _
  · have M1 := Lib.hid (HM.out 1 false q1)
    clear hi1 hi2 hi3 o1 o2 o3 q1
    obtain ⟨x1, x2, x3, x4⟩ := HX.out
    obtain ⟨S2, hS2⟩ : ∃ S2, str (l.take 2) = S2 := ⟨_, rfl⟩
    obtain ⟨S3, hS3⟩ : ∃ S3, str (l.take 3) = S3 := ⟨_, rfl⟩
    obtain ⟨S4, hS4⟩ : ∃ S4, str (l.take 4) = S4 := ⟨_, rfl⟩
    rw [hS2] at x2
    rw [hS3] at x3
    rw [hS4] at x4
    have HS := Lib.hid hS1
    obtain ⟨s, hs⟩ : ∃ s, str l = s := ⟨_, rfl⟩
    rw [hs] at hsz hi0  x1 x2 x3 x4 M1 ⊢
    clear hs hS1 hS2 hS3 hS4 HX HM
    go_enter Try.func48, Try.ntmps48
    go_wp2_with fail
    refine (M1.out _).mono ?_
    rintro e w1 ⟨rfl, rfl⟩
    go_wp2
    all_goals first | (exfalso; omega; done) | skip
    refine bodyPost_ret (v := .agg #[.int .i64 (-1), .string S1, .bool true]) (by simp [results, Try.results48, go_sem]) rfl ⟨ret_tk (by first | rfl | (dsimp only; omega)) HS.out.symm rfl, ?_⟩
    exact HB1.out _
  · obtain ⟨z1, y1, x1⟩ := o1 q1
    have hi1 := hi1 z1
    have M1 := Lib.hid (HM.out 1 true q1)
    have M2 := Lib.hid (HM.out 2 false q2)
    clear hi2 hi3 o1 o2 o3 q1 q2
    obtain ⟨x1, x2, x3, x4⟩ := HX.out
    obtain ⟨S2, hS2⟩ : ∃ S2, str (l.take 2) = S2 := ⟨_, rfl⟩
    obtain ⟨S3, hS3⟩ : ∃ S3, str (l.take 3) = S3 := ⟨_, rfl⟩
    obtain ⟨S4, hS4⟩ : ∃ S4, str (l.take 4) = S4 := ⟨_, rfl⟩
    rw [hS2] at x2
    rw [hS3] at x3
    rw [hS4] at x4
    have HS := Lib.hid hS1
    obtain ⟨s, hs⟩ : ∃ s, str l = s := ⟨_, rfl⟩
    rw [hs] at hsz hi0 hi1 x1 x2 x3 x4 M1 M2 ⊢
    clear hs hS1 hS2 hS3 hS4 HX HM
    go_enter Try.func48, Try.ntmps48
    go_wp2_with fail
    refine (M1.out _).mono ?_
    rintro e w1 ⟨rfl, rfl⟩
    go_wp2_with fail
    refine (M2.out _).mono ?_
    rintro e w1 ⟨rfl, rfl⟩
    go_wp2
    all_goals first | (exfalso; omega; done) | skip
    refine bodyPost_ret (v := .agg #[.int .i64 (-1), .string S1, .bool true]) (by simp [results, Try.results48, go_sem]) rfl ⟨ret_tk (by first | rfl | (dsimp only; omega)) HS.out.symm rfl, ?_⟩
    exact HB1.out _
  · obtain ⟨z1, y1, x1⟩ := o1 q1
    have hi1 := hi1 z1
    obtain ⟨z2, y2, x2⟩ := o2 q2
    have hi2 := hi2 z2
    have M1 := Lib.hid (HM.out 1 true q1)
    have M2 := Lib.hid (HM.out 2 true q2)
    have M3 := Lib.hid (HM.out 3 false q3)
    clear hi3 o1 o2 o3 q1 q2 q3
    obtain ⟨x1, x2, x3, x4⟩ := HX.out
    obtain ⟨S2, hS2⟩ : ∃ S2, str (l.take 2) = S2 := ⟨_, rfl⟩
    obtain ⟨S3, hS3⟩ : ∃ S3, str (l.take 3) = S3 := ⟨_, rfl⟩
    obtain ⟨S4, hS4⟩ : ∃ S4, str (l.take 4) = S4 := ⟨_, rfl⟩
    rw [hS2] at x2
    rw [hS3] at x3
    rw [hS4] at x4
    have HS := Lib.hid hS1
    obtain ⟨s, hs⟩ : ∃ s, str l = s := ⟨_, rfl⟩
    rw [hs] at hsz hi0 hi1 hi2 x1 x2 x3 x4 M1 M2 M3 ⊢
    clear hs hS1 hS2 hS3 hS4 HX HM
    go_enter Try.func48, Try.ntmps48
    go_wp2_with fail
    refine (M1.out _).mono ?_
    rintro e w1 ⟨rfl, rfl⟩
    go_wp2_with fail
    refine (M2.out _).mono ?_
    rintro e w1 ⟨rfl, rfl⟩
    go_wp2_with fail
    refine (M3.out _).mono ?_
    rintro e w1 ⟨rfl, rfl⟩
    go_wp2
    all_goals first | (exfalso; omega; done) | skip
    refine bodyPost_ret (v := .agg #[.int .i64 (-1), .string S1, .bool true]) (by simp [results, Try.results48, go_sem]) rfl ⟨ret_tk (by first | rfl | (dsimp only; omega)) HS.out.symm rfl, ?_⟩
    exact HB1.out _
  · obtain ⟨z1, y1, x1⟩ := o1 q1
    have hi1 := hi1 z1
    obtain ⟨z2, y2, x2⟩ := o2 q2
    have hi2 := hi2 z2
    obtain ⟨z3, y3, x3⟩ := o3 q3
    have hi3 := hi3 z3
    have M1 := Lib.hid (HM.out 1 true q1)
    have M2 := Lib.hid (HM.out 2 true q2)
    have M3 := Lib.hid (HM.out 3 true q3)
    clear o1 o2 o3 q1 q2 q3
    obtain ⟨x1, x2, x3, x4⟩ := HX.out
    obtain ⟨S2, hS2⟩ : ∃ S2, str (l.take 2) = S2 := ⟨_, rfl⟩
    obtain ⟨S3, hS3⟩ : ∃ S3, str (l.take 3) = S3 := ⟨_, rfl⟩
    obtain ⟨S4, hS4⟩ : ∃ S4, str (l.take 4) = S4 := ⟨_, rfl⟩
    rw [hS2] at x2
    rw [hS3] at x3
    rw [hS4] at x4
    have HS := Lib.hid hS1
    obtain ⟨s, hs⟩ : ∃ s, str l = s := ⟨_, rfl⟩
    rw [hs] at hsz hi0 hi1 hi2 hi3 x1 x2 x3 x4 M1 M2 M3 ⊢
    clear hs hS1 hS2 hS3 hS4 HX HM
    have k0 := fun j => (tk_cells (K0.out j)).1
    have k1 := fun j => (tk_cells (K0.out j)).2.1
    have k2 := fun j => (tk_cells (K0.out j)).2.2.1
    have f0 := fun j => (tk_cells (K0.out j)).2.2.2.1
    have f1 := fun j => (tk_cells (K0.out j)).2.2.2.2.1
    have f2 := fun j => (tk_cells (K0.out j)).2.2.2.2.2
    have m0 := fun j => (tk_cells (O0.out j)).1
    have m1 := fun j => (tk_cells (O0.out j)).2.1
    have m2 := fun j => (tk_cells (O0.out j)).2.2.1
    have p0 := fun j => (tk_puts (K0.out j) (.int .i64 (-1)) (.string S1) (.bool true)).1
    have p1 := fun j => (tk_puts (K0.out j) (.int .i64 (-1)) (.string S1) (.bool true)).2.1
    have p2 := fun j => (tk_puts (K0.out j) (.int .i64 (-1)) (.string S1) (.bool true)).2.2.1
    go_enter Try.func48, Try.ntmps48
    go_wp2_with fail
    refine (M1.out _).mono ?_
    rintro e w1 ⟨rfl, rfl⟩
    go_wp2_with fail
    refine (M2.out _).mono ?_
    rintro e w1 ⟨rfl, rfl⟩
    go_wp2_with fail
    refine (M3.out _).mono ?_
    rintro e w1 ⟨rfl, rfl⟩
    go_wp2_with fail
    go_quiet (fail)
    go_wp2
    all_goals first | (exfalso; omega; done) | skip
    refine bodyPost_ret (v := .agg #[.int .i64 (-1), .string S1, .bool true]) (by simp [results, Try.results48, go_sem, p0, p1, p2]) rfl ⟨ret_tk (by first | rfl | (dsimp only; omega)) HS.out.symm rfl, ?_⟩
    exact (((HB0.out _).setCell (p := ⟨w.heap.size, 0, none⟩) (Nat.le_refl _) _).setCell (p := ⟨w.heap.size, 1, none⟩) (Nat.le_refl _) _).setCell (p := ⟨w.heap.size, 2, none⟩) (Nat.le_refl _) _
  · obtain ⟨z1, y1, x1⟩ := o1 q1
    have hi1 := hi1 z1
    obtain ⟨z2, y2, x2⟩ := o2 q2
    have hi2 := hi2 z2
    obtain ⟨z3, y3, x3⟩ := o3 q3
    have hi3 := hi3 z3
    have M1 := Lib.hid (HM.out 1 true q1)
    have M2 := Lib.hid (HM.out 2 true q2)
    have M3 := Lib.hid (HM.out 3 true q3)
    clear o1 o2 o3 q1 q2 q3
    obtain ⟨x1, x2, x3, x4⟩ := HX.out
    obtain ⟨S2, hS2⟩ : ∃ S2, str (l.take 2) = S2 := ⟨_, rfl⟩
    obtain ⟨S3, hS3⟩ : ∃ S3, str (l.take 3) = S3 := ⟨_, rfl⟩
    obtain ⟨S4, hS4⟩ : ∃ S4, str (l.take 4) = S4 := ⟨_, rfl⟩
    rw [hS2] at x2
    rw [hS3] at x3
    rw [hS4] at x4
    have HS := Lib.hid hS4
    obtain ⟨s, hs⟩ : ∃ s, str l = s := ⟨_, rfl⟩
    rw [hs] at hsz hi0 hi1 hi2 hi3 x1 x2 x3 x4 M1 M2 M3 ⊢
    clear hs hS1 hS2 hS3 hS4 HX HM
    have k0 := fun j => (tk_cells (K0.out j)).1
    have k1 := fun j => (tk_cells (K0.out j)).2.1
    have k2 := fun j => (tk_cells (K0.out j)).2.2.1
    have f0 := fun j => (tk_cells (K0.out j)).2.2.2.1
    have f1 := fun j => (tk_cells (K0.out j)).2.2.2.2.1
    have f2 := fun j => (tk_cells (K0.out j)).2.2.2.2.2
    have m0 := fun j => (tk_cells (O0.out j)).1
    have m1 := fun j => (tk_cells (O0.out j)).2.1
    have m2 := fun j => (tk_cells (O0.out j)).2.2.1
    have p0 := fun j => (tk_puts (K0.out j) (.int .i64 (((a : Int) - 240) * 262144 + ((b : Int) - 128) * 4096 + ((c : Int) - 128) * 64 + (d : Int) - 128)) (.string S4) (.bool false)).1
    have p1 := fun j => (tk_puts (K0.out j) (.int .i64 (((a : Int) - 240) * 262144 + ((b : Int) - 128) * 4096 + ((c : Int) - 128) * 64 + (d : Int) - 128)) (.string S4) (.bool false)).2.1
    have p2 := fun j => (tk_puts (K0.out j) (.int .i64 (((a : Int) - 240) * 262144 + ((b : Int) - 128) * 4096 + ((c : Int) - 128) * 64 + (d : Int) - 128)) (.string S4) (.bool false)).2.2.1
    go_enter Try.func48, Try.ntmps48
    go_wp2_with fail
    refine (M1.out _).mono ?_
    rintro e w1 ⟨rfl, rfl⟩
    go_wp2_with fail
    refine (M2.out _).mono ?_
    rintro e w1 ⟨rfl, rfl⟩
    go_wp2_with fail
    refine (M3.out _).mono ?_
    rintro e w1 ⟨rfl, rfl⟩
    go_wp2_with fail
    go_quiet (fail)
    go_wp2
    all_goals first | (exfalso; omega; done) | skip
    refine bodyPost_ret (v := .agg #[.int .i64 (((a : Int) - 240) * 262144 + ((b : Int) - 128) * 4096 + ((c : Int) - 128) * 64 + (d : Int) - 128), .string S4, .bool false]) (by simp [results, Try.results48, go_sem, p0, p1, p2]) rfl ⟨ret_tk (by first | rfl | (dsimp only; omega)) HS.out.symm rfl, ?_⟩
    exact (((HB0.out _).setCell (p := ⟨w.heap.size, 0, none⟩) (Nat.le_refl _) _).setCell (p := ⟨w.heap.size, 1, none⟩) (Nat.le_refl _) _).setCell (p := ⟨w.heap.size, 2, none⟩) (Nat.le_refl _) _
  · obtain ⟨z1, y1, x1⟩ := o1 q1
    have hi1 := hi1 z1
    obtain ⟨z2, y2, x2⟩ := o2 q2
    have hi2 := hi2 z2
    obtain ⟨z3, y3, x3⟩ := o3 q3
    have hi3 := hi3 z3
    have M1 := Lib.hid (HM.out 1 true q1)
    have M2 := Lib.hid (HM.out 2 true q2)
    have M3 := Lib.hid (HM.out 3 true q3)
    clear o1 o2 o3 q1 q2 q3
    obtain ⟨x1, x2, x3, x4⟩ := HX.out
    obtain ⟨S2, hS2⟩ : ∃ S2, str (l.take 2) = S2 := ⟨_, rfl⟩
    obtain ⟨S3, hS3⟩ : ∃ S3, str (l.take 3) = S3 := ⟨_, rfl⟩
    obtain ⟨S4, hS4⟩ : ∃ S4, str (l.take 4) = S4 := ⟨_, rfl⟩
    rw [hS2] at x2
    rw [hS3] at x3
    rw [hS4] at x4
    have HS := Lib.hid hS1
    obtain ⟨s, hs⟩ : ∃ s, str l = s := ⟨_, rfl⟩
    rw [hs] at hsz hi0 hi1 hi2 hi3 x1 x2 x3 x4 M1 M2 M3 ⊢
    clear hs hS1 hS2 hS3 hS4 HX HM
    have k0 := fun j => (tk_cells (K0.out j)).1
    have k1 := fun j => (tk_cells (K0.out j)).2.1
    have k2 := fun j => (tk_cells (K0.out j)).2.2.1
    have f0 := fun j => (tk_cells (K0.out j)).2.2.2.1
    have f1 := fun j => (tk_cells (K0.out j)).2.2.2.2.1
    have f2 := fun j => (tk_cells (K0.out j)).2.2.2.2.2
    have m0 := fun j => (tk_cells (O0.out j)).1
    have m1 := fun j => (tk_cells (O0.out j)).2.1
    have m2 := fun j => (tk_cells (O0.out j)).2.2.1
    have p0 := fun j => (tk_puts (K0.out j) (.int .i64 (-1)) (.string S1) (.bool true)).1
    have p1 := fun j => (tk_puts (K0.out j) (.int .i64 (-1)) (.string S1) (.bool true)).2.1
    have p2 := fun j => (tk_puts (K0.out j) (.int .i64 (-1)) (.string S1) (.bool true)).2.2.1
    go_enter Try.func48, Try.ntmps48
    go_wp2_with fail
    refine (M1.out _).mono ?_
    rintro e w1 ⟨rfl, rfl⟩
    go_wp2_with fail
    refine (M2.out _).mono ?_
    rintro e w1 ⟨rfl, rfl⟩
    go_wp2_with fail
    refine (M3.out _).mono ?_
    rintro e w1 ⟨rfl, rfl⟩
    go_wp2_with fail
    go_quiet (fail)
    go_wp2
    all_goals first | (exfalso; omega; done) | skip
    refine bodyPost_ret (v := .agg #[.int .i64 (-1), .string S1, .bool true]) (by simp [results, Try.results48, go_sem, p0, p1, p2]) rfl ⟨ret_tk (by first | rfl | (dsimp only; omega)) HS.out.symm rfl, ?_⟩
    exact (((HB0.out _).setCell (p := ⟨w.heap.size, 0, none⟩) (Nat.le_refl _) _).setCell (p := ⟨w.heap.size, 1, none⟩) (Nat.le_refl _) _).setCell (p := ⟨w.heap.size, 2, none⟩) (Nat.le_refl _) _
end Go.Proofs.Ytlenfocdhchphaa
