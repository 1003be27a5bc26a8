/-
  What the document's answers of layer 9 are: Fold.
-/
import Derived.Test.YtopjajfkncnihaaRef09c
namespace Go.Proofs.Ytopjajfkncnihaa
open Go.RowKit
set_option maxRecDepth 100000
set_option linter.unusedVariables false

theorem foldT_take_succ {l : List UInt8} {k : Nat} {c : UInt8} (h : l[k]? = some c) : foldT (l.take (k + 1)) = foldT (l.take k) ++ [foldO c] := by
  rw [List.take_add_one, h]; simp [foldT]
theorem oct_some {l : List UInt8} {k : Nat} {c : UInt8} (h : l[k]? = some c) : octN l k = c.toNat := by
  unfold octN; rw [List.getD, h]; rfl

set_option maxHeartbeats 4000000 in
theorem refFold_any (l : List UInt8) (w : World) (hl : l.length ≤ 4398046511104) :
    Calls Try.prog 21 #[.string (str l)] w fun e w' => e = .returned (.string (str (foldT l))) ∧ Below w.heap.size w w' := by
  have hsz := str_size l
  have HI := Lib.hid (index_str l)
  obtain ⟨s, hs⟩ : ∃ s, str l = s := ⟨_, rfl⟩
  rw [hs] at hsz HI ⊢
  obtain ⟨n, hn⟩ : ∃ n, l.length = n := ⟨_, rfl⟩
  rw [hn] at hsz hl HI
  have HN := Lib.hid hn
  clear hs hn
  go_enter Try.func21, Try.ntmps21
  go_wp2
  go_loopw [3, 4] (fun o i wr => ∃ (k : Nat) (O : ByteArray), k ≤ n ∧ i = .int .i64 (k : Int) ∧ o = .string O ∧ O.size = k ∧ Hid (str (foldT (l.take k)) = O) ∧ Hid (Below w.heap.size w wr)) (fun _ i _ => n - (intOf i).toNat)
  case atStart => exact ⟨0, _, Nat.zero_le _, rfl, rfl, rfl, rfl, Below.refl _ _⟩
  case round =>
    obtain ⟨k, O, hk, rfl, rfl, hO, HO, HB⟩ := hrel
    by_cases hlt : k < n
    · obtain ⟨c, hc⟩ : ∃ c, l[k]? = some c := ⟨_, List.getElem?_eq_getElem (by rw [HN.out]; exact hlt)⟩
      have hix := HI.out k hlt
      rw [oct_some hc] at hix
      have HS : Hid (str (foldT (l.take (k + 1))) = O ++ str [foldO c]) := by show _ = _; rw [foldT_take_succ hc, ← HO.out, str_append]
      have hfn := foldO_nat c
      obtain ⟨f, hf⟩ : ∃ f, foldO c = f := ⟨_, rfl⟩
      rw [hf] at HS hfn
      have hc256 := c.toNat_lt
      obtain ⟨a, ha⟩ : ∃ a, c.toNat = a := ⟨_, rfl⟩
      obtain ⟨d, hd⟩ : ∃ d, f.toNat = d := ⟨_, rfl⟩
      rw [ha] at hix hfn hc256
      rw [hd] at hfn
      have HCV : Hid ((convert 41 9 (.slice (some ⟨wr.heap.size, 0, none⟩) 1 1)).run Try.prog (wr.alloc (.cells #[.int .u8 (d : Int)] 5)) = .ok (.string (str [f])) (wr.alloc (.cells #[.int .u8 (d : Int)] 5))) := by
        have hr : Rd (wr.alloc (.cells #[.int .u8 (d : Int)] 5)) (wr.heap.size + 1) (some ⟨wr.heap.size, 0, none⟩) ([f].map bv) := by
          have h := Rd.new wr 5 #[.int .u8 (d : Int)] (0, 0)
          rw [← hd] at h ⊢
          exact h
        exact run_conv 41 5 9 Try.underlying41 Try.underlying5 Try.underlying9 1 1 rfl hr
      have hcv := HCV.out
      have HB2 := Lib.hid (HB.out.alloc HB.out.size (.cells #[.int .u8 (d : Int)] 5))
      obtain ⟨S, hS⟩ : ∃ S, str [f] = S := ⟨_, rfl⟩
      have hSz : S.size = 1 := by rw [← hS]; rfl
      rw [hS] at hcv HS
      clear hc hf ha hd hS HCV
      by_cases g : 65 ≤ a ∧ a ≤ 90
      · rw [if_pos g] at hfn
        subst hfn
        obtain ⟨g1, g2⟩ := g
        have g1' : (65 : Int) ≤ (a : Int) := by omega
        have g2' : (a : Int) ≤ 90 := by omega
        rw [show ((a + 32 : Nat) : Int) = (a : Int) + 32 from by omega] at hcv HB2
        have hos : O.size + S.size ≤ 4398046511104 := by omega
        have hsz2 : (O ++ S).size = k + 1 := by rw [ByteArray.size_append]; omega
        go_wp2
        all_goals first | (exfalso; omega; done) | skip
        go_roundw
        case rel => exact ⟨k + 1, O ++ S, by omega, by go_num, rfl, hsz2, HS.out, HB2.out⟩
        case measure => simp [intOf]; omega
      · rw [if_neg g] at hfn
        subst hfn
        rcases (show (d : Int) < 65 ∨ (65 ≤ (d : Int) ∧ ¬ (d : Int) ≤ 90) by omega) with g1 | ⟨g1, g2⟩
        · have g1' : ¬ (65 : Int) ≤ (d : Int) := by omega
          have hos : O.size + S.size ≤ 4398046511104 := by omega
          have hsz2 : (O ++ S).size = k + 1 := by rw [ByteArray.size_append]; omega
          go_wp2
          all_goals first | (exfalso; omega; done) | skip
          go_roundw
          case rel => exact ⟨k + 1, O ++ S, by omega, by go_num, rfl, hsz2, HS.out, HB2.out⟩
          case measure => simp [intOf]; omega
        · have hos : O.size + S.size ≤ 4398046511104 := by omega
          have hsz2 : (O ++ S).size = k + 1 := by rw [ByteArray.size_append]; omega
          go_wp2
          all_goals first | (exfalso; omega; done) | skip
          go_roundw
          case rel => exact ⟨k + 1, O ++ S, by omega, by go_num, rfl, hsz2, HS.out, HB2.out⟩
          case measure => simp [intOf]; omega
    · obtain rfl : k = n := by omega
      have HE : Hid (O = str (foldT l)) := by
        show _ = _
        rw [← HO.out, List.take_of_length_le (by rw [HN.out]; exact Nat.le_refl _)]
      go_wp2
      go_ret
      exact ⟨ret_str HE.out, HB.out⟩
end Go.Proofs.Ytopjajfkncnihaa
