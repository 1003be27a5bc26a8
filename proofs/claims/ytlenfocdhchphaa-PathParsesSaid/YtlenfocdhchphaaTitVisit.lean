/-
  visit: a range over a string that hands each rune, and each stray as -1, with its octets to a function value that may stop it.
-/
import Derived.Test.YtlenfocdhchphaaTitM3
import Derived.Test.YtlenfocdhchphaaTitShelf
import Derived.LoopTactic
import Derived.FnLit
namespace Go.Proofs.Ytlenfocdhchphaa
open Go.RowKit
set_option maxRecDepth 100000
set_option linter.unusedVariables false

/-- what is asked of the function value that visit calls: I p holds ahead of the rune at p, D once it has said no -/
structure Vis (F : Nat) (c1 c2 : Value) (l : List UInt8) (b : Nat) (I : Nat → World → Prop) (D : World → Prop) : Prop where
  turn : ∀ p w pos q, I p w → w.heap[b]? = some (.stringIter (str l) q) → I p (turnW w b (str l) pos)
  one : ∀ p w pos, p < l.length → I p w → w.heap[b]? = some (.stringIter (str l) pos) →
    Calls Try.prog F #[.int .i32 (tkOf (l.drop p)).v, .string (str (tkOf (l.drop p)).s), c1, c2] w fun e w' => w'.heap[b]? = some (.stringIter (str l) pos) ∧
      ((e = .returned (.bool true) ∧ I (p + widN (l.drop p)) w') ∨ (e = .returned (.bool false) ∧ D w'))
theorem iter_at {w : World} {b : Nat} {s : ByteArray} {pos : Nat} (h : w.heap[b]? = some (.stringIter s pos)) : w.iterPos b = pos := by unfold World.iterPos; rw [h]
/-- what a rune is found to be -/
theorem three_ways (l : List UInt8) (h : l ≠ []) :
    ((tkOf l).v = -1 ∧ widN l = 1 ∧ drawV l = 65533 ∧ Lib.hasPrefix l [239, 191, 189] = false) ∨
    ((tkOf l).v = (drawV l : Nat) ∧ drawV l ≠ 65533 ∧ Lib.runeLen (drawV l : Nat) = (widN l : Nat)) ∨
    ((tkOf l).v = 65533 ∧ drawV l = 65533 ∧ widN l = 3 ∧ Lib.hasPrefix l [239, 191, 189] = true) := by
  have hs := stray_oct l
  rw [pre_oct]
  cases ho : (tkOf l).odd with
  | true =>
    obtain ⟨a, b, c, d⟩ := odd_tk ho
    rw [ho] at hs
    have hs' := of_decide_eq_true hs.symm
    exact .inl ⟨a, b, c, decide_eq_false hs'.2⟩
  | false =>
    rw [ho] at hs
    have hs' := of_decide_eq_false hs.symm
    have hl := len_tk ho
    have hv := draw_rune ho
    by_cases h1 : drawV l = 65533
    · right; right
      rw [h1] at hl hv
      have : (widN l : Int) = 3 := by rw [← hl]; decide
      refine ⟨hv, h1, by omega, decide_eq_true ?_⟩
      exact Decidable.not_not.1 fun hn => hs' ⟨h1, hn⟩
    · exact .inr (.inl ⟨hv, h1, hl⟩)

theorem str_part (l : List UInt8) (a b : Nat) : (str l).extract a b = str ((l.take b).drop a) := by
  unfold str
  apply ByteArray.ext
  simp [ByteArray.data_extract, List.drop_take]
set_option maxHeartbeats 4000000 in
theorem visit_any (F : Nat) (c1 c2 : Value) (w : World) (l : List UInt8) (I : Nat → World → Prop) (D : World → Prop) (hl : l.length ≤ 100000) (hE : ∀ args (wx : World), (callFunc F args).run Try.prog wx = .ok (.enter F args) wx)
    (HV : Vis F c1 c2 l w.heap.size I D) (h0 : I 0 (w.alloc (.stringIter (str l) 0))) :
    Calls Try.prog 42 #[.string (str l), .func (.func F) #[] #[c1, c2]] w
      fun e w' => e = .returned (.tuple #[]) ∧ (I l.length w' ∨ D w') := by
  have h0 := Lib.hid h0
  have HV := Lib.hid HV
  go_enter Try.func42, Try.ntmps42
  go_wp2
  go_loopw [] (fun wr => ∃ pos : Nat, wr.heap[w.heap.size]? = some (.stringIter (str l) pos) ∧ pos ≤ l.length ∧ Hid (I pos wr)) (fun wr => l.length - wr.iterPos w.heap.size)
  case atStart => exact ⟨0, World.iter_heap w (str l) 0, Nat.zero_le _, h0⟩
  case round =>
    obtain ⟨p, hI, hpl, HS⟩ := hrel
    have hIs : w.heap.size < wr.heap.size := (Array.getElem?_eq_some_iff.1 hI).1
    by_cases hlt : p < l.length
    · have hnx : ∀ ty, (Instr.next (.pointer (some ⟨w.heap.size, 0, none⟩)) true ty).run Try.prog wr = _ := fun ty => run_next_at wr _ l p ty hI hlt
      have hne : l.drop p ≠ [] := by intro e; have := congrArg List.length e; rw [List.length_drop] at this; simp at this; omega
      have hwd := wid_le hne
      rw [List.length_drop] at hwd
      have hK := three_ways (l.drop p) hne
      have HT := Lib.hid (HV.out.turn p wr (p + widN (l.drop p)) p HS.out hI)
      have HI2 := Lib.hid (turn_at wr w.heap.size (str l) (p + widN (l.drop p)) hIs)
      have HO := Lib.hid fun (wt : World) => HV.out.one p wt (p + widN (l.drop p)) hlt
      have hT : (str l).extract p (p + widN (l.drop p)) = str (tkOf (l.drop p)).s := by
        rw [tk_s, str_part, List.drop_take, Nat.add_sub_cancel_left]
      have hD : (str l).extract p l.length = str (l.drop p) := by rw [str_part, List.take_length]
      have hsz := str_size l
      have hsl : ∀ (wx : World), (Instr.slice 9 (.string (str l)) (some (.int .i64 (p : Int))) (some (.int .i64 ((p : Int) + (widN (l.drop p) : Nat)))) none).run Try.prog wx = .ok (.string (str (tkOf (l.drop p)).s)) wx := fun wx => by
        have h := run_slice_string (P := Try.prog) wx 9 (str l) .i64 .i64 (p : Int) ((p : Int) + (widN (l.drop p) : Nat)) Try.underlying9 (by omega) (by omega) (by rw [str_size]; omega)
        rw [h]
        rw [show ((p : Int) + (widN (l.drop p) : Nat)).toNat = p + widN (l.drop p) by omega, Int.toNat_natCast, hT]
      clear hT
      have hcv : ∀ (wx : World), (convert 21 9 (.int .i32 65533)).run Try.prog wx = .ok (.string (str [239, 191, 189])) wx := fun _ => by kernel_rfl
      obtain ⟨W, hW⟩ : ∃ W, widN (l.drop p) = W := ⟨_, rfl⟩
      obtain ⟨V, hV⟩ : ∃ V, drawV (l.drop p) = V := ⟨_, rfl⟩
      obtain ⟨X, hX⟩ : ∃ X, (tkOf (l.drop p)).v = X := ⟨_, rfl⟩
      obtain ⟨T, hTT⟩ : ∃ T, (tkOf (l.drop p)).s = T := ⟨_, rfl⟩
      obtain ⟨N, hN⟩ : ∃ N, l.length = N := ⟨_, rfl⟩
      rw [hW] at hnx hwd hK HT HI2 HO hsl
      rw [hV] at hnx hK
      rw [hX] at hK HO
      rw [hTT] at hsl HO
      rw [hN] at hD hsz hwd hl hlt
      obtain ⟨Z, hZ⟩ : ∃ Z, turnW wr w.heap.size (str l) (p + W) = Z := ⟨_, rfl⟩
      rw [hZ] at hnx HT HI2
      have HZ := Lib.hid hZ
      have HN := Lib.hid hN
      have HX := Lib.hid hX
      have hpw : p + W ≤ N := by omega
      have hw1 : 1 ≤ W := by omega
      clear hW hV hX hTT hN hZ hne hwd
      rcases hK with ⟨rfl, rfl, rfl, hpf⟩ | ⟨rfl, hv, hrl⟩ | ⟨rfl, rfl, rfl, hpf⟩
      · simp only [show ((1 : Nat) : Int) = 1 from rfl] at hsl
        go_wp2_with fail
        refine (runeLen_any _ _).mono ?_
        rintro e w1 ⟨rfl, rfl⟩
        go_wp2_with fail
        refine (prefix_any _ _ _).mono ?_
        rintro e w1 ⟨rfl, rfl⟩
        rw [hpf]
        go_wp2_with fail
        refine (HO.out _ HT.out HI2.out).mono ?_
        rintro e w1 ⟨hi3, h3⟩
        have HI3 := Lib.hid hi3
        rcases h3 with ⟨rfl, hh⟩ | ⟨rfl, hh⟩
        · have HH := Lib.hid hh
          clear hh hi3
          go_wp2
          go_roundw
          case rel => exact ⟨p + 1, HI3.out, by have := HN.out; omega, HH⟩
          case measure =>
            rw [iter_at HI3.out, iter_at hI]
            have := HN.out
            omega
        · have HH := Lib.hid hh
          clear hh hi3
          go_wp2
          refine bodyPost_ret (results_none rfl _ _ _) rfl ?_
          exact ⟨rfl, .inr HH.out⟩
      · have hv' : ¬ ((V : Nat) : Int) = 65533 := by omega
        go_wp2_with fail
        refine (runeLen_any _ _).mono ?_
        rintro e w1 ⟨rfl, rfl⟩
        rw [hrl]
        go_wp2_with fail
        refine (HO.out _ HT.out HI2.out).mono ?_
        rintro e w1 ⟨hi3, h3⟩
        have HI3 := Lib.hid hi3
        rcases h3 with ⟨rfl, hh⟩ | ⟨rfl, hh⟩
        · have HH := Lib.hid hh
          clear hh hi3
          go_wp2
          go_roundw
          case rel => exact ⟨p + W, HI3.out, by have := HN.out; omega, HH⟩
          case measure =>
            rw [iter_at HI3.out, iter_at hI]
            have := HN.out
            omega
        · have HH := Lib.hid hh
          clear hh hi3
          go_wp2
          refine bodyPost_ret (results_none rfl _ _ _) rfl ?_
          exact ⟨rfl, .inr HH.out⟩
      · simp only [show ((3 : Nat) : Int) = 3 from rfl] at hsl
        go_wp2_with fail
        refine (runeLen_any _ _).mono ?_
        rintro e w1 ⟨rfl, rfl⟩
        rw [show Lib.runeLen 65533 = 3 from by decide]
        go_wp2_with fail
        refine (prefix_any _ _ _).mono ?_
        rintro e w1 ⟨rfl, rfl⟩
        rw [hpf]
        go_wp2_with fail
        refine (HO.out _ HT.out HI2.out).mono ?_
        rintro e w1 ⟨hi3, h3⟩
        have HI3 := Lib.hid hi3
        rcases h3 with ⟨rfl, hh⟩ | ⟨rfl, hh⟩
        · have HH := Lib.hid hh
          clear hh hi3
          go_wp2
          go_roundw
          case rel => exact ⟨p + 3, HI3.out, by have := HN.out; omega, HH⟩
          case measure =>
            rw [iter_at HI3.out, iter_at hI]
            have := HN.out
            omega
        · have HH := Lib.hid hh
          clear hh hi3
          go_wp2
          refine bodyPost_ret (results_none rfl _ _ _) rfl ?_
          exact ⟨rfl, .inr HH.out⟩
    · have hnx : ∀ ty, (Instr.next (.pointer (some ⟨w.heap.size, 0, none⟩)) true ty).run Try.prog wr = _ := fun ty => run_next_end_at wr _ l p ty hI (by omega)
      have hpp : p = l.length := by omega
      go_wp2
      go_end0
      rw [← hpp]
      exact ⟨rfl, .inl HS.out⟩
end Go.Proofs.Ytlenfocdhchphaa
