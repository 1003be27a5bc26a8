/-
  What pack.Fill and pack.Clear do.
-/
import Derived.Test.YtnodfnoeppaliaaPack
import Derived.Laws.CopyOwn
import Derived.Deep.DeepMust
namespace Go.Proofs.Ytnodfnoeppaliaa
open Go.RowKit
set_option linter.unusedVariables false

/-- what Fill leaves -/
def Filled (bs : List UInt8) (w : World) (e : Ending) (w' : World) : Prop :=
  ∃ g, e = .returned (.tuple #[.slice (some ⟨g, 0, none⟩) 128 128, .int .i64 0]) ∧ w.heap.size ≤ g ∧ Bk w' g 5 ((fillB bs).map bv).toArray ∧ Below w.heap.size w w'

theorem Fill_full (n : Nat) (A : Option Addr) (c : Nat) (w : World) (h : 128 < n) :
    Calls Try.prog 12 #[.slice A n c] w fun e w' => e = .returned (.tuple #[.slice none 0 0, .int .i64 8]) ∧ w = w' := by
  have h' : (128 : Int) < (n : Int) := by omega
  go_enter Try.func12, Try.ntmps12
  go_wp2
  go_ret2
  exact ⟨rfl, rfl⟩

def zeroV (n : Nat) : List Value := List.replicate n (.int .u8 0)
theorem info_u8s : (Try.prog.info? 5).map (·.size) = some 1 := by kernel_rfl
theorem splice_fill (bs : List UInt8) (h : bs.length ≤ 128) : splice (zeroV 128) 0 (bs.map bv) = (fillB bs).map bv := by
  simp only [splice, zeroV, List.take_zero, List.nil_append, List.length_map, Nat.zero_add, List.drop_replicate, fillB, List.map_append, List.map_replicate]
  rfl

set_option maxHeartbeats 400000 in
theorem Fill_any (B : Nat) (A : Option Addr) (c : Nat) (bs : List UInt8) (w : World) (hr : Rd w B A (bs.map bv)) (hB : B ≤ w.heap.size) (h : bs.length ≤ 128) :
    Calls Try.prog 12 #[.slice A bs.length c] w (Filled bs w) := by
  obtain ⟨i0, hi, hz0, hz1, hz2⟩ := info_parts info_u8
  have hi := Lib.hid hi
  have hz0 := Lib.hid hz0
  have hz1 := Lib.hid hz1
  have hz2 := Lib.hid hz2
  have h' : (bs.length : Int) ≤ 128 := by omega
  go_enter Try.func12, Try.ntmps12
  go_wp2_with (at_make; refine wpList_make_full _ rfl _ _ 22 rfl w.heap.size 5 i0 (.int .u8 0) 1 Try.underlying22 hi.out hz0.out hz1.out .i64 .i64 128 128 128 rfl rfl rfl rfl ?c1 ?c2 (Nat.le_refl _) ?_)
  case c1 => rw [hz2.out]; omega
  case c2 => unfold maxLen; omega
  intro w1 hown hgrow
  have hbk : Bk w1 w.heap.size 5 (zeroV 128).toArray := by unfold zeroV; rw [← toList_madeCells_one]; exact (own_bk hown).1
  have hb := (Below.refl w.heap.size w).grown hgrow (by omega) (by simp)
  have hr1 := hr.below (hb.mono hB)
  have HBK := Lib.hid hbk
  have hmin : (bs.map bv).length = Nat.min bs.length 128 := by show _ = min _ _; simp; omega
  have hsrc : 0 < (bs.map bv).length → ∃ ad, A = some ad ∧ ∀ j v, (bs.map bv)[j]? = some v → w1.cell? (ad.add j) = some v := by
    intro hp
    obtain ⟨ad, e, _, _⟩ := hr1 0 _ (List.getElem?_eq_getElem hp)
    refine ⟨ad, e, fun j v hj => ?_⟩
    obtain ⟨ad', e', _, hc⟩ := hr1 j v hj
    rw [e] at e'
    cases e'
    exact hc
  have HFIT : Hid (0 + (bs.map bv).length ≤ (zeroV 128).length) := by simp [Hid, zeroV]; omega
  have HONE : Hid (∀ v ∈ bs.map bv, v.oneCell' = true) := by intro v hv; simp at hv; obtain ⟨x, _, rfl⟩ := hv; rfl
  have HMIN := Lib.hid hmin
  have HSRC := Lib.hid hsrc
  clear hown hgrow hr hbk hmin hsrc
  go_wp2_with ((with_reducible show wpList _ _ _ (_ :: _) _ _); go_must (refine wpList_copy_splice (o := ⟨some 11, _, _, _, _, _⟩) rfl (.tmp 9) (.tmp 10) 22 22 rfl 5 Try.underlying22 info_u8s (some ⟨w.heap.size, 0, none⟩) A 128 128 bs.length c rfl rfl w.heap.size 0 (zeroV 128) 5 HBK.out (bs.map bv) HMIN.out (fun hp => ⟨rfl, HSRC.out hp⟩) HFIT.out HONE.out w.heap.size w hb (Nat.le_refl _) ?_))
  intro w2 hbk2 hb2
  rw [splice_fill bs h] at hbk2
  go_wp2
  go_ret2
  exact ⟨_, rfl, Nat.le_refl _, hbk2.out, hb2⟩

set_option maxHeartbeats 400000 in
theorem Clear_any (B : Nat) (A : Option Addr) (c : Nat) (bs : List UInt8) (x : Int) (q : Bool) (w : World) (hr : Rd w B A (bs.map bv)) (hc : bs.length ≤ 9223372036854775807) (hx : -9223372036854775808 ≤ x ∧ x ≤ 9223372036854775807) (hq : clearB bs x = q) :
    Calls Try.prog 13 #[.slice A bs.length c, .int .i64 x] w fun e w' => e = .returned (.bool q) ∧ w = w' := by
  obtain ⟨hx1, hx2⟩ := hx
  by_cases hlo : x < 0
  · have hf : false = q := by rw [← hq]; simp [clearB]; omega
    subst hf
    clear hq
    go_enter Try.func13, Try.ntmps13
    go_wp2
    go_ret
    exact ⟨rfl, rfl⟩
  · by_cases hhi : (bs.length : Int) < x
    · have hf : false = q := by rw [← hq]; simp [clearB]; omega
      subst hf
      have hhi' : decide ((bs.length : Int) < x) = true := by simpa using hhi
      clear hq
      go_enter Try.func13, Try.ntmps13
      go_wp2
      go_ret
      exact ⟨rfl, rfl⟩
    · obtain ⟨f, rfl⟩ := Int.eq_ofNat_of_zero_le (show 0 ≤ x by omega)
      have hfl : f ≤ bs.length := by omega
      have hhi' : decide (bs.length < f) = false := by simpa using hfl
      have hlo' : decide ((f : Int) < 0) = false := by simp
      have HQ : Hid ((bs.drop f).all (· == 0) = q) := by rw [← hq]; simp [Hid, clearB, hfl]
      clear hq hlo hhi
      go_enter Try.func13, Try.ntmps13
      go_wp2
      go_loop [18] (fun i => ∃ k : Nat, k ≤ bs.length - f ∧ i = .int .i64 k ∧ Hid (((bs.drop f).take k).all (· == 0) = true)) (fun i => bs.length - f - (intOf i).toNat)
      case atStart => exact ⟨0, Nat.zero_le _, rfl, by simp [Hid]⟩
      case round =>
        obtain ⟨k, hk, rfl, hz⟩ := hrel
        by_cases hlt : k < bs.length - f
        · have hlt1 : (k : Int) < (bs.length : Int) - (f : Int) := by omega
          have hfk : f + k < bs.length := by omega
          obtain ⟨ad, rfl, _, hcell⟩ := hr (f + k) (bv bs[f + k]) (by simp [hfk])
          have hbk := bs[f + k].toNat_lt
          have hdk : (bs.drop f)[k]? = some bs[f + k] := by rw [List.getElem?_drop, List.getElem?_eq_getElem hfk]
          unfold bv at hcell
          by_cases h0 : bs[f + k] = 0
          · have h0' : ((bs[f + k].toNat : Int) == 0) = true := by rw [h0]; rfl
            have hz1 : Hid (((bs.drop f).take (k + 1)).all (· == 0) = true) := by
              have := hz.out
              simp only [Hid, List.take_add_one, hdk, List.all_append, this, h0]; rfl
            have HDK := Lib.hid hdk
            clear hr h0 hz hdk
            go_wp2
            go_round
            case rel => exact ⟨k + 1, by omega, by go_num, hz1⟩
            case measure => simp [intOf]; omega
          · have h0' : ((bs[f + k].toNat : Int) == 0) = false := by
              simp only [beq_eq_false_iff_ne, ne_eq]
              intro h
              exact h0 (UInt8.toNat_inj.1 (by simpa using h))
            have hfq : false = q := by
              rw [← HQ.out, eq_comm, List.all_eq_false]
              exact ⟨_, List.mem_of_getElem? hdk, by simpa using h0⟩
            subst hfq
            have HDK := Lib.hid hdk
            clear hr h0 hz hdk HQ
            go_wp2
            go_ret
            exact ⟨rfl, rfl⟩
        · obtain rfl : k = bs.length - f := by omega
          have htq : true = q := by
            rw [← HQ.out, ← hz.out, List.take_of_length_le (by simp)]
          subst htq
          have hge : ¬ (((bs.length - f : Nat) : Int) < (bs.length : Int) - (f : Int)) := by omega
          clear hr hz HQ
          go_wp2
          go_ret
          exact ⟨rfl, rfl⟩

theorem Clear_at (B : Nat) (A : Option Addr) (n c : Nat) (bs : List UInt8) (x : Int) (q : Bool) (w : World) (hn : bs.length = n) (hr : Rd w B A (bs.map bv)) (hc : n ≤ 9223372036854775807) (hx : -9223372036854775808 ≤ x ∧ x ≤ 9223372036854775807) (hq : clearB bs x = q) :
    Calls Try.prog 13 #[.slice A n c, .int .i64 x] w fun e w' => e = .returned (.bool q) ∧ w = w' := by
  subst hn
  exact Clear_any B A c bs x q w hr hc hx hq
theorem Fill_at (B : Nat) (A : Option Addr) (n c : Nat) (bs : List UInt8) (w : World) (hn : bs.length = n) (hr : Rd w B A (bs.map bv)) (hB : B ≤ w.heap.size) (h : n ≤ 128) :
    Calls Try.prog 12 #[.slice A n c] w (Filled bs w) := by
  subst hn
  exact Fill_any B A c bs w hr hB h
end Go.Proofs.Ytnodfnoeppaliaa
