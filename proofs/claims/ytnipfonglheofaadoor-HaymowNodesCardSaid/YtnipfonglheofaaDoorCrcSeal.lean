/-
  What crc.Seal and crc.Held do.
-/
import Derived.Test.YtnipfonglheofaaDoorMem2
import Derived.Test.YtnipfonglheofaaDoorCrc
import Derived.Laws.CopyOwn
import Derived.Deep.DeepMust
namespace Go.Proofs.YtnipfonglheofaaDoor
open Go.RowKit
set_option maxRecDepth 100000
set_option linter.unusedVariables false

theorem info_byte : (Tryd.prog.info? 5).map (fun i => (i.zero, i.size, i.bytes)) = some (some (.int .u8 0), 1, 1) := by kernel_rfl
theorem info_bytes : (Tryd.prog.info? 5).map (·.size) = some 1 := by kernel_rfl
def zeroV (n : Nat) : List Value := List.replicate n (.int .u8 0)

theorem Seal_full (n : Nat) (A : Option Addr) (c : Nat) (w : World) (h : 124 < n) :
    Calls Tryd.prog 28 #[.slice A n c] w fun e w' => e = .returned (.tuple #[.slice none 0 0, .int .i64 8]) ∧ w = w' := by
  have h' : (124 : Int) < (n : Int) := by omega
  go_enter Tryd.func28, Tryd.ntmps28
  go_wp2
  go_ret2
  exact ⟨rfl, rfl⟩

/-- the sum of one part -/
theorem Sum_one (B : Nat) (A0 A : Option Addr) (c c' n s : Nat) (bs : List UInt8) (w : World) (hn : bs.length = n) (hs : sumN bs = s) (hm : n ≤ 9223372036854775807) (h0 : Rd w B A0 [.slice A n c']) (hr : Rd w B A (bs.map bv)) (ht : Tab w) :
    Calls Tryd.prog 20 #[.slice A0 1 c] w fun e w' => e = .returned (.int .u32 (s : Int)) ∧ w = w' := by
  subst hn hs
  have h := Sum_any B A0 c [(A, c', bs)] w ⟨h0, fun p hp => by simp at hp; subst hp; exact ⟨hr, hm⟩⟩ (by simp) ht
  rw [show allB [(A, c', bs)] = bs by simp [allB]] at h
  exact h

/-- what Seal leaves -/
def Sealed (bs : List UInt8) (w : World) (e : Ending) (w' : World) : Prop :=
  ∃ g, e = .returned (.tuple #[.slice (some ⟨g, 0, none⟩) 128 128, .int .i64 0]) ∧ w.heap.size ≤ g ∧ Bk w' g 5 ((sealB bs).map bv).toArray ∧ Below w.heap.size w w'
/-- the block, when k bytes of the checksum stand -/
def partSeal (bs : List UInt8) (k : Nat) : List UInt8 := padB bs ++ ((le4 (sumN (padB bs))).take k ++ List.replicate (4 - k) 0)
theorem splice_pad (bs : List UInt8) (h : bs.length ≤ 124) : splice (zeroV 128) 0 (bs.map bv) = (partSeal bs 0).map bv := by
  simp only [splice, zeroV, List.take_zero, List.nil_append, List.length_map, Nat.zero_add, List.drop_replicate, partSeal, padB, List.map_append, List.map_replicate, List.append_assoc]
  rw [List.replicate_append_replicate, show 128 - bs.length = 124 - bs.length + (4 - 0) from by omega]
  rfl
theorem partSeal_all (bs : List UInt8) : partSeal bs 4 = sealB bs := by simp [partSeal, sealB, le4]
theorem partSeal_length (bs : List UInt8) (k : Nat) (h : bs.length ≤ 124) (hk : k ≤ 4) : (partSeal bs k).length = 128 := by
  simp [partSeal, padB_length bs h, le4]; omega
theorem partSeal_step (bs : List UInt8) (k : Nat) (h : bs.length ≤ 124) (hk : k < 4) : (partSeal bs k).set (124 + k) (UInt8.ofNat (sumN (padB bs) / 256 ^ k)) = partSeal bs (k + 1) := by
  unfold partSeal
  rw [List.set_append, padB_length bs h, if_neg (by omega), show 124 + k - 124 = k from by omega]
  congr 1
  have hl : ((le4 (sumN (padB bs))).take k).length = k := by simp [le4]; omega
  rw [List.set_append, hl, if_neg (by omega), Nat.sub_self, List.take_add_one, le4_get _ _ hk, show 4 - k = (4 - (k + 1)) + 1 from by omega, List.replicate_succ]
  simp
theorem partSeal_body (bs : List UInt8) (k : Nat) (h : bs.length ≤ 124) (j : Nat) (u : Value) (hu : ((padB bs).map bv)[j]? = some u) : ((partSeal bs k).map bv).toArray[0 + j]? = some u := by
  have hj : j < (padB bs).length := by
    rcases Nat.lt_or_ge j (padB bs).length with hlt | hge
    · exact hlt
    · rw [List.getElem?_eq_none (by simpa using hge)] at hu; cases hu
  rw [Nat.zero_add, ← hu, partSeal, List.map_append]
  simp only [List.getElem?_toArray]
  exact List.getElem?_append_left (by simpa using hj)

set_option maxRecDepth 100000 in
set_option maxHeartbeats 1000000 in
theorem Seal_any (B : Nat) (A : Option Addr) (c : Nat) (bs : List UInt8) (w : World) (hr : Rd w B A (bs.map bv)) (hB : B ≤ w.heap.size) (h : bs.length ≤ 124) (ht : Tab w) :
    Calls Tryd.prog 28 #[.slice A bs.length c] w (Sealed bs w) := by
  obtain ⟨i0, hi', hz0', hz1', hz2'⟩ := info_parts info_byte
  have hi := Lib.hid hi'
  have hz0 := Lib.hid hz0'
  have hz1 := Lib.hid hz1'
  have hz2 := Lib.hid hz2'
  clear hi' hz0' hz1' hz2'
  have HT := Lib.hid ht
  have h' : (bs.length : Int) ≤ 124 := by omega
  clear ht
  go_enter Tryd.func28, Tryd.ntmps28
  go_wp2_with (at_make; refine wpList_make_full _ rfl _ _ 38 rfl w.heap.size 5 i0 (.int .u8 0) 1 Tryd.underlying38 hi.out hz0.out hz1.out .i64 .i64 128 128 128 rfl rfl rfl rfl ?c1 ?c2 (Nat.le_refl _) ?_)
  case c1 => rw [hz2.out]; omega
  case c2 => unfold maxLen; omega
  intro w1 hown hgrow
  have hbk : Bk w1 w.heap.size 5 (zeroV 128).toArray := by unfold zeroV; rw [← toList_madeCells_one]; exact (own_bk hown).1
  have hb := (Below.refl w.heap.size w).grown hgrow (by omega) (by simp)
  have hr1 := hr.below (hb.mono hB)
  have HBK := Lib.hid hbk
  have hmin : (bs.map bv).length = Nat.min bs.length 124 := by show _ = min _ _; simp; omega
  have hsrc : 0 < (bs.map bv).length → ∃ ad, A = some ad ∧ ∀ j v, (bs.map bv)[j]? = some v → w1.cell? (ad.add j) = some v := by
    intro hp
    obtain ⟨ad, e, _, _⟩ := hr1 0 _ (List.getElem?_eq_getElem hp)
    refine ⟨ad, e, fun j v hj => ?_⟩
    obtain ⟨ad', e', _, hc⟩ := hr1 j v hj
    rw [e] at e'
    cases e'
    exact hc
  have HFIT : Hid (0 + (bs.map bv).length ≤ (zeroV 128).length) := by simp [Hid, zeroV]; omega
  have HONE : Hid (∀ v ∈ bs.map bv, v.oneCell' = true) := by intro v hv; simp at hv; obtain ⟨x, _, rfl⟩ := hv; rfl
  have HMIN := Lib.hid hmin
  have HSRC := Lib.hid hsrc
  have HB := Lib.hid hb
  clear hown hgrow hr hbk hmin hsrc hb hr1
  go_wp2_with fail
  refine (split_any _ _ _ _ (by omega)).mono ?_
  rintro e w2 ⟨rfl, nd, hw2⟩
  subst hw2
  go_wp2_with ((with_reducible show wpList _ _ _ (⟨some 19, _, _, _, _, _⟩ :: _) _ _); go_must (refine wpList_copy_splice (o := ⟨some 19, _, _, _, _, _⟩) rfl (.tmp 17) (.tmp 18) 38 38 rfl 5 Tryd.underlying38 info_bytes (some ⟨w.heap.size, 0, none⟩) A 124 128 bs.length c rfl rfl w.heap.size 0 (zeroV 128) 5 (HBK.out.drewN nd) (bs.map bv) HMIN.out (fun hp => ⟨rfl, HSRC.out hp⟩) HFIT.out HONE.out w.heap.size w (HB.out.drewN' nd) (Nat.le_refl _) ?_))
  intro w3 hbk3 hb3
  rw [splice_pad bs h] at hbk3
  have HBK3 := Lib.hid hbk3
  have HB3 := Lib.hid hb3
  clear hbk3 hb3
  go_wp2
  go_loopw [22] (fun i wr => ∃ k : Nat, k ≤ 4 ∧ i = .int .i64 k ∧ Hid (Bk wr w.heap.size 5 ((partSeal bs k).map bv).toArray) ∧ Hid (Below w.heap.size w wr)) (fun i _ => 4 - (intOf i).toNat)
  case atStart => exact ⟨0, Nat.zero_le _, rfl, HBK3, HB3⟩
  case round =>
    obtain ⟨k, hk, rfl, HBk, HBw⟩ := hrel
    by_cases hlt : k < 4
    · have hsz := HBw.out.size
      have hgl : w.heap.size < wr.heap.size := HBk.out.lt
      have hfr := HBk.out.free (124 + k)
      obtain ⟨u, hu⟩ : ∃ u, wr.cell? ⟨w.heap.size, 124 + k, none⟩ = some u := by
        rw [HBk.out.cell]
        exact ⟨_, Array.getElem?_eq_getElem (by have := partSeal_length bs k h hk; simp [this]; omega)⟩
      have hbody : Rd wr wr.heap.size (some ⟨w.heap.size, 0, none⟩) ((padB bs).map bv) := Rd.part HBk.out 0 _ (partSeal_body bs k h)
      have HBody := Lib.hid hbody
      have HPL := Lib.hid (padB_length bs h)
      obtain ⟨s, hs⟩ : ∃ s, sumN (padB bs) = s := ⟨_, rfl⟩
      have hsl : s < 4294967296 := by rw [← hs]; exact sumN_lt _
      obtain ⟨v, hv⟩ : ∃ v, v = ((UInt8.ofNat (s / 256 ^ k)).toNat : Int) := ⟨_, rfl⟩
      have HST : Hid (((partSeal bs k).map bv).toArray.setIfInBounds (124 + k) (.int .u8 v) = ((partSeal bs (k + 1)).map bv).toArray) := by
        rw [← partSeal_step bs k h hlt, hs, hv]; simp [Hid, bv]
      have HV := Lib.hid hv
      clear hv
      have HS := Lib.hid hs
      clear hbody hs
      go_wp2_with fail
      have k0 := Rd.bk (Bk.new wr 38 #[.slice (some ⟨w.heap.size, 0, none⟩) 124 128])
      refine (Sum_one (wr.heap.size + 1) _ (some ⟨w.heap.size, 0, none⟩) _ 128 124 s (padB bs) _ HPL.out HS.out (by omega) (by simpa using k0) ((HBody.out.alloc (Nat.le_refl _) _).mono (by omega)) ((HT.out.up HBw.out).alloc _)).mono ?_
      rintro e w4 ⟨rfl, rfl⟩
      clear k0
      go_wp2_with fail
      refine (sumByte_any s k _ hsl hlt).mono ?_
      rintro e w4 ⟨rfl, rfl⟩
      unfold bv
      rw [← HV.out]
      go_wp2
      go_roundw
      case rel =>
        refine ⟨k + 1, by omega, by go_num, ?_, ?_⟩
        · rw [← HST.out]; exact (HBk.out.set_ _ _).alloc _
        · exact (HBw.out.setCell (Nat.le_refl _) _).alloc (by rw [World.setCell_size']; omega) _
      case measure => simp [intOf]; omega
    · obtain rfl : k = 4 := by omega
      rw [partSeal_all] at HBk
      go_wp2
      go_ret2
      exact ⟨_, rfl, Nat.le_refl _, HBk.out, HBw.out⟩

/-- the checksum's bytes, as far as they were looked at -/
def endTo (s : Nat) (l : List UInt8) (k : Nat) : Bool := l.take k == (le4 s).take k
theorem endTo_zero (s : Nat) (l : List UInt8) : endTo s l 0 = true := by simp [endTo]
theorem endTo_succ (s : Nat) (l : List UInt8) (k : Nat) (b : UInt8) (hk : k < 4) (hb : l[k]? = some b) (h : endTo s l k = true) : endTo s l (k + 1) = (b == UInt8.ofNat (s / 256 ^ k)) := by
  unfold endTo at *
  rw [List.take_add_one, List.take_add_one, hb, le4_get _ _ hk, beq_iff_eq.1 h, Bool.eq_iff_iff]
  simp
theorem endTo_no (s : Nat) (l : List UInt8) (k : Nat) (h : endTo s l (k + 1) = false) : (l == le4 s) = false := by
  unfold endTo at h
  rw [Bool.eq_false_iff] at h ⊢
  intro e
  rw [beq_iff_eq.1 e] at h
  exact h (by simp)
theorem endTo_yes (s : Nat) (l : List UInt8) (hl : l.length = 4) (h : endTo s l 4 = true) : (l == le4 s) = true := by
  unfold endTo at h
  rwa [List.take_of_length_le (by omega), List.take_of_length_le (by simp [le4])] at h

theorem Held_short (n : Nat) (A : Option Addr) (c : Nat) (w : World) (h : n ≠ 128) :
    Calls Tryd.prog 21 #[.slice A n c] w fun e w' => e = .returned (.bool false) ∧ w = w' := by
  have h' : ((n : Int) == 128) = false := by simp; omega
  have h'' : ((n : Int) != 128) = true := by simp; omega
  have H := Lib.hid h
  clear h
  go_enter Tryd.func21, Tryd.ntmps21
  go_wp2
  go_ret
  exact ⟨rfl, rfl⟩

set_option maxRecDepth 100000 in
set_option maxHeartbeats 1000000 in
theorem Held_full (B : Nat) (A : Option Addr) (c : Nat) (bs : List UInt8) (q : Bool) (w : World) (hr : Rd w B A (bs.map bv)) (hB : B ≤ w.heap.size) (hl : bs.length = 128) (hc : 128 ≤ c) (hq : heldB bs = q) (ht : Tab w) :
    Calls Tryd.prog 21 #[.slice A 128 c] w fun e w' => e = .returned (.bool q) ∧ Below w.heap.size w w' := by
  obtain ⟨b, o, rfl, hbB, hcell⟩ := hr.plain (by simp [hl])
  have hd1 : Rd w B (some ⟨b, o, none⟩) ((bs.take 124).map bv) := by rw [List.map_take]; exact hr.take 124
  have hd2 : Rd w B (some ⟨b, o + 124, none⟩) ((bs.drop 124).map bv) := by
    rw [List.map_drop]
    have := hr.drop 124
    rwa [add_plain] at this
  have HD1 := Lib.hid hd1
  have HD2 := Lib.hid hd2
  have HL1 : Hid ((bs.take 124).length = 124) := by simp [Hid, hl]
  have HL2 : Hid ((bs.drop 124).length = 4) := by simp [Hid, hl]
  have HT := Lib.hid ht
  obtain ⟨s, hs⟩ : ∃ s, sumN (bs.take 124) = s := ⟨_, rfl⟩
  have hsl : s < 4294967296 := by rw [← hs]; exact sumN_lt _
  have HQ : Hid (((bs.drop 124) == le4 s) = q) := by rw [← hq, heldB, hl, hs]; simp [Hid]
  have HS := Lib.hid hs
  clear hs hq hl hr hcell hd1 hd2 ht
  go_enter Tryd.func21, Tryd.ntmps21
  go_wp2_with fail
  refine (split_any _ _ _ _ hc).mono ?_
  rintro e w2 ⟨rfl, nd, hw2⟩
  subst hw2
  go_wp2_with fail
  have k0 := Rd.bk (Bk.new (w.drewN nd) 38 #[.slice (some ⟨b, o, none⟩) 124 c])
  refine (Sum_one (w.heap.size + 1) _ (some ⟨b, o, none⟩) _ c 124 s (bs.take 124) _ HL1.out HS.out (by omega) (by simpa using k0) (((HD1.out.drewN nd).alloc hB _).mono (by omega)) ((HT.out.drewN nd).alloc _)).mono ?_
  rintro e w4 ⟨rfl, hw4⟩
  have HB4 : Hid (Below w.heap.size w w4) := by rw [← hw4]; exact ((Below.refl _ _).drewN' nd).alloc (Nat.le_refl _) _
  have HD4 := Lib.hid (HD2.out.below (HB4.out.mono hB))
  clear k0 hw4
  go_wp2
  go_loop [21] (fun i => ∃ k : Nat, k ≤ 4 ∧ i = .int .i64 k ∧ Hid (endTo s (bs.drop 124) k = true)) (fun i => 4 - (intOf i).toNat)
  case atStart => exact ⟨0, Nat.zero_le _, rfl, Lib.hid (endTo_zero _ _)⟩
  case round =>
    obtain ⟨k, hk, rfl, HE⟩ := hrel
    by_cases hlt : k < 4
    · obtain ⟨y, hy⟩ : ∃ y, (bs.drop 124)[k]? = some y := ⟨_, List.getElem?_eq_getElem (by rw [HL2.out]; exact hlt)⟩
      obtain ⟨v, hv⟩ : ∃ v, v = (y.toNat : Int) := ⟨_, rfl⟩
      have hck : w4.cell? ⟨b, o + 124 + k, none⟩ = some (.int .u8 v) := by
        obtain ⟨ad, he, _, hck⟩ := HD4.out k (bv y) (by rw [List.getElem?_map, hy]; rfl)
        cases he
        rw [add_plain] at hck
        rw [hck, hv]; rfl
      have HES := Lib.hid (endTo_succ s _ k y hlt hy HE.out)
      obtain ⟨x, hx⟩ : ∃ x, x = ((UInt8.ofNat (s / 256 ^ k)).toNat : Int) := ⟨_, rfl⟩
      have hxe : (y == UInt8.ofNat (s / 256 ^ k)) = (v == x) := by
        rw [hv, hx, Bool.eq_iff_iff, beq_iff_eq, beq_iff_eq, ← UInt8.toNat_inj]; omega
      have HX := Lib.hid hx
      have HXE := Lib.hid hxe
      clear hy hv hx hxe
      by_cases hvx : v = x
      · have HK : Hid (endTo s (bs.drop 124) (k + 1) = true) := by rw [HES.out, HXE.out, hvx]; simp [Hid]
        subst hvx
        go_wp2_with fail
        refine (sumByte_any s k _ hsl hlt).mono ?_
        rintro e w4 ⟨rfl, rfl⟩
        unfold bv
        rw [← HX.out]
        go_wp2
        go_round
        case rel => exact ⟨k + 1, by omega, by go_num, HK⟩
        case measure => simp [intOf]; omega
      · have hnx : (v == x) = false := by simpa using hvx
        have hnx' : (v != x) = true := by simpa using hvx
        have HF : Hid (false = q) := by
          rw [← HQ.out]
          exact (endTo_no s _ k (by rw [HES.out, HXE.out, hnx])).symm
        clear hvx
        go_wp2_with fail
        refine (sumByte_any s k _ hsl hlt).mono ?_
        rintro e w4 ⟨rfl, rfl⟩
        unfold bv
        rw [← HX.out]
        go_wp2
        go_ret
        exact ⟨by rw [← HF.out]; rfl, HB4.out⟩
    · obtain rfl : k = 4 := by omega
      have HF : Hid (true = q) := by
        rw [← HQ.out]
        exact (endTo_yes s _ HL2.out HE.out).symm
      go_wp2
      go_ret
      exact ⟨by rw [← HF.out]; rfl, HB4.out⟩
theorem Held_any (B : Nat) (A : Option Addr) (n c : Nat) (bs : List UInt8) (q : Bool) (w : World) (hr : Rd w B A (bs.map bv)) (hB : B ≤ w.heap.size) (hl : bs.length = n) (hc : n ≤ c) (hq : heldB bs = q) (ht : Tab w) :
    Calls Tryd.prog 21 #[.slice A n c] w fun e w' => e = .returned (.bool q) ∧ Below w.heap.size w w' := by
  by_cases h : n = 128
  · subst h; exact Held_full B A c bs q w hr hB hl hc hq ht
  · have hf : heldB bs = false := by simp [heldB, hl, h]
    rw [← hq, hf]
    exact (Held_short n A c w h).mono fun e w' ⟨h1, h2⟩ => ⟨h1, h2 ▸ Below.refl _ _⟩
end Go.Proofs.YtnipfonglheofaaDoor
