/-
  What pack.Unpack does: the numbers with which some bytes begin, or the first error.
-/
import Derived.Test.YtgboccepgbeihaaPack
namespace Go.Proofs.Ytgboccepgbeihaa
open Go.RowKit
set_option maxRecDepth 100000
set_option linter.unusedVariables false

/-- what Unpack leaves -/
def Unpacked (bs : List UInt8) (ws : List Int) (w : World) (e : Ending) (w' : World) : Prop :=
  ∃ r, e = .returned (.tuple #[r, .int .i64 (unpCode ws bs.length)]) ∧ (unpCode ws bs.length = 0 → w'.ownsRow w.heap.size 54 1 r ws.length ((nums bs ws).map uv)) ∧ (unpCode ws bs.length ≠ 0 → r = .slice none 0 0) ∧ Below w.heap.size w w'

theorem Unpacked.all {bs : List UInt8} {ws : List Int} {w : World} {e : Ending} {w' : World} (h : Unpacked bs ws w e w') {q : Int} {vs : List Nat} {k : Nat} (hq : unpCode ws bs.length = q) (hvs : unpVals bs ws = vs) (hk : vs.length = k) :
    ∃ A c, e = .returned (.tuple #[.slice A k c, .int .i64 q]) ∧ k ≤ c ∧ c ≤ maxLen ∧ Rd w' w'.heap.size A (vs.map uv) ∧ Below w.heap.size w w' := by
  subst hq hk hvs
  obtain ⟨r, rfl, hok, hbad, hb⟩ := h
  by_cases h0 : unpCode ws bs.length = 0
  · have hown := hok h0
    obtain ⟨A', c', rfl, h1, h2⟩ := own_len hown
    have e1 : unpVals bs ws = nums bs ws := by unfold unpVals; rw [if_pos h0]
    rw [e1, nums_length]
    exact ⟨A', c', rfl, h1, h2, Rd.own hown, hb⟩
  · have e1 : unpVals bs ws = [] := by unfold unpVals; rw [if_neg h0]
    rw [e1, hbad h0]
    exact ⟨none, 0, rfl, Nat.le_refl _, by simp, Rd.nil_, hb⟩

/-- the first k widths are good -/
def GoodW (ws : List Int) (k : Nat) : Prop := ∀ n ∈ ws.take k, okW n = true
theorem GoodW.zero (ws : List Int) : GoodW ws 0 := by intro p hp; simp at hp
theorem GoodW.succ {ws : List Int} {k : Nat} (h : GoodW ws k) (n : Int) (hk : ws[k]? = some n) (hp : okW n = true) : GoodW ws (k + 1) := by
  intro q hq
  rw [List.take_add_one, hk] at hq
  simp at hq
  rcases hq with hq | rfl
  · exact h q hq
  · exact hp
theorem GoodW.all {ws : List Int} (h : GoodW ws ws.length) : ws.all okW = true := by
  rw [List.all_eq_true]; intro n hn; exact h n (by simpa using hn)
theorem GoodW.tot {ws : List Int} {k : Nat} (h : GoodW ws k) : tot (ws.take k) ≤ 8 * ws.length :=
  Nat.le_trans (tot_bound _ h) (Nat.mul_le_mul_left 8 (by simp; omega))
theorem GoodW.bad {ws : List Int} {k : Nat} (n : Int) (hk : ws[k]? = some n) (hp : okW n = false) (m : Nat) : unpCode ws m = 1 := by
  have : ws.all okW = false := by
    rw [List.all_eq_false]
    exact ⟨n, List.mem_of_getElem? hk, by simp [hp]⟩
  simp [unpCode, this]

theorem info_u64 : (Try.prog.info? 54).map (fun i => (i.zero, i.size, i.bytes)) = some (some (.int .u64 0), 1, 8) := by kernel_rfl

set_option maxHeartbeats 1000000 in
theorem Unpack_any (B : Nat) (A A' : Option Addr) (c c' : Nat) (bs : List UInt8) (ws : List Int) (w : World) (hr : Rd w B A (bs.map bv)) (hr' : Rd w B A' (ws.map iv)) (hB : B ≤ w.heap.size) (hc : bs.length ≤ c) (hcm : c ≤ maxLen) (hn : ws.length ≤ 4096) :
    Calls Try.prog 23 #[.slice A bs.length c, .slice A' ws.length c'] w (Unpacked bs ws w) := by
  obtain ⟨i0, hi, hz0, hz1, hz2⟩ := info_parts info_u64
  have hi := Lib.hid hi
  have hz0 := Lib.hid hz0
  have hz1 := Lib.hid hz1
  have hz2 := Lib.hid hz2
  obtain ⟨n, hbl⟩ : ∃ n, n = bs.length := ⟨_, rfl⟩
  rw [← hbl] at hc ⊢
  have HBL := Lib.hid hbl
  clear hbl
  unfold maxLen at hcm
  go_enter Try.func23, Try.ntmps23
  go_wp2
  go_loop [6, 14] (fun t i => ∃ k : Nat, k ≤ ws.length ∧ i = .int .i64 k ∧ t = .int .i64 (tot (ws.take k) : Int) ∧ GoodW ws k) (fun _ i => ws.length - (intOf i).toNat)
  case atStart => exact ⟨0, Nat.zero_le _, rfl, rfl, GoodW.zero _⟩
  case round =>
    obtain ⟨k, hk, rfl, rfl, hg⟩ := hrel
    by_cases hlt : k < ws.length
    · obtain ⟨x, hx⟩ : ∃ x, ws[k]? = some x := ⟨_, List.getElem?_eq_getElem hlt⟩
      obtain ⟨ad, rfl, _, hcell⟩ := hr' k (iv x) (by simp [hx])
      unfold iv at hcell
      have ht := hg.tot
      have htn := Lib.hid (tot_snoc ws k x hx)
      have HXK := Lib.hid hx
      clear hx hr hr'
      by_cases hw : 1 ≤ x ∧ x ≤ 8
      · have hg1 := hg.succ x HXK.out ((okW_iff x).2 hw)
        obtain ⟨h1, h2⟩ := hw
        go_wp2_with fail
        refine (isWidth_yes x _ h1 h2).mono ?_
        rintro e w1 ⟨rfl, rfl⟩
        go_wp2
        go_round
        case rel => exact ⟨k + 1, by omega, by go_num, by rw [htn.out]; go_num, hg1⟩
        case measure => simp [intOf]; omega
      · have HC := Lib.hid (GoodW.bad x HXK.out (by rw [← Bool.not_eq_true, okW_iff]; exact hw) n)
        have hw' : x < 1 ∨ 8 < x := by omega
        clear hw hg
        go_wp2_with fail
        refine (isWidth_no x _ hw').mono ?_
        rintro e w1 ⟨rfl, rfl⟩
        go_wp2
        go_ret2
        exact ⟨_, by rw [← HBL.out, HC.out]; rfl, by rw [← HBL.out, HC.out]; intro h; simp at h, fun _ => rfl, Below.refl _ _⟩
    · obtain rfl : k = ws.length := by omega
      have hall := hg.all
      have ht := hg.tot
      rw [List.take_of_length_le (Nat.le_refl _)] at ht ⊢
      by_cases hs : n < tot ws
      · have HC : Hid (unpCode ws n = 2) := by simp [Hid, unpCode, hall, hs]
        clear hall hg hr hr'
        go_wp2
        go_ret2
        exact ⟨_, by rw [← HBL.out, HC.out]; rfl, by rw [← HBL.out, HC.out]; intro h; simp at h, fun _ => rfl, Below.refl _ _⟩
      · have HC : Hid (unpCode ws n = 0) := by simp [Hid, unpCode, hall, hs]
        have HALL := Lib.hid hall
        clear hall 
        have hle : tot ws ≤ n := by omega
        clear hs
        go_wp2_with (at_make; refine wpList_make_own _ rfl _ _ 51 rfl w.heap.size 54 i0 (.int .u64 0) 1 Try.underlying51 hi.out hz0.out hz1.out .i64 .i64 _ ws.length rfl rfl rfl ?c1 ?c2 ?c3 ?_)
        case c1 => omega
        case c2 => unfold maxLen; omega
        intro w1 hown1 hgrow
        have hb1 := (Below.refl w.heap.size w).grown hgrow (by omega) (by simp)
        clear hgrow
        go_wp2
        go_loopw [0, 9, 34] (fun s r i wr => ∃ k : Nat, k ≤ ws.length ∧ i = .int .i64 k ∧
            (∃ Ak ck, s = .slice Ak (n - tot (ws.take k)) ck ∧ n - tot (ws.take k) ≤ ck ∧ ck ≤ 9223372036854775807 ∧ Rd wr B Ak ((bs.drop (tot (ws.take k))).map bv)) ∧
            wr.ownsRow w.heap.size 54 1 r k ((nums bs (ws.take k)).map uv) ∧ Below w.heap.size w wr) (fun _ _ i _ => ws.length - (intOf i).toNat)
        case atStart => exact ⟨0, Nat.zero_le _, rfl, ⟨_, _, rfl, hc, hcm, hr.below (hb1.mono hB)⟩, hown1, hb1⟩
        case round =>
          obtain ⟨k, hk, rfl, ⟨Ak, ck, rfl, hck, hckm, hrk⟩, hown, hb⟩ := hrel
          by_cases hlt : k < ws.length
          · obtain ⟨x, hx⟩ : ∃ x, ws[k]? = some x := ⟨_, List.getElem?_eq_getElem hlt⟩
            obtain ⟨ad, rfl, _, hcell⟩ := (hr'.below (hb.mono hB)) k (iv x) (by simp [hx])
            unfold iv at hcell
            have hxok := (okW_iff x).1 (List.all_eq_true.1 HALL.out x (List.mem_of_getElem? hx))
            have ht1 := tot_snoc ws k x hx
            have ht2 := tot_take_le ws (k + 1)
            have hns := Lib.hid (nums_snoc bs ws k x hx)
            obtain ⟨t, hts⟩ : ∃ t, t = tot (ws.take k) := ⟨_, rfl⟩
            rw [← hts] at hck hrk ht1 hns ⊢
            have htx : t + x.toNat ≤ n := by omega
            obtain ⟨h1, h2⟩ := hxok
            have HT1 := Lib.hid ht1
            have HTS := Lib.hid hts
            clear ht1 ht2 hts hx hr hr'
            obtain ⟨b, o, rfl, hbB, hcb⟩ := hrk.plain (by have := HBL.out; simp; omega)
            clear hcb
            have hsub : Rd wr B (some ⟨b, o, none⟩) (((bs.drop t).take x.toNat).map bv) := by rw [List.map_take]; exact hrk.take _
            have hlen : ((bs.drop t).take x.toNat).length = x.toNat := by have := HBL.out; simp; omega
            have HLEN := Lib.hid hlen
            clear hlen
            go_wp2_with fail
            refine (number_any B _ x.toNat ck ((bs.drop t).take x.toNat) _ (by omega) HLEN.out hsub).mono ?_
            rintro e w2 ⟨rfl, rfl⟩
            obtain ⟨q, hq⟩ : ∃ q, q = valB ((bs.drop t).take x.toNat) := ⟨_, rfl⟩
            rw [← hq] at hns ⊢
            clear hq hsub
            go_wp2_with (at_builtin; refine wpList_append_own _ rfl _ _ 51 rfl w.heap.size 54 i0 (.int .u64 0) 1 8 Try.underlying51 hi.out hz0.out hz1.out hz2.out rfl (by decide) _ _ _ rfl (hown.alloc _) ⟨wr.heap.size, 0, none⟩ 1 1 [uv q] rfl rfl ?d1 ?d2 ?d3 ?d4 ?d5 ?_)
            case d1 =>
              intro j u hj
              match j, hj with
              | 0, hj => simp at hj; subst hj; simp [Addr.add, uv]
            case d2 => intro u hu; simp at hu; subst hu; rfl
            case d3 => unfold maxLen; omega
            case d4 => omega
            case d5 => have := hb.size; simp; omega
            intro r' w3 hown3 hgrow3 _
            have hown4 : w3.ownsRow w.heap.size 54 1 r' (k + 1) ((nums bs (ws.take (k + 1))).map uv) := by rw [hns.out, List.map_append]; exact hown3
            have hb4 := (hb.alloc (by have := hb.size; omega) _).grown hgrow3 (by have := hb.size; simp; omega) (fun g hg => (hown.lt g hg).1)
            have hrk4 : Rd w3 B (some ⟨b, o + x.toNat, none⟩) ((bs.drop (t + x.toNat)).map bv) := by
              have h := (hrk.below (((Below.refl B wr).alloc (by have := hb.size; omega) (.cells #[uv q] 54)).grown hgrow3 (by have := hb.size; simp; omega) (fun g hg => by have := (hown.lt g hg).1; omega))).drop x.toNat
              rw [add_plain, ← List.map_drop, List.drop_drop] at h
              exact h
            clear hown3 hgrow3 hown hb hrk
            have HB4 := Lib.hid hb4
            have HO4 := Lib.hid hown4
            have HR4 := Lib.hid hrk4
            clear hb4 hown4 hrk4
            by_cases hcx : ck = x.toNat
            · have hz : Rd w3 B (some ⟨b, o, none⟩) ((bs.drop (t + x.toNat)).map bv) := by
                rw [List.drop_of_length_le (by have := HBL.out; omega)]; exact Rd.nil_
              have HZ := Lib.hid hz
              clear hz
              go_wp2
              go_roundw
              case rel =>
                refine ⟨k + 1, by omega, by go_num, ⟨some ⟨b, o, none⟩, 0, ?_, ?_⟩, HO4.out, HB4.out⟩
                · rw [HT1.out, Nat.sub_sub]
                · rw [HT1.out]
                  exact ⟨by omega, by omega, HZ.out⟩
              case measure => simp [intOf]; omega
            · go_wp2
              go_roundw
              case rel =>
                refine ⟨k + 1, by omega, by go_num, ⟨some ⟨b, o + x.toNat, none⟩, ck - x.toNat, ?_, ?_⟩, HO4.out, HB4.out⟩
                · rw [HT1.out, Nat.sub_sub]
                · rw [HT1.out]
                  exact ⟨by omega, by omega, HR4.out⟩
              case measure => simp [intOf]; omega
          · obtain rfl : k = ws.length := by omega
            rw [List.take_of_length_le (Nat.le_refl _)] at hown
            clear hrk hck
            go_wp2
            go_ret2
            exact ⟨_, by rw [← HBL.out, HC.out]; rfl, fun _ => hown, by rw [← HBL.out, HC.out]; intro h; simp at h, hb⟩

theorem Unpack_all (B : Nat) (A A' : Option Addr) (n c m c' : Nat) (bs : List UInt8) (ws : List Int) (q : Int) (vs : List Nat) (k : Nat) (w : World) (hl : bs.length = n) (hl' : ws.length = m) (hq : unpCode ws n = q) (hvs : unpVals bs ws = vs) (hk : vs.length = k) (hr : Rd w B A (bs.map bv)) (hr' : Rd w B A' (ws.map iv)) (hB : B ≤ w.heap.size) (hc : n ≤ c) (hcm : c ≤ maxLen) (hn : m ≤ 4096) :
    Calls Try.prog 23 #[.slice A n c, .slice A' m c'] w fun e w' => ∃ A c, e = .returned (.tuple #[.slice A k c, .int .i64 q]) ∧ k ≤ c ∧ c ≤ maxLen ∧ Rd w' w'.heap.size A (vs.map uv) ∧ Below w.heap.size w w' := by
  subst hl hl'
  exact (Unpack_any B A A' c c' bs ws w hr hr' hB hc hcm hn).mono fun e w' h => h.all hq hvs hk
theorem Unpack_ok (B : Nat) (A A' : Option Addr) (n c n' c' : Nat) (bs : List UInt8) (ws : List Int) (vs : List Nat) (w : World) (hl : bs.length = n) (hl' : ws.length = n') (h0 : unpCode ws n = 0) (hvs : nums bs ws = vs) (hr : Rd w B A (bs.map bv)) (hr' : Rd w B A' (ws.map iv)) (hB : B ≤ w.heap.size) (hc : n ≤ c) (hcm : c ≤ maxLen) (hn : n' ≤ 4096) :
    Calls Try.prog 23 #[.slice A n c, .slice A' n' c'] w fun e w' => ∃ A' c', e = .returned (.tuple #[.slice A' n' c', .int .i64 0]) ∧ n' ≤ c' ∧ c' ≤ maxLen ∧ Rd w' w'.heap.size A' (vs.map uv) ∧ Below w.heap.size w w' := by
  subst hl hl' hvs
  refine (Unpack_any B A A' c c' bs ws w hr hr' hB hc hcm hn).mono ?_
  rintro e w' ⟨r, rfl, hok, _, hb⟩
  have hown := hok h0
  obtain ⟨A', c', rfl, h1, h2⟩ := own_len hown
  exact ⟨A', c', by rw [h0], h1, h2, Rd.own hown, hb⟩
theorem Unpack_bad (B : Nat) (A A' : Option Addr) (n c n' c' : Nat) (bs : List UInt8) (ws : List Int) (q : Int) (w : World) (hl : bs.length = n) (hl' : ws.length = n') (hq : unpCode ws n = q) (h0 : q ≠ 0) (hr : Rd w B A (bs.map bv)) (hr' : Rd w B A' (ws.map iv)) (hB : B ≤ w.heap.size) (hc : n ≤ c) (hcm : c ≤ maxLen) (hn : n' ≤ 4096) :
    Calls Try.prog 23 #[.slice A n c, .slice A' n' c'] w fun e w' => e = .returned (.tuple #[.slice none 0 0, .int .i64 q]) ∧ Below w.heap.size w w' := by
  subst hl hl' hq
  refine (Unpack_any B A A' c c' bs ws w hr hr' hB hc hcm hn).mono ?_
  rintro e w' ⟨r, rfl, _, hbad, hb⟩
  exact ⟨by rw [hbad h0], hb⟩
end Go.Proofs.Ytgboccepgbeihaa
