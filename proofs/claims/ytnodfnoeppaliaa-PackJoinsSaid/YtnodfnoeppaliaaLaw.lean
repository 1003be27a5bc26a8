/-
  What the statements' own helpers do: same, few, and the document's answers (Get, Unpack, Fill).
-/
import Derived.Test.YtnodfnoeppaliaaUnpack
import Derived.Test.YtnodfnoeppaliaaFill
import Derived.Test.YtnodfnoeppaliaaPack2
import Derived.BigQuiet
import Derived.Deep.QuietTactic
import Derived.Laws.BytesArg
namespace Go.Proofs.Ytnodfnoeppaliaa
open Go.RowKit
set_option linter.unusedVariables false

/-- bytes as a string -/
def str (bs : List UInt8) : ByteArray := ⟨bs.toArray⟩
theorem str_toList (bs : List UInt8) : (str bs).toList = bs := by simp [str]
theorem str_size (bs : List UInt8) : (str bs).size = bs.length := by simp [str, ByteArray.size]
theorem str_get (bs : List UInt8) (k : Nat) (h : k < (str bs).size) : (str bs)[k] = bs[k]'(by rw [← str_size]; exact h) := rfl

theorem run_conv {P : Program} (src e dst : TypeId) (hs : P.underlying src = some (.slice e)) (he : P.underlying e = some (.int .u8)) (hd : P.underlying dst = some .string)
    {w : World} {B : Nat} {A : Option Addr} {bs : List UInt8} (n c : Nat) (hn : bs.length = n) (hr : Rd w B A (bs.map bv)) : (convert src dst (.slice A n c)).run P w = .ok (.string (str bs)) w := by
  subst hn
  cases A with
  | none =>
    have : bs = [] := by
      cases bs with
      | nil => rfl
      | cons x l => obtain ⟨ad, h, _⟩ := hr 0 (bv x) (by simp); cases h
    subst this
    exact run_convert_bytes_nil w src e hs he _ _ dst hd
  | some ad =>
    have hl : (loadCells ad bs.length).run P w = .ok ((bs.map fun b => (b.toNat : Int)).map (Value.int .u8)).toArray w := by
      have := run_loadCells_list (P := P) w ad (bs.map bv) (fun j v hj => by
        obtain ⟨ad', h, _, hc⟩ := hr j v hj
        cases h
        exact hc)
      rw [List.length_map] at this
      rw [this, List.map_map]
      rfl
    rw [run_convert_bytes_string w src dst e _ bs.length c hs he hd, run_bytesToString w _ bs.length c _ hl, foldl_push_bytes]
    simp [str, ByteArray.empty, ByteArray.emptyWithCapacity]
    rw [List.map_congr_left (g := id) (fun b _ => by simp)]
    simp
    rfl

theorem few_any (B : Nat) (A : Option Addr) (c : Nat) (l : List Num') (w : World) (hr : Rd w B A (numsV l)) (hc : l.length ≤ c) (hcm : c ≤ maxLen) :
    Calls Try.prog 15 #[.slice A l.length c] w fun e w' => e = .returned (.slice A (l.take 60).length c) ∧ w = w' := by
  unfold maxLen at hcm
  by_cases h : 60 < l.length
  · obtain ⟨b, o, rfl, _, _⟩ := hr.plain (by rw [numsV_length]; omega)
    have h' : (60 : Int) < (l.length : Int) := by omega
    have HL : Hid ((l.take 60).length = 60) := by simp [Hid]; omega
    rw [HL.out]
    clear hr
    go_enter Try.func15, Try.ntmps15
    go_wp2
    go_ret
    exact ⟨rfl, rfl⟩
  · have h' : ¬ (60 : Int) < (l.length : Int) := by omega
    have HL : Hid ((l.take 60).length = l.length) := by simp [Hid]; omega
    rw [HL.out]
    clear hr
    go_enter Try.func15, Try.ntmps15
    go_wp2
    go_ret
    exact ⟨rfl, rfl⟩

set_option maxHeartbeats 400000 in
theorem same_yes (B : Nat) (A A' : Option Addr) (n c c' : Nat) (xs : List Nat) (w : World) (hn : xs.length = n) (hm : n ≤ 9223372036854775807) (hr : Rd w B A (xs.map uv)) (hr' : Rd w B A' (xs.map uv)) :
    Calls Try.prog 10 #[.slice A n c, .slice A' n c'] w fun e w' => e = .returned (.bool true) ∧ ∃ j, w' = w.drewN j := by
  have HN := Lib.hid hn
  clear hn
  go_enter Try.func10, Try.ntmps10
  go_wp2
  go_loopw [5] (fun i wr => ∃ k j : Nat, k ≤ n ∧ i = .int .i64 k ∧ wr = w.drewN j) (fun i _ => n - (intOf i).toNat)
  case atStart => exact ⟨0, 0, Nat.zero_le _, rfl, rfl⟩
  case round =>
    obtain ⟨k, j, hk, rfl, rfl⟩ := hrel
    by_cases hlt : k < n
    · have hlx : k < xs.length := by rw [HN.out]; exact hlt
      obtain ⟨ad, rfl, _, hc⟩ := hr k (uv xs[k]) (by simp [hlx])
      obtain ⟨ad', rfl, _, hc'⟩ := hr' k (uv xs[k]) (by simp [hlx])
      have hlt' : (k : Int) < (n : Int) := by omega
      unfold uv at hc hc'
      obtain ⟨x, hx⟩ : ∃ x : Int, x = (xs[k] : Int) := ⟨_, rfl⟩
      rw [← hx] at hc hc'
      clear hr hr' hx
      go_wp2
      go_quiet (fail)
      go_wp2
      go_roundw
      case rel => exact ⟨k + 1, _, by omega, by go_num, rfl⟩
      case measure => simp [intOf]; omega
    · go_wp2
      go_ret
      exact ⟨rfl, j, rfl⟩

set_option maxHeartbeats 400000 in
theorem Get_any (bs : List UInt8) (t n : Nat) (w : World) (ht : t + n ≤ bs.length) (hn : n ≤ 8) (hl : bs.length ≤ 9223372036854775807) :
    Calls Try.prog 19 #[.string (str bs), .int .i64 t, .int .i64 n] w fun e w' => e = .returned (.int .u64 (valB ((bs.drop t).take n) : Int)) ∧ w = w' := by
  have hsz := str_size bs
  have HSZ := Lib.hid hsz
  have hsz' : t + n ≤ (str bs).size := by omega
  have hsz2 : (str bs).size ≤ 9223372036854775807 := by omega
  clear hsz
  go_enter Try.func19, Try.ntmps19
  go_wp2
  go_loop [7, 8] (fun v i => ∃ k : Nat, k ≤ n ∧ i = .int .i64 k ∧ v = .int .u64 (valB ((bs.drop t).take k) : Int)) (fun _ i => n - (intOf i).toNat)
  case atStart => exact ⟨0, Nat.zero_le _, rfl, rfl⟩
  case round =>
    obtain ⟨k, hk, rfl, rfl⟩ := hrel
    by_cases hlt : k < n
    · have htk : t + k < bs.length := by omega
      have hvk : valB ((bs.drop t).take k) < 72057594037927936 :=
        Nat.lt_of_lt_of_le (valB_lt _) (Nat.le_trans (pow256_le (b := 7) (by simp; omega)) (by decide))
      have hbk := ((str bs)[t + k]'(by omega)).toNat_lt
      have hsn : (bs.drop t).take (k + 1) = (bs.drop t).take k ++ [bs[t + k]] := by
        rw [List.take_add_one, List.getElem?_drop, List.getElem?_eq_getElem htk]; rfl
      have HSN := Lib.hid hsn
      clear hsn
      go_wp2
      go_round
      case rel =>
        refine ⟨k + 1, by omega, by go_num, ?_⟩
        rw [HSN.out, valB_snoc]
        rfl
      case measure => simp [intOf]; omega
    · obtain rfl : k = n := by omega
      go_wp2
      go_ret
      exact ⟨rfl, rfl⟩

set_option maxHeartbeats 1000000 in
theorem refUnpack_any (B : Nat) (A' : Option Addr) (c' : Nat) (bs : List UInt8) (ws : List Int) (w : World) (hr' : Rd w B A' (ws.map iv)) (hB : B ≤ w.heap.size) (hl : bs.length ≤ 9223372036854775807) (hn : ws.length ≤ 4096) :
    Calls Try.prog 9 #[.string (str bs), .slice A' ws.length c'] w (Unpacked bs ws w) := by
  obtain ⟨i0, hi, hz0, hz1, hz2⟩ := info_parts info_u64
  have hi := Lib.hid hi
  have hz0 := Lib.hid hz0
  have hz1 := Lib.hid hz1
  have hz2 := Lib.hid hz2
  have hsz := str_size bs
  obtain ⟨n, hbl⟩ : ∃ n, n = bs.length := ⟨_, rfl⟩
  have hsn : (str bs).size ≤ 9223372036854775807 := by omega
  have HSN : Hid ((str bs).size = n) := by simp only [Hid]; omega
  have HBL := Lib.hid hbl
  clear hbl hsz hl
  go_enter Try.func9, Try.ntmps9
  go_wp2
  go_loop [6, 7] (fun t i => ∃ k : Nat, k ≤ ws.length ∧ i = .int .i64 k ∧ t = .int .i64 (tot (ws.take k) : Int) ∧ GoodW ws k) (fun _ i => ws.length - (intOf i).toNat)
  case atStart => exact ⟨0, Nat.zero_le _, rfl, rfl, GoodW.zero _⟩
  case round =>
    obtain ⟨k, hk, rfl, rfl, hg⟩ := hrel
    by_cases hlt : k < ws.length
    · obtain ⟨x, hx⟩ : ∃ x, ws[k]? = some x := ⟨_, List.getElem?_eq_getElem hlt⟩
      obtain ⟨ad, rfl, _, hcell⟩ := hr' k (iv x) (by simp [hx])
      unfold iv at hcell
      have ht := hg.tot
      have htn := Lib.hid (tot_snoc ws k x hx)
      have HXK := Lib.hid hx
      clear hx hr'
      by_cases hw : 1 ≤ x ∧ x ≤ 8
      · have hg1 := hg.succ x HXK.out ((okW_iff x).2 hw)
        obtain ⟨h1, h2⟩ := hw
        have h2' : decide (8 < x) = false := by simp; omega
        go_wp2
        go_round
        case rel => exact ⟨k + 1, by omega, by go_num, by rw [htn.out]; go_num, hg1⟩
        case measure => simp [intOf]; omega
      · have HC := Lib.hid (GoodW.bad x HXK.out (by rw [← Bool.not_eq_true, okW_iff]; exact hw) n)
        clear hg
        by_cases h1 : x < 1
        · clear hw
          go_wp2
          go_ret2
          exact ⟨_, by rw [← HBL.out, HC.out]; rfl, by rw [← HBL.out, HC.out]; intro h; simp at h, fun _ => rfl, Below.refl _ _⟩
        · have h2 : 8 < x := by omega
          have h2' : decide (8 < x) = true := by simp; omega
          clear hw
          go_wp2
          go_ret2
          exact ⟨_, by rw [← HBL.out, HC.out]; rfl, by rw [← HBL.out, HC.out]; intro h; simp at h, fun _ => rfl, Below.refl _ _⟩
    · obtain rfl : k = ws.length := by omega
      have hall := hg.all
      have ht := hg.tot
      rw [List.take_of_length_le (Nat.le_refl _)] at ht ⊢
      by_cases hs : n < tot ws
      · have HC : Hid (unpCode ws n = 2) := by simp [Hid, unpCode, hall, hs]
        have hs' : (str bs).size < tot ws := by rw [HSN.out]; exact hs
        clear hall hg hr' hs
        go_wp2
        go_ret2
        exact ⟨_, by rw [← HBL.out, HC.out]; rfl, by rw [← HBL.out, HC.out]; intro h; simp at h, fun _ => rfl, Below.refl _ _⟩
      · have HC : Hid (unpCode ws n = 0) := by simp [Hid, unpCode, hall, hs]
        have HALL := Lib.hid hall
        have hle : tot ws ≤ (str bs).size := by rw [HSN.out]; omega
        clear hall hs hg
        go_wp2
        go_loopw [8, 9, 10] (fun r t i wr => ∃ k : Nat, k ≤ ws.length ∧ i = .int .i64 k ∧ t = .int .i64 (tot (ws.take k) : Int) ∧
            wr.ownsRow w.heap.size 40 1 r k ((nums bs (ws.take k)).map uv) ∧ Below w.heap.size w wr) (fun _ _ i _ => ws.length - (intOf i).toNat)
        case atStart => exact ⟨0, Nat.zero_le _, rfl, rfl, World.ownsRow_nil w w.heap.size _ 1, Below.refl _ _⟩
        case round =>
          obtain ⟨k, hk, rfl, rfl, hown, hb⟩ := hrel
          by_cases hlt : k < ws.length
          · obtain ⟨x, hx⟩ : ∃ x, ws[k]? = some x := ⟨_, List.getElem?_eq_getElem hlt⟩
            obtain ⟨ad, rfl, hadB, hcell⟩ := (hr'.below (hb.mono hB)) k (iv x) (by simp [hx])
            unfold iv at hcell
            have hxok := (okW_iff x).1 (List.all_eq_true.1 HALL.out x (List.mem_of_getElem? hx))
            have ht1 := tot_snoc ws k x hx
            have ht2 := tot_take_le ws (k + 1)
            have hns := Lib.hid (nums_snoc bs ws k x hx)
            obtain ⟨t, hts⟩ : ∃ t, t = tot (ws.take k) := ⟨_, rfl⟩
            rw [← hts] at ht1 hns ⊢
            have htx : t + x.toNat ≤ (str bs).size := by omega
            obtain ⟨h1, h2⟩ := hxok
            obtain ⟨xn, hxn⟩ := Int.eq_ofNat_of_zero_le (show 0 ≤ x by omega)
            have hxn8 : xn ≤ 8 := by omega
            have hxn1 : 1 ≤ xn := by omega
            have hxt : x.toNat = xn := by omega
            rw [hxt] at ht1 htx hns
            rw [hxn] at hcell
            have HT1 := Lib.hid ht1
            have HTS := Lib.hid hts
            clear ht1 ht2 hts hx hr' hxt hxn h1 h2
            have hsz := hb.size
            go_wp2_with fail
            refine (Get_any bs t xn _ (by have := HSN.out; have := HBL.out; omega) hxn8 (by have := HSN.out; have := HBL.out; omega)).mono ?_
            rintro e w2 ⟨rfl, rfl⟩
            obtain ⟨q, hq⟩ : ∃ q, q = valB ((bs.drop t).take xn) := ⟨_, rfl⟩
            rw [← hq] at hns ⊢
            clear hq
            go_wp2_with (at_builtin; refine wpList_append_own _ rfl _ _ 24 rfl w.heap.size 40 i0 (.int .u64 0) 1 8 Try.underlying24 hi.out hz0.out hz1.out hz2.out rfl (by decide) _ _ _ rfl (hown.alloc _) ⟨wr.heap.size, 0, none⟩ 1 1 [uv q] rfl rfl ?d1 ?d2 ?d3 ?d4 ?d5 ?_)
            case d1 =>
              intro j u hj
              match j, hj with
              | 0, hj => simp at hj; subst hj; simp [Addr.add, uv]
            case d2 => intro u hu; simp at hu; subst hu; rfl
            case d3 => unfold maxLen; omega
            case d4 => omega
            case d5 => simp; omega
            intro r' w3 hown3 hgrow3 _
            have hown4 : w3.ownsRow w.heap.size 40 1 r' (k + 1) ((nums bs (ws.take (k + 1))).map uv) := by rw [hns.out, List.map_append]; exact hown3
            have hbw : Below B wr w3 := ((Below.refl B wr).alloc (by omega) (.cells #[uv q] 40)).grown hgrow3 (by simp; omega) (fun g hg => by have := (hown.lt g hg).1; omega)
            have hcell3 := (hbw.cell (p := ad.add k) (by rw [block_add]; exact hadB)).trans hcell
            have hb4 := (hb.alloc (by omega) _).grown hgrow3 (by simp; omega) (fun g hg => (hown.lt g hg).1)
            have HB4 := Lib.hid hb4
            have HO4 := Lib.hid hown4
            clear hown3 hgrow3 hown hb hb4 hown4 hbw hcell
            go_wp2
            go_roundw
            case rel => exact ⟨k + 1, by omega, by go_num, by rw [HT1.out]; go_num, HO4.out, HB4.out⟩
            case measure => simp [intOf]; omega
          · obtain rfl : k = ws.length := by omega
            rw [List.take_of_length_le (Nat.le_refl _)] at hown
            go_wp2
            go_ret2
            exact ⟨_, by rw [← HBL.out, HC.out]; rfl, fun _ => hown, by rw [← HBL.out, HC.out]; intro h; simp at h, hb⟩

theorem refUnpack_all (B : Nat) (A' : Option Addr) (m c' : Nat) (bs : List UInt8) (ws : List Int) (q : Int) (vs : List Nat) (k : Nat) (w : World) (hl' : ws.length = m) (hq : unpCode ws bs.length = q) (hvs : unpVals bs ws = vs) (hk : vs.length = k) (hr' : Rd w B A' (ws.map iv)) (hB : B ≤ w.heap.size) (hl : bs.length ≤ 9223372036854775807) (hn : m ≤ 4096) :
    Calls Try.prog 9 #[.string (str bs), .slice A' m c'] w fun e w' => ∃ A c, e = .returned (.tuple #[.slice A k c, .int .i64 q]) ∧ k ≤ c ∧ c ≤ maxLen ∧ Rd w' w'.heap.size A (vs.map uv) ∧ Below w.heap.size w w' := by
  subst hl'
  exact (refUnpack_any B A' c' bs ws w hr' hB hl hn).mono fun e w' h => h.all hq hvs hk

theorem str_append (a b : List UInt8) : str a ++ str b = str (a ++ b) := ByteArray.mk_append_mk a b
theorem fill_step (bs : List UInt8) (k : Nat) : str (bs ++ List.replicate k 0) ++ ⟨#[0]⟩ = str (bs ++ List.replicate (k + 1) 0) := by
  rw [show (⟨#[0]⟩ : ByteArray) = str [0] from rfl, str_append, List.append_assoc, List.replicate_succ']
def leftOf : Value → Nat | .string x => 128 - x.size | _ => 0
set_option maxRecDepth 100000 in
theorem refFill_any (bs : List UInt8) (w : World) (hl : bs.length ≤ 128) :
    Calls Try.prog 14 #[.string (str bs)] w fun e w' => e = .returned (.string (str (fillB bs))) ∧ w = w' := by
  go_enter Try.func14, Try.ntmps14
  go_wp2
  go_loop [0] (fun s => ∃ k : Nat, k + bs.length ≤ 128 ∧ s = .string (str (bs ++ List.replicate k 0))) (fun s => leftOf s)
  case atStart => exact ⟨0, by omega, by simp⟩
  case round =>
    obtain ⟨k, hk, rfl⟩ := hrel
    obtain ⟨s, hs⟩ : ∃ s, s = str (bs ++ List.replicate k 0) := ⟨_, rfl⟩
    have hsz : s.size = k + bs.length := by rw [hs, str_size]; simp; omega
    have hst := fill_step bs k
    rw [← hs] at hst ⊢
    by_cases hlt : s.size < 128
    · have HS := Lib.hid hsz
      have HST := Lib.hid hst
      clear hs hsz hst
      go_wp2
      go_round
      case rel => exact ⟨k + 1, by have := HS.out; omega, by rw [HST.out]⟩
      case measure => rw [HST.out]; simp only [leftOf, str_size, List.length_append, List.length_replicate]; have := HS.out; omega
    · have hr : bs ++ List.replicate k 0 = fillB bs := by
        rw [fillB, show k = 128 - bs.length from by omega]
      have HSF : Hid (s = str (fillB bs)) := by rw [← hr]; exact hs
      clear hs hsz hst hr
      go_wp2
      go_ret
      exact ⟨by rw [HSF.out]; rfl, rfl⟩
end Go.Proofs.Ytnodfnoeppaliaa
