/-
  What the landed entry's join answers: the entries of several lists, one behind the other.
-/
import Derived.Test.YtgboccepgbeihaaEntP1
import Derived.Test.YtgboccepgbeihaaRef10e
namespace Go.Proofs.Ytgboccepgbeihaa
open Go.RowKit
set_option maxRecDepth 100000
set_option linter.unusedVariables false

theorem flat_snoc {ls : List (List Et)} {k : Nat} {l : List Et} (h : ls[k]? = some l) : (ls.take (k + 1)).flatten = (ls.take k).flatten ++ l := by
  rw [List.take_add_one, h]; simp
theorem flat_le (ls : List (List Et)) (k : Nat) : (ls.take k).flatten.length ≤ ls.flatten.length := by
  have h : ls.flatten = (ls.take k).flatten ++ (ls.drop k).flatten := by rw [← List.flatten_append, List.take_append_drop]
  rw [h, List.length_append]; omega

set_option maxHeartbeats 8000000 in
theorem join_any (B : Nat) (A : Option Addr) (n c : Nat) (ls : List (List Et)) (vs : List Value) (w : World) (hl : vs.length = n) (hll : ls.length = n) (hr : Rd w B A vs) (hB : B ≤ w.heap.size)
    (hv : ∀ (k : Nat) (l : List Et), ls[k]? = some l → ∃ v, vs[k]? = some v ∧ EtsW w l v) (ht : ls.flatten.length ≤ 1000) (hs : ∀ l ∈ ls, ∀ x ∈ l, x.name.length ≤ 100000) (hn : n ≤ 1000) :
    Calls Try.prog 35 #[.slice A n c] w fun e w' => ∃ v, e = .returned v ∧ EtsW w' ls.flatten v ∧ Below w.heap.size w w' := by
  obtain ⟨i0, hi, hz0, hz1, hz2⟩ := info_parts info_entry
  have hi := Lib.hid hi
  have hz0 := Lib.hid hz0
  have hz1 := Lib.hid hz1
  have hz2 := Lib.hid hz2
  have HL := Lib.hid hl
  have HLL := Lib.hid hll
  have HR := Lib.hid hr
  have HV := Lib.hid hv
  have HS := Lib.hid hs
  have HT := Lib.hid ht
  obtain ⟨FF, hFF⟩ : ∃ FF, ls.flatten = FF := ⟨_, rfl⟩
  have HFF := Lib.hid hFF
  rw [hFF]
  clear hl hll hr hv hs ht hFF
  go_enter Try.func35, Try.ntmps35
  go_wp2
  go_loopw [3, 10] (fun r i wr => ∃ k m : Nat, k ≤ n ∧ i = .int .i64 (k : Int) ∧ m = (ls.take k).flatten.length ∧ Hid (wr.ownsRow w.heap.size 38 3 r m (etsV (ls.take k).flatten)) ∧ Hid (Below w.heap.size w wr)) (fun _ i _ => n - (intOf i).toNat)
  case atStart => exact ⟨0, 0, Nat.zero_le _, rfl, rfl, ⟨rfl, .inl ⟨rfl, rfl⟩⟩, Below.refl _ _⟩
  case round =>
    obtain ⟨k, m, hk, rfl, hm, HOWN, HBB⟩ := hrel
    obtain ⟨Ar, cr, hre, hcr, hcm⟩ := own_len HOWN.out
    subst hre
    by_cases hlt : k < n
    · obtain ⟨l, hx⟩ : ∃ l, ls[k]? = some l := ⟨_, List.getElem?_eq_getElem (by rw [HLL.out]; exact hlt)⟩
      obtain ⟨v, hvk, hW⟩ := HV.out k l hx
      obtain ⟨A', n', c', rfl, hl', hnc', hcm', hr'⟩ := hW
      obtain ⟨b, o, rfl, -, -⟩ := HR.out.plain (by rw [HL.out]; omega)
      have c0 : wr.cell? ⟨b, o + k, none⟩ = some (.slice A' n' c') := by
        obtain ⟨ad, e, _, hc⟩ := HR.out.below (HBB.out.mono hB) _ _ hvk
        cases e; rwa [add_plain] at hc
      have HL' := Lib.hid hl'
      have HR' := Lib.hid (hr'.below HBB.out)
      have HSL : Hid (∀ x ∈ l, x.name.length ≤ 100000) := HS.out l (List.mem_of_getElem? hx)
      have HSN : Hid ((ls.take (k + 1)).flatten = (ls.take k).flatten ++ l) := flat_snoc hx
      have hle := flat_le ls (k + 1)
      have hT := HT.out
      have hFl : ls.flatten.length = FF.length := by rw [HFF.out]
      have hmm : m + n' ≤ 1000 := by
        have h := congrArg List.length HSN.out
        rw [List.length_append, hl', ← hm] at h
        omega
      obtain ⟨PP, hPP⟩ : ∃ PP, (ls.take k).flatten = PP := ⟨_, rfl⟩
      rw [hPP] at HOWN HSN hm
      have HM := Lib.hid hm
      have HGE0 : Hid (w.heap.size ≤ wr.heap.size) := HBB.out.size
      have hnn : (n' : Int) ≤ 1000 := by omega
      clear hx hvk hl' hr' hle hT hFl hPP hm
      obtain ⟨wo, hwo⟩ : ∃ wo : World, wo = wr := ⟨_, rfl⟩
      subst hwo
      go_wp2
      go_loopw [3, 16] (fun r i wr => ∃ q : Nat, q ≤ n' ∧ i = .int .i64 (q : Int) ∧ Hid (wr.ownsRow w.heap.size 38 3 r (m + q) (etsV (PP ++ l.take q))) ∧ Hid (Below w.heap.size w wr) ∧ Hid (Rd wr w.heap.size A' (etsV l))) (fun _ i _ => n' - (intOf i).toNat)
      case atStart => exact ⟨0, Nat.zero_le _, rfl, by show World.ownsRow _ _ _ _ _ _ _; simpa using HOWN.out, HBB.out, HR'.out⟩
      case round =>
        obtain ⟨q, hq, rfl, HO, HB2, HRL⟩ := hrel
        obtain ⟨Aq, cq, hre, hcq, hcqm⟩ := own_len HO.out
        subst hre
        by_cases hltq : q < n'
        · obtain ⟨x, hx⟩ : ∃ x, l[q]? = some x := ⟨_, List.getElem?_eq_getElem (by rw [HL'.out]; exact hltq)⟩
          obtain ⟨b', o', rfl, -, -⟩ := HRL.out.plain (by rw [etsV_length, HL'.out]; omega)
          obtain ⟨d0, d1, d2⟩ := ets_at HRL.out hx
          have hxi := HSL.out x (List.mem_of_getElem? hx)
          have HFW := Lib.hid fun w' => own_any x.name x.ino x.ty w' hxi
          have HVV : Hid (etsV (PP ++ l.take (q + 1)) = etsV (PP ++ l.take q) ++ [.string (str x.name), .int .i64 x.ino, .int .i64 x.ty]) := by
            show _ = _
            rw [List.take_add_one, hx, ← List.append_assoc, etsV_append]; rfl
          obtain ⟨nm, qi, t⟩ := x
          simp only at d0 d1 d2 HFW HVV
          obtain ⟨X, hX⟩ : ∃ X, str nm = X := ⟨_, rfl⟩
          rw [hX] at d0 HFW HVV
          have HGE : Hid (w.heap.size ≤ wr.heap.size) := HB2.out.size
          have HO1 := Lib.hid (HO.out.alloc (.cells #[.string X, .int .i64 qi, .int .i64 t] 38))
          have HBA := Lib.hid (HB2.out.alloc HB2.out.size (.cells #[.string X, .int .i64 qi, .int .i64 t] 38))
          have HRA := Lib.hid (HRL.out.below ((Below.refl _ wr).alloc HB2.out.size (.cells #[.string X, .int .i64 qi, .int .i64 t] 38)))
          have HSZ : Hid (w.heap.size ≤ (wr.alloc (.cells #[.string X, .int .i64 qi, .int .i64 t] 38)).heap.size) := by show _ ≤ _; rw [World.alloc_size']; have := HGE.out; omega
          clear hx hX hxi
          go_wp2_with fail
          refine (HFW.out _).mono ?_
          rintro e w6 ⟨rfl, hb⟩
          have HO2 := Lib.hid ((own_upE HO1.out hb).alloc (.cells #[.string X, .int .i64 qi, .int .i64 t] 38))
          have HBB1 := Lib.hid (HBA.out.trans (hb.mono HSZ.out))
          have HB3 := Lib.hid (HBB1.out.alloc HBB1.out.size (.cells #[.string X, .int .i64 qi, .int .i64 t] 38))
          have HR3 := Lib.hid ((HRA.out.below (hb.mono HSZ.out)).below ((Below.refl _ w6).alloc HBB1.out.size (.cells #[.string X, .int .i64 qi, .int .i64 t] 38)))
          have HNW := Lib.hid (Rd.new w6 38 #[.string X, .int .i64 qi, .int .i64 t] (0, 0))
          have HG6 : Hid (w.heap.size ≤ w6.heap.size) := HBB1.out.size
          clear hb HO1 HBA HRA HSZ
          go_wp2_with (at_builtin; refine wpList_append_rd _ rfl _ _ 22 rfl w.heap.size 38 i0 (.agg #[.string ByteArray.empty, .int .i64 0, .int .i64 0]) 3 32 Try.underlying22 hi.out hz0.out hz1.out hz2.out rfl (by decide) _ _ _ rfl HO2.out (w6.heap.size + 1) (some ⟨w6.heap.size, 0, none⟩) 1 1 [.string X, .int .i64 qi, .int .i64 t] rfl rfl HNW.out ?c2 ?c3 ?c4 ?c5 ?_)
          case c2 => first | exact ⟨rfl, rfl, rfl⟩ | (intro u hu; simp only [List.mem_cons, List.not_mem_nil, or_false] at hu; rcases hu with rfl | rfl | rfl <;> rfl)
          case c3 => unfold maxLen; omega
          case c4 => omega
          case c5 => have := HG6.out; simp; omega
          intro r' w7 hown7 hgrow
          have HB7 := Lib.hid (HB3.out.grown hgrow HB3.out.size (fun g hg => (HO2.out.lt g hg).1))
          have HR7 := Lib.hid (HR3.out.below ((Below.refl _ _).grown hgrow HB3.out.size (fun g hg => (HO2.out.lt g hg).1)))
          have HOWN7 : Hid (w7.ownsRow w.heap.size 38 3 r' (m + (q + 1)) (etsV (PP ++ l.take (q + 1)))) := by
            show World.ownsRow _ _ _ _ _ _ _
            rw [HVV.out, ← Nat.add_assoc]; exact hown7
          clear hown7 hgrow HO2 HB3 HNW HR3
          go_wp2
          go_roundw
          case rel => exact ⟨q + 1, by omega, by go_num, HOWN7, HB7, HR7⟩
          case measure => simp [intOf]; omega
        · obtain rfl : q = n' := by omega
          have HE : Hid (wr.ownsRow w.heap.size 38 3 (.slice Aq (m + q) cq) (m + q) (etsV (ls.take (k + 1)).flatten)) := by
            show World.ownsRow _ _ _ _ _ _ _
            have h := HO.out
            rw [List.take_of_length_le (by rw [HL'.out]; exact Nat.le_refl _), ← HSN.out] at h
            exact h
          have HME : Hid (m + q = (ls.take (k + 1)).flatten.length) := by show _ = _; rw [HSN.out, List.length_append, HL'.out, ← HM.out]
          go_wp2
          go_roundw
          case rel => exact ⟨k + 1, m + q, by omega, by go_num, HME.out, HE, HB2⟩
          case measure => simp [intOf]; omega
    · obtain rfl : k = n := by omega
      have HE : Hid (EtsW wr FF (.slice Ar m cr)) := by
        have h := HOWN.out
        rw [List.take_of_length_le (by rw [HLL.out]; exact Nat.le_refl _), HFF.out] at h
        exact EtsW.own h
      go_wp2
      go_ret
      exact ⟨_, rfl, HE.out, HBB.out⟩
end Go.Proofs.Ytgboccepgbeihaa
