/-
  What the iterator of summary.summed does: entry by entry, each with its block's checksum.
-/
import Derived.RangeFuncNested
import Derived.RangeFuncBound
import Derived.RangeFuncCalls
import Derived.RangeFuncLeaves
import Derived.Shelf.Abstract
import Derived.Shelf.RegionOpen
import Derived.OwnWalkIn
import Derived.TacticsInMore
import Derived.LoopNIn
import Derived.LoopIn
import Derived.Test.YtjibjojnkieliaaDoorSum2
import Derived.Test.YtjibjojnkieliaaDoorCrcSeal
import Derived.Test.YtjibjojnkieliaaDoorOpenRows
namespace Go.Proofs.YtjibjojnkieliaaDoor
open Go.RowKit Go.Shelf
set_option linter.unusedVariables false
attribute [local go_sem] Oper.semAt_some

/-- what a round keeps: all below n₀, and one box -/
def KeepB (n₀ b : Nat) (W W' : World) : Prop := Below n₀ W W' ∧ W'.heap[b]? = W.heap[b]?
theorem KeepB.t {n₀ b : Nat} {W1 W2 W3 : World} (h : KeepB n₀ b W1 W2) (k : KeepB n₀ b W2 W3) : KeepB n₀ b W1 W3 := ⟨h.1.trans k.1, k.2.trans h.2⟩
theorem AbidesFrom.up {β : Type} {B : Nat} {J : β → World → Prop} (hJ : AbidesFrom B J) {s : β} {W W' : World} (h : J s W) (hb : Below W.heap.size W W') : J s W' :=
  hJ s W W' none h ⟨hb.os, hb.tape, hb.output, hb.size, fun k hk _ => hb.block k hk⟩ (fun r e => by cases e)
/-- an entry, as the iterator hands it on -/
def enE (L : List En) (x : Fin L.length) : Array Value := #[.int .i64 ((x.1 : Nat) : Int), enG (L[x.1]'x.2)]
theorem finTake_succ (n k : Nat) (h : k < n) : (List.finRange n).take (k + 1) = (List.finRange n).take k ++ [⟨k, h⟩] := by
  rw [List.take_succ_eq_append_getElem (by simpa using h)]
  simp

theorem summed_any (A A' : Option Addr) (n c m c' : Nat) (w : World) :
    Calls Tryd.prog 36 #[.slice A n c, .slice A' m c'] w fun e w' => e = .returned (.func (.func 47) #[] #[.pointer (some ⟨w.heap.size, 0, none⟩), .pointer (some ⟨w.heap.size + 1, 0, none⟩)]) ∧ w' = (w.alloc (.cells #[.slice A n c] 22)).alloc (.cells #[.slice A' m c'] 39) := by
  go_enter Tryd.func36, Tryd.ntmps36
  go_wp2
  go_ret
  exact ⟨rfl, rfl⟩

set_option maxRecDepth 100000 in
set_option maxHeartbeats 2000000 in
theorem summed1_in (d l0 B1 B2 n₀ : Nat) (A A' : Option Addr) (n c c' : Nat) (l L : List En) (ps : List Part) (J Jx : List (Fin L.length) → World → Prop) (W : World) (hd : 1 ≤ d)
    (hln : l.length = n) (hpn : ps.length = n) (hLn : L.length = n) (hn : n ≤ 9223372036854775807) (hL : ∀ (k : Nat) (y : En) (p : Part), l[k]? = some y → ps[k]? = some p → L[k]? = some { y with sum := sumN p.2.2 })
    (hJ : AbidesFrom W.heap.size J)
    (hY : ∀ pre x W1, J pre W1 → pre.length < n → YieldAt Fence.wide (d - 1) Tryd.prog l0 (enE L x) W1 fun e W' =>
      (e = .returned (.bool true) ∧ J (pre ++ [x]) W' ∧ KeepB n₀ B2 W1 W') ∨ (e = .returned (.bool false) ∧ Jx (pre ++ [x]) W'))
    (hB1 : W.cell? ⟨B1, 0, none⟩ = some (.slice A n c)) (hB2 : W.heap[B2]? = some (.cells #[.slice A' n c'] 39 (0, 0)))
    (hn₀ : n₀ ≤ W.heap.size) (hr : Rd W n₀ A (ensV l)) (hp : PartsIn W n₀ A' ps) (hT : Tab W) (hg : 0 < n₀) (h0 : J [] W) :
    CallsIn Fence.wide d Tryd.prog 47 #[.func (.yield l0) #[] #[], .pointer (some ⟨B1, 0, none⟩), .pointer (some ⟨B2, 0, none⟩)] W fun e W' => (∃ v, e = .returned v) ∧
      ((∃ xs, xs = List.finRange L.length ∧ J xs W') ∨ (∃ pre, True ∧ Jx pre W')) := by
  have HLN := Lib.hid hln
  have HPN := Lib.hid hpn
  have HLL := Lib.hid hLn
  have HL := Lib.hid hL
  have HJ := Lib.hid hJ
  have HY := Lib.hid hY
  have HB2 := Lib.hid hB2
  have HR := Lib.hid hr
  have HP := Lib.hid hp
  have HT := Lib.hid hT
  have H0 := Lib.hid h0
  clear hln hpn hLn hL hJ hY hB2 hr hp hT h0
  refine callsIn_of_wp Tryd.func47 rfl trivial ?_ rfl
  simp only [Tryd.ntmps47, List.size_toArray, List.length_cons, List.length_nil, Nat.reduceAdd, Nat.reduceSub, Array.replicate_succ, Array.replicate_zero, List.push_toArray, List.append_toArray, List.nil_append, List.cons_append]
  gi_wp2
  gi_loopw [8] (fun i wr => ∃ k : Nat, k ≤ n ∧ i = .int .i64 k ∧ Hid (J ((List.finRange L.length).take k) wr) ∧ Hid (Below n₀ W wr) ∧ Hid (Bk wr B2 39 #[.slice A' n c']) ∧ Hid (W.heap.size ≤ wr.heap.size)) (fun i _ => n - (intOf i).toNat)
  case atStart => exact ⟨0, Nat.zero_le _, rfl, H0.out, Below.refl _ _, HB2.out, Nat.le_refl _⟩
  case round =>
    obtain ⟨k, hk, rfl, HJk, HB, HK2, HZ⟩ := hrel
    clear hB1 HB2 H0
    by_cases hlt : k < n
    · obtain ⟨y, hy⟩ : ∃ y, l[k]? = some y := ⟨_, List.getElem?_eq_getElem (by have := HLN.out; omega)⟩
      obtain ⟨p, hp⟩ : ∃ p, ps[k]? = some p := ⟨_, List.getElem?_eq_getElem (by have := HPN.out; omega)⟩
      obtain ⟨b, o, rfl, hbB, hc⟩ := (HR.out.below HB.out).plain (by rw [ensV_length]; have := HLN.out; omega)
      obtain ⟨n0, n1, n2, n3⟩ := ensV_get l k y hy
      have c0 := hc _ _ n0
      have c1 := hc _ _ n1
      have c2 := hc _ _ n2
      have c3 := hc _ _ n3
      rw [← Nat.add_assoc] at c1 c2 c3
      obtain ⟨hpr, hpp⟩ := HP.out
      obtain ⟨b', o', rfl, hb'B, -⟩ := hpr.plain (by simp; have := HPN.out; omega)
      obtain ⟨hp1, hp2, hp3⟩ := hpp p (List.mem_of_getElem? hp)
      have HY1 := Lib.hid hy
      have HP1 := Lib.hid hp
      have HPR := Lib.hid hp1
      have HPL := Lib.hid hp2
      have HPC := Lib.hid hp3
      obtain ⟨y1, y2, y3, y4⟩ := y
      obtain ⟨pa, pc, pb⟩ := p
      simp only at c0 c1 c2 c3
      have K3 := Bk.new wr 60 #[.int .i64 y1, .int .i64 y2, .int .i64 y3, .int .u32 (y4 : Int)]
      obtain ⟨e0, e1, e2, e3, f0, f1, f2, f3⟩ := ent_cells K3
      have HB3 := Lib.hid (HB.out.alloc (by have := HZ.out; omega) (.cells #[.int .i64 y1, .int .i64 y2, .int .i64 y3, .int .u32 (y4 : Int)] 60))
      obtain ⟨ad, he, _, d0⟩ := (hpr.below HB3.out) k (partV (pa, pc, pb)) (by simp [HP1.out])
      cases he
      rw [add_plain] at d0
      unfold partV at d0
      simp only at d0
      have k2 := (HK2.out.alloc (.cells #[.int .i64 y1, .int .i64 y2, .int .i64 y3, .int .u32 (y4 : Int)] 60)).cell 0
      clear hc n0 n1 n2 n3 hy hp hpr hpp hp1 hp2 hp3
      gi_wp2_with fail
      have K4 := Lib.hid ((Bk.new wr 60 #[.int .i64 y1, .int .i64 y2, .int .i64 y3, .int .u32 (y4 : Int)]).alloc (.cells #[.slice pa pb.length pc] 26))
      have HB4 := Lib.hid (HB3.out.alloc (by have := HB3.out.size; have := HZ.out; omega) (.cells #[.slice pa pb.length pc] 26))
      have HW4 : Hid (Below wr.heap.size wr ((wr.alloc (.cells #[.int .i64 y1, .int .i64 y2, .int .i64 y3, .int .u32 (y4 : Int)] 60)).alloc (.cells #[.slice pa pb.length pc] 26))) := ((Below.refl _ _).alloc (Nat.le_refl _) _).alloc (by simp) _
      have hr0 := Rd.new (wr.alloc (.cells #[.int .i64 y1, .int .i64 y2, .int .i64 y3, .int .u32 (y4 : Int)] 60)) 26 #[.slice pa pb.length pc] (0, 0)
      rw [World.alloc_size'] at hr0
      obtain ⟨w4, hw4⟩ : ∃ w4, (wr.alloc (.cells #[.int .i64 y1, .int .i64 y2, .int .i64 y3, .int .u32 (y4 : Int)] 60)).alloc (.cells #[.slice pa pb.length pc] 26) = w4 := ⟨_, rfl⟩
      have hz4 : w4.heap.size = wr.heap.size + 1 + 1 := by rw [← hw4]; simp
      rw [hw4] at K4 HB4 HW4 hr0 ⊢
      obtain ⟨sm, hsm⟩ : ∃ sm, sumN pb = sm := ⟨_, rfl⟩
      have HSM := Lib.hid hsm
      have hS := Sum_one w4.heap.size _ pa 1 pc pb.length sm pb w4 rfl hsm (by have h1 : pb.length ≤ pc := HPL.out; have h2 : pc ≤ maxLen := HPC.out; unfold maxLen at h2; omega) (hr0.mono (by omega)) ((HPR.out.below HB4.out).mono (by have := HZ.out; omega)) (HT.out.below HB4.out hg)
      refine ⟨trivial, (callsIn_wide.2 hS).mono ?_⟩
      rintro e w5 ⟨rfl, rfl⟩
      obtain ⟨e0, e1, e2, e3, f0, f1, f2, f3⟩ := ent_cells K4.out
      have K5 := Lib.hid (ent3 K4.out (.int .u32 (sm : Int)))
      obtain ⟨g0, g1, g2, g3, -⟩ := ent_cells K5.out
      have HW5 := Lib.hid (HW4.out.setCell (p := ⟨wr.heap.size, 3, none⟩) (Nat.le_refl _) (.int .u32 (sm : Int)))
      have hx : L[k]? = some ⟨y1, y2, y3, sm⟩ := by rw [HL.out k _ _ HY1.out HP1.out, ← hsm]
      have hkL : k < L.length := (List.getElem?_eq_some_iff.1 hx).1
      have hx' : L[k]'hkL = ⟨y1, y2, y3, sm⟩ := (List.getElem?_eq_some_iff.1 hx).2
      obtain ⟨fn, tmps, assign, body, hy, hR⟩ := HY.out _ ⟨k, hkL⟩ _ (AbidesFrom.up (B := W.heap.size) HJ.out HJk.out HW5.out) (by rw [List.length_take]; omega)
      simp only [enE, enG, hx'] at hy
      clear hr0 hw4 hS hsm hx c0 c1 c2 c3 d0 K3 HPR k2
      gi_wp2_with fail
      refine hR.mono ?_
      rintro e W3 (⟨rfl, hJ3, hk3⟩ | ⟨rfl, hJx3⟩)
      · have HR3 : Hid (J ((List.finRange L.length).take (k + 1)) W3 ∧ Below n₀ W W3 ∧ Bk W3 B2 39 #[.slice (some ⟨b', o', none⟩) n c'] ∧ W.heap.size ≤ W3.heap.size) :=
          ⟨by rw [finTake_succ _ _ hkL]; exact hJ3, (HB4.out.setCell (p := ⟨wr.heap.size, 3, none⟩) (by have := HZ.out; show n₀ ≤ wr.heap.size; omega) _).trans hk3.1, hk3.2.trans (HK2.out.below HW5.out HK2.out.lt), by have h1 := HZ.out; have h2 := HW5.out.size; have h3 := hk3.1.size; omega⟩
        clear hJ3 hk3 hy e0 e1 e2 e3 f0 f1 f2 f3 g0 g1 g2 g3 hx' hR
        gi_wp2
        go_roundw
        case rel => exact ⟨k + 1, by omega, by go_num, HR3.out.1, HR3.out.2.1, HR3.out.2.2.1, HR3.out.2.2.2⟩
        case measure => simp [intOf]; omega
      · gi_wp2
        refine bodyPost_ret (results_none rfl _ _ _) rfl ?_
        exact ⟨⟨_, rfl⟩, .inr ⟨_, trivial, hJx3⟩⟩
    · obtain rfl : k = n := by omega
      gi_wp2
      go_end0
      exact ⟨⟨_, rfl⟩, .inl ⟨_, rfl, by have h := HJk.out; rwa [List.take_of_length_le (by simp; have := HLL.out; omega)] at h⟩⟩

theorem summed_stops (d B1 B2 n₀ : Nat) (A A' : Option Addr) (n c c' : Nat) (l L : List En) (ps : List Part) (w : World) (hd : 1 ≤ d)
    (hln : l.length = n) (hpn : ps.length = n) (hLn : L.length = n) (hn : n ≤ 9223372036854775807) (hL : ∀ (k : Nat) (y : En) (p : Part), l[k]? = some y → ps[k]? = some p → L[k]? = some { y with sum := sumN p.2.2 })
    (hB1 : Bk w B1 22 #[.slice A n c]) (hB2 : Bk w B2 39 #[.slice A' n c'])
    (hn₀ : n₀ ≤ w.heap.size) (hr : Rd w n₀ A (ensV l)) (hp : PartsIn w n₀ A' ps) (hT : Tab w) (hg : 0 < n₀) :
    SeqStopsK Fence.wide d Tryd.prog 47 #[.pointer (some ⟨B1, 0, none⟩), .pointer (some ⟨B2, 0, none⟩)] (enE L) (KeepB n₀ B2) (fun xs => xs = List.finRange L.length) (fun _ => True) n w := fun l0 J Jx W hW hJ hJx hY h0 =>
  summed1_in d l0 B1 B2 n₀ A A' n c c' l L ps J Jx W hd hln hpn hLn hn hL hJ hY ((hB1.below hW hB1.lt).cell 0) (hB2.below hW hB2.lt) (Nat.le_trans hn₀ hW.size) (hr.below (hW.mono hn₀)) ⟨hp.1.below (hW.mono hn₀), fun p hpp => ⟨(hp.2 p hpp).1.below (hW.mono hn₀), (hp.2 p hpp).2⟩⟩ (hT.up hW) hg h0
end Go.Proofs.YtjibjojnkieliaaDoor
