/-
  The pieces of a path one by one (the iterator of path.components); the condition for a name (the closure of path.Parse).
-/
import Derived.Test.YtlenfocdhchphaaRngMem
import Derived.Test.YtlenfocdhchphaaPthShelf
import Derived.Test.YtlenfocdhchphaaEntShelf
import Derived.Test.YtlenfocdhchphaaTitP4
namespace Go.Proofs.Ytlenfocdhchphaa
open Go.RowKit Go.Shelf
set_option linter.unusedVariables false
attribute [local go_sem] Oper.semAt_some

def ptF (L : List (List UInt8)) (x : Fin L.length) : Array Value := #[.string (str (L[x.1]'x.2))]
def sizeV : Value → Nat
  | .string s => s.size
  | _ => 0
def boolV : Value → Nat
  | .bool true => 1
  | _ => 0
/-- so many of the pieces, from the first on -/
def pickL (L : List (List UInt8)) (pre : List (Fin L.length)) : List (List UInt8) := pre.map fun k => L[k.1]'k.2
theorem pickL_snoc (L : List (List UInt8)) (pre : List (Fin L.length)) (k : Fin L.length) : pickL L (pre ++ [k]) = pickL L pre ++ [L[k.1]'k.2] := by simp [pickL]
theorem pickL_take (L : List (List UInt8)) (k : Nat) : pickL L ((List.finRange L.length).take k) = L.take k := by
  unfold pickL
  rw [List.map_take]
  congr 1
  apply List.ext_getElem (by simp)
  intro i h1 h2
  simp
theorem pickL_all (L : List (List UInt8)) : pickL L (List.finRange L.length) = L := by
  have := pickL_take L L.length
  rwa [List.take_of_length_le (by simp), List.take_of_length_le (Nat.le_refl _)] at this

theorem comps_any (S : ByteArray) (w : World) :
    Calls Try.prog 22 #[.string S] w fun e w' => e = .returned (.func (.func 32) #[] #[.pointer (some ⟨w.heap.size, 0, none⟩)]) ∧ w' = w.alloc (.cells #[.string S] 9) := by
  go_enter Try.func22, Try.ntmps22
  go_wp2
  go_ret
  exact ⟨rfl, rfl⟩

set_option maxRecDepth 100000 in
set_option maxHeartbeats 4000000 in
theorem comps1_in (d l0 B1 n₀ : Nat) (t : List UInt8) (L : List (List UInt8)) (J Jx : List (Fin L.length) → World → Prop) (W : World) (hd : 1 ≤ d)
    (ht : t.length ≤ 1000) (hL : cutS t = L)
    (hJ : AbidesFrom W.heap.size J)
    (hY : ∀ pre x W1, J pre W1 → pre.length < L.length → YieldAt Fence.wide (d - 1) Try.prog l0 (ptF L x) W1 fun e W' =>
      (e = .returned (.bool true) ∧ J (pre ++ [x]) W' ∧ Below n₀ W1 W') ∨ (e = .returned (.bool false) ∧ Jx (pre ++ [x]) W'))
    (hB1 : W.cell? ⟨B1, 0, none⟩ = some (.string (str (47 :: t)))) (h0 : J [] W) :
    CallsIn Fence.wide d Try.prog 32 #[.func (.yield l0) #[] #[], .pointer (some ⟨B1, 0, none⟩)] W fun e W' => (∃ v, e = .returned v) ∧
      ((∃ xs, xs = List.finRange L.length ∧ J xs W') ∨ (∃ pre, (∃ k, pre = (List.finRange L.length).take k) ∧ Jx pre W')) := by
  have HL := Lib.hid hL
  have HJ := Lib.hid hJ
  have HY := Lib.hid hY
  have H0 := Lib.hid h0
  have HTR := Lib.hid fun w' => trim_any t w'
  obtain ⟨S, hS⟩ : ∃ S, str (47 :: t) = S := ⟨_, rfl⟩
  rw [hS] at hB1 HTR
  clear hL hJ hY h0 hS
  refine callsIn_of_wp Try.func32 rfl trivial ?_ rfl
  simp only [Try.ntmps32, List.size_toArray, List.length_cons, List.length_nil, Nat.reduceAdd, Nat.reduceSub, Array.replicate_succ, Array.replicate_zero, List.push_toArray, List.append_toArray, List.nil_append, List.cons_append]
  gi_wp2_with fail
  refine ⟨trivial, (callsIn_wide.2 (HTR.out _)).mono ?_⟩
  rintro e w1 ⟨rfl, rfl⟩
  gi_wp2
  gi_loopw [3, 4, 5] (fun pa re fo wr => ∃ (k : Nat) (x : ByteArray) (u : List UInt8) (f : Bool), k ≤ L.length ∧ pa = .string x ∧ re = .string (str u) ∧ fo = .bool f ∧ u.length ≤ 1000 ∧ Hid (f = true → cutS u = L.drop k) ∧ Hid (f = false → k = L.length) ∧ Hid (J ((List.finRange L.length).take k) wr)) (fun _ re fo _ => sizeV re + boolV fo)
  case atStart => exact ⟨0, ⟨#[]⟩, t, true, Nat.zero_le _, rfl, rfl, rfl, ht, fun _ => (by rw [HL.out]; rfl), fun h => (by cases h), H0.out⟩
  case round =>
    obtain ⟨k, x, u, f, hk, rfl, rfl, rfl, hu, HF, HE, HJk⟩ := hrel
    clear hB1 H0
    cases f with
    | false =>
      have hkL := HE.out rfl
      subst hkL
      gi_wp2
      go_end0
      have h := HJk.out
      rw [List.take_of_length_le (by simp)] at h
      first | exact ⟨⟨_, rfl⟩, .inl ⟨_, rfl, h⟩⟩ | exact ⟨⟨_, rfl⟩, .inl h⟩
    | true =>
      have hcu := HF.out rfl
      rcases slash_cases u with hno | ⟨a, b, rfl, hno⟩
      · rw [cutS_none hno] at hcu
        have hkl : L.length = k + 1 := by have h := congrArg List.length hcu; rw [List.length_singleton, List.length_drop] at h; omega
        have hkL : k < L.length := by omega
        have hx' : L[k]'hkL = u := by
          have := List.getElem_cons_drop hkL
          rw [← hcu] at this
          injection this
        have HC := Lib.hid fun w' => cut_none u hno w'
        obtain ⟨S, hS⟩ : ∃ S, str u = S := ⟨_, rfl⟩
        rw [hS] at HC ⊢
        have HS := Lib.hid hS
        have HX := Lib.hid hx'
        clear hcu hno hx' hS
        gi_wp2_with fail
        refine ⟨trivial, (callsIn_wide.2 (HC.out _)).mono ?_⟩
        rintro e w5 ⟨rfl, hb5⟩
        obtain ⟨fn, tmps, assign, body, hy, hR⟩ := HY.out _ ⟨k, hkL⟩ _ (abides_up (B := W.heap.size) HJ.out HJk.out hb5) (by rw [List.length_take]; omega)
        simp only [ptF, HX.out, HS.out] at hy
        clear hb5
        gi_wp2_with fail
        refine hR.mono ?_
        rintro e W3 (⟨rfl, hJ3, hk3⟩ | ⟨rfl, hJx3⟩)
        · have HR3 : Hid (J ((List.finRange L.length).take (k + 1)) W3) := by show J _ _; rw [fin_take_succ _ _ hkL]; exact hJ3
          clear hJ3 hk3 hy hR
          gi_wp2
          go_roundw
          case rel => exact ⟨k + 1, _, [], false, by omega, rfl, rfl, rfl, by simp, fun h => (by cases h), fun _ => hkl.symm, HR3⟩
          case measure => exact Nat.succ_le_succ (Nat.zero_le S.size)
        · gi_wp2
          refine bodyPost_ret (results_none rfl _ _ _) rfl ?_
          exact ⟨⟨_, rfl⟩, .inr ⟨_, ⟨k + 1, (fin_take_succ _ _ hkL).symm⟩, hJx3⟩⟩
      · rw [cutS_at b hno] at hcu
        have hkl : k < L.length := by have h := congrArg List.length hcu; rw [List.length_cons, List.length_drop] at h; omega
        have hx' : L[k]'hkl = a ∧ cutS b = L.drop (k + 1) := by
          have := List.getElem_cons_drop hkl
          rw [← hcu] at this
          injection this with h1 h2
          exact ⟨h1, h2.symm⟩
        simp only [List.length_append, List.length_cons] at hu
        have HC := Lib.hid fun w' => cut_at a b hno (by omega) w'
        have hszb : (str b).size = b.length := str_size _
        have hsz : (str (a ++ 47 :: b)).size = a.length + (b.length + 1) := by rw [str_size, List.length_append, List.length_cons]
        obtain ⟨S, hS⟩ : ∃ S, str (a ++ 47 :: b) = S := ⟨_, rfl⟩
        obtain ⟨SA, hSA⟩ : ∃ S, str a = S := ⟨_, rfl⟩
        obtain ⟨SB, hSB⟩ : ∃ S, str b = S := ⟨_, rfl⟩
        have HSZ : Hid (SB.size < S.size) := by show _ < _; rw [← hS, ← hSB, hszb, hsz]; omega
        rw [hS, hSA, hSB] at HC
        rw [hS]
        have HS := Lib.hid hSA
        have HSB := Lib.hid hSB
        have HX := Lib.hid hx'
        clear hcu hno hx' hS hSA hSB hsz hszb
        gi_wp2_with fail
        refine ⟨trivial, (callsIn_wide.2 (HC.out _)).mono ?_⟩
        rintro e w5 ⟨rfl, hb5⟩
        obtain ⟨fn, tmps, assign, body, hy, hR⟩ := HY.out _ ⟨k, hkl⟩ _ (abides_up (B := W.heap.size) HJ.out HJk.out hb5) (by rw [List.length_take]; omega)
        simp only [ptF, HX.out.1, HS.out] at hy
        clear hb5
        gi_wp2_with fail
        refine hR.mono ?_
        rintro e W3 (⟨rfl, hJ3, hk3⟩ | ⟨rfl, hJx3⟩)
        · have HR3 : Hid (J ((List.finRange L.length).take (k + 1)) W3) := by show J _ _; rw [fin_take_succ _ _ hkl]; exact hJ3
          clear hJ3 hk3 hy hR
          gi_wp2
          go_roundw
          case rel => exact ⟨k + 1, _, b, true, by omega, rfl, by rw [HSB.out], rfl, by omega, fun _ => HX.out.2, fun h => (by cases h), HR3⟩
          case measure => have := HSZ.out; simp [sizeV, boolV]; omega
        · gi_wp2
          refine bodyPost_ret (results_none rfl _ _ _) rfl ?_
          exact ⟨⟨_, rfl⟩, .inr ⟨_, ⟨k + 1, (fin_take_succ _ _ hkl).symm⟩, hJx3⟩⟩
theorem comps_stops (d B1 n₀ : Nat) (t : List UInt8) (L : List (List UInt8)) (w : World) (hd : 1 ≤ d) (ht : t.length ≤ 1000) (hL : cutS t = L)
    (hB1 : Bk w B1 9 #[.string (str (47 :: t))]) :
    SeqStopsK Fence.wide d Try.prog 32 #[.pointer (some ⟨B1, 0, none⟩)] (ptF L) (Below n₀) (fun xs => xs = List.finRange L.length) (fun pre => ∃ k, pre = (List.finRange L.length).take k) L.length w := fun l0 J Jx W hW hJ hJx hY h0 =>
  comps1_in d l0 B1 n₀ t L J Jx W hd ht hL hJ hY ((hB1.below hW hB1.lt).cell 0) h0

/-- the condition for a name -/
theorem check_any (x : List UInt8) (b : Nat) (A : Option Addr) (n c : Nat) (q : Int) (w : World) (hx : x.length ≤ 1000) (hn : n ≤ 8) (hb : Bk w b 23 #[.slice A n c]) (hq : q = if isT x = false then 11 else if 8 ≤ n then 16 else 0) :
    Calls Try.prog 20 #[.string (str x), .pointer (some ⟨b, 0, none⟩)] w fun e w' => e = .returned (.int .i64 q) ∧ Below w.heap.size w w' := by
  have HI := Lib.hid fun w' => is_any x w' (by omega)
  have HK := Lib.hid hb
  have HQ := Lib.hid hq
  obtain ⟨S, hS⟩ : ∃ S, str x = S := ⟨_, rfl⟩
  obtain ⟨t, ht⟩ : ∃ t, isT x = t := ⟨_, rfl⟩
  rw [hS, ht] at HI
  rw [ht] at HQ
  rw [hS]
  clear hS ht hb hq
  go_enter Try.func20, Try.ntmps20
  go_wp2_with fail
  refine (HI.out _).mono ?_
  rintro e w1 ⟨rfl, hb⟩
  have HB := Lib.hid hb
  have c0 := (HK.out.below hb HK.out.lt).cell 0
  clear hb
  cases t with
  | false =>
    have hq := HQ.out
    rw [if_pos rfl] at hq
    subst hq
    go_wp2
    go_ret
    exact ⟨rfl, HB.out⟩
  | true =>
    have hq := HQ.out
    rw [if_neg (by decide)] at hq
    by_cases h8 : n = 8
    · rw [if_pos (by omega)] at hq
      subst hq h8
      go_wp2
      go_ret
      exact ⟨rfl, HB.out⟩
    · rw [if_neg (by omega)] at hq
      subst hq
      have hne : ((n : Int) == 8) = false := beq_false_of_ne (by omega)
      go_wp2
      go_ret
      exact ⟨rfl, HB.out⟩
end Go.Proofs.Ytlenfocdhchphaa
