/-
  What within, May, number, flag, pair of package summary do, one contract each.
-/
import Derived.Test.YtjibjojnkieliaaDoorSumMem
import Derived.Test.YtjibjojnkieliaaDoorPack2
import Derived.Test.YtjibjojnkieliaaDoorCrc
namespace Go.Proofs.YtjibjojnkieliaaDoor
open Go.RowKit
set_option linter.unusedVariables false

theorem sumwithin_any (n a b : Int) (t : Bool) (w : World) (ht : decide (a ≤ n ∧ n ≤ b) = t) :
    Calls Tryd.prog 26 #[.int .i64 n, .int .i64 a, .int .i64 b] w fun e w' => e = .returned (.bool t) ∧ w = w' := by
  by_cases h1 : a ≤ n
  · have h2 : decide (n ≤ b) = t := by rw [← ht]; simp [h1]
    clear ht
    go_enter Tryd.func26, Tryd.ntmps26
    go_wp2
    go_ret
    exact ⟨rfl, rfl⟩
  · have h2 : t = false := by rw [← ht]; simp [h1]
    have h3 : n < a := by omega
    subst h2
    clear ht h1
    go_enter Tryd.func26, Tryd.ntmps26
    go_wp2
    go_ret
    exact ⟨rfl, rfl⟩

theorem sumflag_any (b : Bool) (w : World) : Calls Tryd.prog 23 #[.bool b] w fun e w' => e = .returned (.int .i64 (finN b : Int)) ∧ w = w' := by
  cases b
  all_goals
    go_enter Tryd.func23, Tryd.ntmps23
    go_wp2
    go_ret
    exact ⟨rfl, rfl⟩

theorem sum_cells2 {w : World} {g : Nat} {t : TypeId} {u v : Value} (h : Bk w g t #[u, v]) : w.cell? ⟨g, 0, none⟩ = some u ∧ w.cell? ⟨g, 1, none⟩ = some v ∧ w.frozen? ⟨g, 0, none⟩ = false ∧ w.frozen? ⟨g, 1, none⟩ = false := ⟨h.cell 0, h.cell 1, h.free 0, h.free 1⟩
theorem sum_puts2 {w : World} {g : Nat} {t : TypeId} {x y : Value} (h : Bk w g t #[x, y]) (u v : Value) : (w.setCell ⟨g, 0, none⟩ u).cell? ⟨g, 0, none⟩ = some u ∧ ((w.setCell ⟨g, 0, none⟩ u).setCell ⟨g, 1, none⟩ v).cell? ⟨g, 0, none⟩ = some u ∧ ((w.setCell ⟨g, 0, none⟩ u).setCell ⟨g, 1, none⟩ v).cell? ⟨g, 1, none⟩ = some v
    ∧ Bk ((w.setCell ⟨g, 0, none⟩ u).setCell ⟨g, 1, none⟩ v) g t #[u, v] :=
  ⟨(h.set_ 0 u).cell 0, ((h.set_ 0 u).set_ 1 v).cell 0, ((h.set_ 0 u).set_ 1 v).cell 1, (h.set_ 0 u).set_ 1 v⟩

theorem sumNumber_any (n v : Int) (w : World) (h0 : 0 ≤ v) (h1 : v ≤ 9223372036854775807) :
    Calls Tryd.prog 22 #[.int .i64 n, .int .i64 v] w fun e w' => e = .returned (.agg #[.int .i64 n, .int .u64 v]) ∧ Below w.heap.size w w' := by
  have K0 := Bk.new w 55 #[.int .i64 0, .int .u64 0]
  obtain ⟨k0, k1, f0, f1⟩ := sum_cells2 K0
  obtain ⟨p0, p1, p2, _⟩ := sum_puts2 K0 (.int .i64 n) (.int .u64 v)
  go_enter Tryd.func22, Tryd.ntmps22
  go_wp2
  refine bodyPost_ret (v := .agg #[.int .i64 n, .int .u64 v]) (by simp [results, Tryd.results22, go_sem]) rfl ⟨rfl, ?_⟩
  exact (Below.refl _ _).alloc (Nat.le_refl _) _

/-- blocks as parts: each has 128 octets -/
def all128 (ps : List Part) : Bool := ps.all fun p => decide (p.2.2.length = 128)
theorem all128_at {ps : List Part} {k : Nat} {p : Part} (hk : ps[k]? = some p) (h : p.2.2.length ≠ 128) : all128 ps = false := by
  cases hb : all128 ps with
  | false => rfl
  | true =>
    rw [all128, List.all_eq_true] at hb
    have := hb p (List.mem_of_getElem? hk)
    simp at this
    exact absurd this h
theorem all128_mk {ps : List Part} (h : ∀ (k : Nat) (p : Part), ps[k]? = some p → p.2.2.length = 128) : all128 ps = true := by
  rw [all128, List.all_eq_true]
  intro p hp
  obtain ⟨k, hk, rfl⟩ := List.mem_iff_getElem.1 hp
  simpa using h k _ (List.getElem?_eq_getElem hk)

set_option maxHeartbeats 400000 in
theorem sumpair_any (B : Nat) (A A' : Option Addr) (n c m c' : Nat) (ps : List Part) (t : Bool) (w : World) (hm : ps.length = m) (hn : n ≤ 9223372036854775807) (hmm : m ≤ 9223372036854775807) (hr : Rd w B A' (ps.map partV)) (hlen : ∀ p ∈ ps, p.2.2.length ≤ 9223372036854775807) (ht : (decide (n = m) && all128 ps) = t) :
    Calls Tryd.prog 35 #[.slice A n c, .slice A' m c'] w fun e w' => e = .returned (.bool t) ∧ w = w' := by
  have HM := Lib.hid hm
  by_cases h : n = m
  · have HT : Hid (all128 ps = t) := by show _ = _; rw [← ht]; simp [h]
    subst h
    clear ht hm
    go_enter Tryd.func35, Tryd.ntmps35
    go_wp2
    go_loop [14] (fun i => ∃ k : Nat, k ≤ n ∧ i = .int .i64 k ∧ ∀ j p, j < k → ps[j]? = some p → p.2.2.length = 128) (fun i => n - (intOf i).toNat)
    case atStart => exact ⟨0, Nat.zero_le _, rfl, fun j p h => absurd h (by omega)⟩
    case round =>
      obtain ⟨k, hk, rfl, hall⟩ := hrel
      by_cases hlt : k < n
      · obtain ⟨p, hp⟩ : ∃ p, ps[k]? = some p := ⟨_, List.getElem?_eq_getElem (by have := HM.out; omega)⟩
        obtain ⟨ad, rfl, _, hc⟩ := hr k (partV p) (by simp [hp])
        have hlp := hlen p (List.mem_of_getElem? hp)
        have HALL := Lib.hid hall
        have HP := Lib.hid hp
        unfold partV at hc
        obtain ⟨z, hz⟩ : ∃ z, p.2.2.length = z := ⟨_, rfl⟩
        rw [hz] at hc hlp
        have HZ := Lib.hid hz
        clear hall hp hz hr hlen
        by_cases hz : z = 128
        · subst hz
          go_wp2
          go_round
          case rel =>
            refine ⟨k + 1, by omega, by go_num, fun j q hj hq => ?_⟩
            by_cases e : j = k
            · subst e; rw [HP.out] at hq; cases hq; exact HZ.out
            · exact HALL.out j q (by omega) hq
          case measure => simp [intOf]; omega
        · have hne : ((z : Int) == 128) = false := by simp; omega
          have HF : Hid (t = false) := by show _ = _; rw [← HT.out]; exact all128_at HP.out (by rw [HZ.out]; exact hz)
          clear HALL
          go_wp2
          go_ret
          exact ⟨ret_bool HF.out.symm, rfl⟩
      · have HF : Hid (t = true) := by
          show _ = _
          rw [← HT.out]
          exact all128_mk fun j p hj => hall j p (by have := (List.getElem?_eq_some_iff.1 hj).1; have := HM.out; omega) hj
        clear hall hr hlen
        go_wp2
        go_ret
        exact ⟨ret_bool HF.out.symm, rfl⟩
  · have hf : t = false := by rw [← ht]; simp [h]
    subst hf
    have hne : ((n : Int) == (m : Int)) = false := by simp; omega
    clear ht hr hlen
    go_enter Tryd.func35, Tryd.ntmps35
    go_wp2
    go_ret
    exact ⟨rfl, rfl⟩
end Go.Proofs.YtjibjojnkieliaaDoor
