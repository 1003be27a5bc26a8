/-
  Behind a flush that was done a crash loses nothing; each octet behind a crash is what some write of its block says there, or what it had.
-/
import Derived.Test.YtpjdnbmeedcafaaDevLaw
import Derived.Test.YtpjdnbmeedcafaaRows
namespace Go.Proofs.Ytpjdnbmeedcafaa.devKeeps
open Go.ChangeShapes Go.WideShapes Go.ChangeAt Go.RowKit
set_option linter.unusedVariables false

/-- what waits came of the first k of these acts -/
def From (l : List Act') (k : Nat) (P : List (Nat × List UInt8)) : Prop := ∀ p ∈ P, ∃ a ∈ l.take k, a.i = (p.1 : Int) ∧ p.2 = allOf a.c
theorem From.act {l : List Act'} {k : Nat} {D : Dv} (h : From l k D.pend) (hc : Calm D) (hf : ∀ i, D.flt i = 0) {a : Act'} (ha : l[k]? = some a) : From l (k + 1) (actW D a.i a.c).pend ∧ (actW D a.i a.c).has = D.has := by
  have ht : l.take (k + 1) = l.take k ++ [a] := by rw [List.take_add_one, ha]; rfl
  have hup : From l (k + 1) D.pend := fun p hp => by
    obtain ⟨b, hb, h1, h2⟩ := h p hp
    exact ⟨b, by rw [ht]; simp [hb], h1, h2⟩
  unfold actW
  by_cases hi : inN D.n a.i = true
  · rw [if_pos hi, hc.writeD (hf _)]
    obtain ⟨h0, _⟩ := inN_yes hi
    refine ⟨fun p hp => ?_, rfl⟩
    rcases List.mem_append.1 hp with hp | hp
    · exact hup p hp
    · rw [List.mem_singleton] at hp
      subst hp
      exact ⟨a, by rw [ht]; simp, by show a.i = ((a.i.toNat : Nat) : Int); omega, rfl⟩
  · rw [if_neg hi]
    exact ⟨hup, rfl⟩
/-- an octet behind a crash -/
theorem execX_octet (P : List (Nat × List UInt8)) (dn : Nat → Nat) (hdn : ∀ k, dn k ≤ 128) (H : Nat → List UInt8) (hP : ∀ p ∈ P, p.2.length = 128) (hH : ∀ i, (H i).length = 128) (i x : Nat) : ∀ k, (execX P dn H k i)[x]? = (H i)[x]? ∨ ∃ p ∈ P, p.1 = i ∧ (execX P dn H k i)[x]? = p.2[x]?
  | 0 => .inl rfl
  | k + 1 => by
    rw [execX]
    cases hp : P[k]? with
    | none => exact execX_octet P dn hdn H hP hH i x k
    | some p =>
      have hm := List.mem_of_getElem? hp
      by_cases e : p.1 = i
      · simp only
        rw [e, upd_at (execX_length hP hH k) i p.2 (hP p hm) (dn k) (hdn k) x]
        by_cases h : x < dn k
        · rw [if_pos h]; exact .inr ⟨p, hm, e, rfl⟩
        · rw [if_neg h]; exact execX_octet P dn hdn H hP hH i x k
      · simp only
        rw [upd_other _ _ (fun h => e h.symm)]
        exact execX_octet P dn hdn H hP hH i x k
theorem execX_none (P : List (Nat × List UInt8)) (H : Nat → List UInt8) (hH : ∀ i, (H i).length = 128) : ∀ k i, execX P (farN []) H k i = H i
  | 0, i => rfl
  | k + 1, i => by
    rw [execX]
    cases hp : P[k]? with
    | none => exact execX_none P H hH k i
    | some p =>
      have e : farN [] k = 0 := rfl
      simp only [e, List.take_zero]
      by_cases h : i = p.1
      · subst h; rw [upd_same]; exact execX_none P H hH k _
      · rw [upd_other _ _ h]; exact execX_none P H hH k i

/-- does one of these acts say that octet? -/
def says (l : List Act') (i : Nat) (x : UInt8) (j : Nat) : Bool := (l.take j).any fun a => (a.i == (i : Int)) && (x == a.c)
theorem says_succ {l : List Act'} {j : Nat} {a : Act'} (h : l[j]? = some a) (i : Nat) (x : UInt8) : says l i x (j + 1) = (says l i x j || ((a.i == (i : Int)) && (x == a.c))) := by
  unfold says; rw [List.take_add_one, h]; simp

/-- the texts of the first k blocks -/
def texts (H : Nat → List UInt8) (k : Nat) : List Value := (List.range k).map fun i => .string (str (H i))
theorem texts_succ (H : Nat → List UInt8) (k : Nat) : texts H (k + 1) = texts H k ++ [.string (str (H k))] := by unfold texts; rw [List.range_succ, List.map_append]; rfl
theorem texts_at (H : Nat → List UInt8) (k i : Nat) (h : i < k) : (texts H k)[i]? = some (.string (str (H i))) := by unfold texts; simp [h]
theorem info_str : (Try.prog.info? 9).map (fun i => (i.zero, i.size, i.bytes)) = some (some (.string ByteArray.empty), 1, 16) := by kernel_rfl

/-- a row of the call's own is none of the device's, and stays -/
theorem own_turn {base sb bb mb : Nat} {pv pv' : Value} {w w' : World} {D D' : Dv} {b0 n : Nat} {v : Value} {xs : List Value} (h : w.ownsRow b0 9 1 v n xs) (hd : DevAt w base sb bb mb pv D) (ht : Turn base sb bb mb w pv w' pv' D') : w'.ownsRow b0 9 1 v n xs :=
  own_keep h fun k hk => by
    obtain ⟨_, hlt, cs, hb⟩ := own_lt h hk
    exact ht.fr.kept k hlt (hd.off hb (by decide) (by decide) (by decide))
theorem own_below {w w' : World} {b0 n : Nat} {v : Value} {xs : List Value} (h : w.ownsRow b0 9 1 v n xs) (hb : Below w.heap.size w w') : w'.ownsRow b0 9 1 v n xs :=
  own_keep h fun k hk => hb.block k (own_lt h hk).2.1
end Go.Proofs.Ytpjdnbmeedcafaa.devKeeps
