/-
  Has and Read: what the blocks themselves have, and what is read.
-/
import Derived.Test.YtpjdnbmeedcafaaDev2
import Derived.Deep.MidRow
import Derived.Deep.DeepMust
namespace Go.Proofs.Ytpjdnbmeedcafaa
open Go.RowKit Go.Maps
set_option linter.unusedVariables false

theorem DevAt.range {w : World} {base sb bb mb : Nat} {pv : Value} {D : Dv} (h : DevAt w base sb bb mb pv D) (k : Nat) (hk : k < D.n) : w.rangeAt bb (k * 128) ((D.has k).map bv) := by
  obtain ⟨C, hC, hC'⟩ := h.blk
  intro j v hv
  rw [hC.cell]
  exact hC'.2 k hk j v hv

theorem under_block : Try.prog.underlying 67 = some (.array 128 5) := by kernel_rfl
theorem size_block {cs : List Value} (hl : cs.length = 128) : (Try.prog.info? 67).map (·.size) = some cs.length := by rw [hl]; exact info_block

/-- what New, Has and Read hand out: octets in a block of their own -/
def outs (bs : List UInt8) : Obj := .cells (bs.map bv).toArray 67

set_option maxRecDepth 100000 in
theorem Has_yes {base sb bb mb : Nat} {pv : Value} {D : Dv} (k : Nat) (w : World) (h : DevAt w base sb bb mb pv D) (hk : k < D.n) :
    Calls Try.prog 28 #[.pointer (some ⟨sb, 0, none⟩), .int .i64 k] w fun e w' => e = .returned (.tuple #[.slice (some ⟨w.heap.size, 0, none⟩) 128 128, .int .i64 0]) ∧ w' = w.alloc (outs (D.has k)) := by
  have HD := Lib.hid h
  have HT := Lib.hid (show inN D.n k = true by simp [inN]; omega)
  have h0 := h.c0
  have hn2 := h.ok.n2
  have hlen := h.ok.has k
  have HR := Lib.hid (h.range k hk)
  have HS := Lib.hid (size_block (cs := (D.has k).map bv) (by rw [List.length_map, hlen]))
  have HB := Lib.hid (fun w' => bytes_any ((D.has k).map bv).toArray (by simp [hlen]) w')
  clear h hlen
  go_enter Try.func28, Try.ntmps28
  go_wp2_with fail
  refine (isBlock_any _ true _ HD.out HT.out).mono ?_
  rintro e w1 ⟨rfl, rfl⟩
  go_wp2_with ((with_reducible show wpList _ _ _ (⟨some 16, _, _, _, _, _⟩ :: _) _ _); go_must (refine wpList_load_mid rfl 67 (.tmp 15) rfl bb (k * 128) rfl _ (.array 128 5) HR.out under_block rfl HS.out ?_))
  refine (HB.out _).mono ?_
  rintro e w1 ⟨rfl, rfl⟩
  go_wp2
  go_ret2
  exact ⟨rfl, rfl⟩
theorem Has_no {base sb bb mb : Nat} {pv : Value} {D : Dv} (i : Int) (w : World) (h : DevAt w base sb bb mb pv D) (hi : inN D.n i = false) :
    Calls Try.prog 28 #[.pointer (some ⟨sb, 0, none⟩), .int .i64 i] w fun e w' => e = .returned (.tuple #[.slice none 0 0, .int .i64 4]) ∧ w = w' := by
  have HD := Lib.hid h
  have HT := Lib.hid hi
  clear h hi
  go_enter Try.func28, Try.ntmps28
  go_wp2_with fail
  refine (isBlock_any _ false _ HD.out HT.out).mono ?_
  rintro e w1 ⟨rfl, rfl⟩
  go_wp2
  go_ret2
  exact ⟨rfl, rfl⟩

/-! ### Read -/
/-- the last one that is pending of block i -/
def lastAt (l : List (Nat × List UInt8)) (i : Nat) : Option (List UInt8) := l.foldl (fun r p => if p.1 = i then some p.2 else r) none
theorem lastAt_nil (i : Nat) : lastAt [] i = none := rfl
theorem lastAt_snoc (l : List (Nat × List UInt8)) (p : Nat × List UInt8) (i : Nat) : lastAt (l ++ [p]) i = if p.1 = i then some p.2 else lastAt l i := by simp [lastAt]
def rdOf (D : Dv) (i : Nat) : List UInt8 := (lastAt D.pend i).getD (D.has i)
theorem lastAt_mem {l : List (Nat × List UInt8)} {i : Nat} {b : List UInt8} (h : lastAt l i = some b) : (i, b) ∈ l := by
  have key : ∀ (l : List (Nat × List UInt8)) (r : Option (List UInt8)), l.foldl (fun r p => if p.1 = i then some p.2 else r) r = some b → (i, b) ∈ l ∨ r = some b := by
    intro l
    induction l with
    | nil => intro r h; exact .inr h
    | cons p l ih =>
      intro r h
      rcases ih _ h with h2 | h2
      · exact .inl (by simp [h2])
      · simp only at h2
        by_cases e : p.1 = i
        · rw [if_pos e] at h2
          injection h2 with h3
          obtain ⟨p1, p2⟩ := p
          simp only at e h3
          subst e; subst h3
          exact .inl (by simp)
        · rw [if_neg e] at h2
          exact .inr h2
  rcases key l none h with h | h
  · exact h
  · cases h
theorem rdOf_length {D : Dv} (h : D.Ok) (i : Nat) : (rdOf D i).length = 128 := by
  unfold rdOf
  cases hl : lastAt D.pend i with
  | none => exact h.has i
  | some b => exact (h.pend _ (lastAt_mem hl)).2

def readE (D : Dv) (i : Nat) : Int := if D.pow = false then 10 else if D.mnt = false ∨ incl (D.flt i) 1 = true then 9 else 0
theorem Read_no {base sb bb mb : Nat} {pv : Value} {D : Dv} (i : Int) (w : World) (h : DevAt w base sb bb mb pv D) (hi : inN D.n i = false) :
    Calls Try.prog 12 #[.pointer (some ⟨sb, 0, none⟩), .int .i64 i] w fun e w' => e = .returned (.tuple #[.slice none 0 0, .int .i64 4]) ∧ w = w' := by
  have HD := Lib.hid h
  have HT := Lib.hid hi
  clear h hi
  go_enter Try.func12, Try.ntmps12
  go_wp2_with fail
  refine (isBlock_any _ false _ HD.out HT.out).mono ?_
  rintro e w1 ⟨rfl, rfl⟩
  go_wp2
  go_ret2
  exact ⟨rfl, rfl⟩
theorem Read_off {base sb bb mb : Nat} {pv : Value} {D : Dv} (i : Nat) (w : World) (h : DevAt w base sb bb mb pv D) (hi : i < D.n) (he : readE D i ≠ 0) :
    Calls Try.prog 12 #[.pointer (some ⟨sb, 0, none⟩), .int .i64 i] w fun e w' => e = .returned (.tuple #[.slice none 0 0, .int .i64 (readE D i)]) ∧ w = w' := by
  have HD := Lib.hid h
  have HT := Lib.hid (show inN D.n i = true by simp [inN]; omega)
  have h4 := h.c4
  have h5 := h.c5
  have hn := h.ok.n2
  obtain ⟨p, hp⟩ : ∃ p, D.pow = p := ⟨_, rfl⟩
  obtain ⟨m, hm⟩ : ∃ m, D.mnt = m := ⟨_, rfl⟩
  obtain ⟨f, hf⟩ : ∃ f, incl (D.flt i) 1 = f := ⟨_, rfl⟩
  unfold readE at he ⊢
  rw [hp] at h4 he ⊢
  rw [hm] at h5 he ⊢
  rw [hf] at he ⊢
  have HF : Hid (∀ w', w = w' → Calls Try.prog 34 #[.pointer (some ⟨sb, 0, none⟩), .int .i64 i, .int .i64 1] w' fun e w'' => e = .returned (.bool f) ∧ w' = w'') := fun w' e => by
    subst e; rw [← hf]; exact faulty_any (i : Int) 1 w h (.inl rfl) (by omega) (by omega)
  clear h hp hm hf
  cases p
  · clear he
    go_enter Try.func12, Try.ntmps12
    go_wp2_with fail
    refine (isBlock_any _ true _ HD.out HT.out).mono ?_
    rintro e w1 ⟨rfl, rfl⟩
    go_wp2
    go_ret2
    exact ⟨rfl, rfl⟩
  · cases m
    · clear he
      go_enter Try.func12, Try.ntmps12
      go_wp2_with fail
      refine (isBlock_any _ true _ HD.out HT.out).mono ?_
      rintro e w1 ⟨rfl, rfl⟩
      go_wp2
      go_ret2
      exact ⟨rfl, rfl⟩
    · cases f
      · simp at he
      · clear he
        go_enter Try.func12, Try.ntmps12
        go_wp2_with fail
        refine (isBlock_any _ true _ HD.out HT.out).mono ?_
        rintro e w1 ⟨rfl, rfl⟩
        go_wp2_with fail
        refine (HF.out _ rfl).mono ?_
        rintro e w1 ⟨rfl, rfl⟩
        go_wp2
        go_ret2
        exact ⟨rfl, rfl⟩

set_option maxRecDepth 100000 in
theorem Read_yes {base sb bb mb : Nat} {pv : Value} {D : Dv} (i : Nat) (w : World) (h : DevAt w base sb bb mb pv D) (hi : i < D.n) (he : readE D i = 0) (hpl : D.pend.length ≤ 1000) :
    Calls Try.prog 12 #[.pointer (some ⟨sb, 0, none⟩), .int .i64 i] w fun e w' => e = .returned (.tuple #[.slice (some ⟨w.heap.size, 0, none⟩) 128 128, .int .i64 0]) ∧ w' = w.alloc (outs (rdOf D i)) := by
  have HD := Lib.hid h
  have HT := Lib.hid (show inN D.n i = true by simp [inN]; omega)
  have h0 := h.c0
  have h1 := h.c1
  have h4 := h.c4
  have h5 := h.c5
  have hn := h.ok.n2
  obtain ⟨p, hp⟩ : ∃ p, D.pow = p := ⟨_, rfl⟩
  obtain ⟨m, hm⟩ : ∃ m, D.mnt = m := ⟨_, rfl⟩
  obtain ⟨f, hf⟩ : ∃ f, incl (D.flt i) 1 = f := ⟨_, rfl⟩
  unfold readE at he
  rw [hp] at h4 he
  rw [hm] at h5 he
  rw [hf] at he
  have HF : Hid (∀ w', w = w' → Calls Try.prog 34 #[.pointer (some ⟨sb, 0, none⟩), .int .i64 i, .int .i64 1] w' fun e w'' => e = .returned (.bool f) ∧ w' = w'') := fun w' e => by
    subst e; rw [← hf]; exact faulty_any (i : Int) 1 w h (.inl rfl) (by omega) (by omega)
  obtain rfl : p = true := by cases p <;> simp at he ⊢
  obtain rfl : m = true := by cases m <;> simp at he ⊢
  obtain rfl : f = false := by cases f <;> simp at he ⊢
  clear hp hm hf he
  obtain ⟨A, cap, hpv, hc1, hc2⟩ := own_len h.pen
  have hrd := Rd.own (hpv ▸ h.pen)
  have HRD := Lib.hid hrd
  have HPL := Lib.hid (fun q hq => (h.ok.pend q hq).2 : ∀ q ∈ D.pend, q.2.length = 128)
  rw [hpv] at h1
  have HPV := Lib.hid hpv
  have HR := Lib.hid (h.range i hi)
  have HS := Lib.hid (size_block (cs := (D.has i).map bv) (by rw [List.length_map, h.ok.has]))
  have HB := Lib.hid (fun w' (b : List UInt8) (hb : b.length = 128) => bytes_any (b.map bv).toArray (by simp [hb]) w')
  have HHL := Lib.hid (h.ok.has i)
  clear h hpv hrd
  obtain ⟨m, hm⟩ : ∃ m, D.pend.length = m := ⟨_, rfl⟩
  rw [hm] at h1 hc1 hpl
  have HM := Lib.hid hm
  clear hm
  go_enter Try.func12, Try.ntmps12
  go_wp2_with fail
  refine (isBlock_any _ true _ HD.out HT.out).mono ?_
  rintro e w1 ⟨rfl, rfl⟩
  go_wp2_with fail
  refine (HF.out _ rfl).mono ?_
  rintro e w1 ⟨rfl, rfl⟩
  go_wp2_with fail
  go_loopw [6] (fun x wr => ∃ k : Nat, k ≤ m ∧ x = .int .i64 ((k : Int) - 1) ∧ Hid (lastAt (D.pend.take k) i = lastAt D.pend i) ∧ wr = w) (fun x _ => (intOf x + 1).toNat)
  case atStart => exact ⟨m, Nat.le_refl _, by go_num, by show _ = _; rw [List.take_of_length_le (by rw [HM.out]; exact Nat.le_refl _)], rfl⟩
  case round =>
    obtain ⟨k, hk, rfl, HK, rfl⟩ := hrel
    by_cases hk0 : k = 0
    · subst hk0
      have hrd : rdOf D i = D.has i := by unfold rdOf; rw [← HK.out]; rfl
      have HRE := Lib.hid hrd
      clear hrd
      go_wp2_with ((with_reducible show wpList _ _ _ (⟨some 64, _, _, _, _, _⟩ :: _) _ _); go_must (refine wpList_load_mid rfl 67 (.tmp 63) rfl bb (i * 128) rfl _ (.array 128 5) HR.out under_block rfl HS.out ?_))
      refine (HB.out _ _ HHL.out).mono ?_
      rintro e w1 ⟨rfl, rfl⟩
      go_wp2
      go_ret2
      exact ⟨rfl, by rw [HRE.out]; rfl⟩
    · obtain ⟨j, rfl⟩ : ∃ j, k = j + 1 := ⟨k - 1, by omega⟩
      clear hk0
      obtain ⟨q, hq⟩ : ∃ q, D.pend[j]? = some q := ⟨_, List.getElem?_eq_getElem (by rw [HM.out]; omega)⟩
      have hql := HPL.out q (List.mem_of_getElem? hq)
      have hlast : lastAt D.pend i = if q.1 = i then some q.2 else lastAt (D.pend.take j) i := by rw [← HK.out, List.take_add_one, hq, Option.toList_some, lastAt_snoc]
      have HL := Lib.hid hlast
      have hpc : ∀ x, x < 129 → (pcells D.pend)[j * 129 + x]? = (pcell q)[x]? := fun x hx => pcells_at HPL.out hq hx
      have hlen := pcells_length HPL.out
      obtain ⟨pb, po, rfl, _, hcell⟩ := HRD.out.plain (by rw [hlen, HM.out]; omega)
      obtain ⟨a, b⟩ := q
      simp only at hql hlast
      have ha := hcell (j * 129) (iv (a : Int)) (by have := hpc 0 (by omega); simpa [pcell] using this)
      have hrb : wr.rangeAt pb (po + j * 129 + 1) (b.map bv) := by
        intro x v hv
        have hx : x < 128 := by have := (List.getElem?_eq_some_iff.1 hv).1; simpa [hql] using this
        have := hcell (j * 129 + (x + 1)) v (by rw [hpc (x + 1) (by omega)]; simpa [pcell] using hv)
        rw [← this]; congr 2; omega
      have HRB := Lib.hid hrb
      have HSB := Lib.hid (size_block (cs := b.map bv) (by rw [List.length_map, hql]))
      have HBL := Lib.hid hql
      have e1 : ((j + 1 : Nat) : Int) - 1 = (j : Int) := by omega
      rw [e1]
      unfold iv at ha
      clear hcell hpc hlen hrb hql hlast hq HRD e1
      by_cases hai : a = i
      · subst hai
        have hrd : rdOf D a = b := by unfold rdOf; rw [HL.out, if_pos rfl]; rfl
        have HRE := Lib.hid hrd
        clear hrd
        go_wp2_with ((with_reducible show wpList _ _ _ (⟨some 56, _, _, _, _, _⟩ :: _) _ _); go_must (refine wpList_load_mid rfl 67 (.tmp 55) rfl pb (po + j * 129 + 1) rfl _ (.array 128 5) HRB.out under_block rfl HSB.out ?_))
        refine (HB.out _ _ HBL.out).mono ?_
        rintro e w1 ⟨rfl, rfl⟩
        go_wp2
        go_ret2
        exact ⟨rfl, by rw [HRE.out]; rfl⟩
      · have hne : ((a : Int) == (i : Int)) = false := by simpa using fun e => hai (by omega)
        have HK2 : Hid (lastAt (D.pend.take j) i = lastAt D.pend i) := by show _ = _; rw [HL.out, if_neg hai]
        clear hai
        go_wp2_with fail
        go_roundw
        case rel => exact ⟨j, by omega, by go_num, HK2, trivial⟩
        case measure => simp [intOf]
end Go.Proofs.Ytpjdnbmeedcafaa
