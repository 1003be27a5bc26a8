/-
  Superblocks and labels as octets; no program is named here.
-/
import Derived.Test.YthneomligbkmgaaDoorMath
import Derived.Test.YthneomligbkmgaaDoorCrcMath
import Derived.Test.YthneomligbkmgaaDoorAddrMath
namespace Go.Proofs.YthneomligbkmgaaDoor
set_option linter.unusedVariables false

/-- the record of a geometry, and its superblock -/
def superR (D L V S : Int) : List Num' := [(4, 1751218541), (2, D.toNat), (2, L.toNat), (1, V.toNat), (2, S.toNat)]
def superB (D L V S : Int) : List UInt8 := sealB (recs (superR D L V S))
/-- the record of a volume, and its label -/
def labelR (v g : Int) : List Num' := [(4, 1752592236), (1, v.toNat), (4, g.toNat)]
def labelB (v g : Int) : List UInt8 := sealB (recs (labelR v g))
def labB (v g : Int) : Bool := decide (0 ≤ v ∧ v < 8 ∧ 0 ≤ g ∧ g ≤ 4294967295)
theorem labB_yes {v g : Int} (h : labB v g = true) : 0 ≤ v ∧ v < 8 ∧ 0 ≤ g ∧ g ≤ 4294967295 := by simpa [labB] using h
def superW : List Int := [4, 2, 2, 1, 2]
def labelW : List Int := [4, 1, 4]

theorem superR_ok {D L V S : Int} (h : mayB D L V S = true) : ∀ p ∈ superR D L V S, okN p = true := by
  obtain ⟨h1, h2, h3, h4, h5, h6, h7, h8⟩ := mayB_yes h
  intro p hp
  simp [superR] at hp
  rcases hp with rfl | rfl | rfl | rfl | rfl
  all_goals rw [okN_iff]; refine ⟨⟨by simp, by simp⟩, ?_⟩
  · decide
  · show D.toNat < 65536; omega
  · show L.toNat < 65536; omega
  · show V.toNat < 256; omega
  · show S.toNat < 65536; omega
theorem labelR_ok {v g : Int} (h : labB v g = true) : ∀ p ∈ labelR v g, okN p = true := by
  obtain ⟨h1, h2, h3, h4⟩ := labB_yes h
  intro p hp
  simp [labelR] at hp
  rcases hp with rfl | rfl | rfl
  all_goals rw [okN_iff]; refine ⟨⟨by simp, by simp⟩, ?_⟩
  · decide
  · show v.toNat < 256; omega
  · show g.toNat < 4294967296; omega
theorem recs_superR (D L V S : Int) : (recs (superR D L V S)).length = 11 := by simp [recs, superR, be_length]
theorem recs_labelR (v g : Int) : (recs (labelR v g)).length = 9 := by simp [recs, labelR, be_length]
theorem codeL_superR {D L V S : Int} (h : mayB D L V S = true) : codeL (superR D L V S) = 0 := (codeL_zero _).2 (superR_ok h)
theorem codeL_labelR {v g : Int} (h : labB v g = true) : codeL (labelR v g) = 0 := (codeL_zero _).2 (labelR_ok h)
theorem superB_length (D L V S : Int) : (superB D L V S).length = 128 := sealB_length _ (by rw [recs_superR]; omega)
theorem labelB_length (v g : Int) : (labelB v g).length = 128 := sealB_length _ (by rw [recs_labelR]; omega)
theorem superB_held (D L V S : Int) : heldB (superB D L V S) = true := heldB_seal _ (by rw [recs_superR]; omega)
theorem labelB_held (v g : Int) : heldB (labelB v g) = true := heldB_seal _ (by rw [recs_labelR]; omega)
theorem sealB_split (l : List UInt8) : sealB l = l ++ (List.replicate (124 - l.length) 0 ++ le4 (sumN (padB l))) := by rw [sealB]; exact List.append_assoc l _ _

/-- what stands in a block, where the numbers of a geometry are, and of a volume -/
def dN (b : List UInt8) : Nat := valB ((b.drop 4).take 2)
def lN (b : List UInt8) : Nat := valB ((b.drop 6).take 2)
def vN (b : List UInt8) : Nat := valB ((b.drop 8).take 1)
def sN (b : List UInt8) : Nat := valB ((b.drop 9).take 2)
def volN (b : List UInt8) : Nat := valB ((b.drop 4).take 1)
def genN (b : List UInt8) : Nat := valB ((b.drop 5).take 4)
theorem nums_super (b : List UInt8) : nums b superW = [valB (b.take 4), dN b, lN b, vN b, sN b] := by
  simp [nums, superW, dN, lN, vN, sN, List.drop_drop]
theorem nums_label (b : List UInt8) : nums b labelW = [valB (b.take 4), volN b, genN b] := by
  simp [nums, labelW, volN, genN, List.drop_drop]
theorem valB_pow (l : List UInt8) (n : Nat) (h : l.length ≤ n) : valB l < 256 ^ n := Nat.lt_of_lt_of_le (valB_lt l) (pow256_le h)
theorem dN_lt (b : List UInt8) : dN b < 65536 := valB_pow _ 2 (by simp; omega)
theorem lN_lt (b : List UInt8) : lN b < 65536 := valB_pow _ 2 (by simp; omega)
theorem vN_lt (b : List UInt8) : vN b < 256 := valB_pow _ 1 (by simp; omega)
theorem sN_lt (b : List UInt8) : sN b < 65536 := valB_pow _ 2 (by simp; omega)
theorem volN_lt (b : List UInt8) : volN b < 256 := valB_pow _ 1 (by simp; omega)
theorem genN_lt (b : List UInt8) : genN b < 4294967296 := valB_pow _ 4 (by simp; omega)

/-- the code of what is made again, against what was there -/
def sameQ (ok : Bool) (again b : List UInt8) : Int := if ok && (again == b) then 0 else 3
/-- what a block is, read as a superblock: the error, and the geometry -/
def superQ (b : List UInt8) : Int := if heldB b then sameQ (mayB (dN b) (lN b) (vN b) (sN b)) (superB (dN b) (lN b) (vN b) (sN b)) b else 5
def superG (b : List UInt8) (n : Nat) : Int := if superQ b = 0 then (n : Int) else 0
def labelQ (b : List UInt8) : Int := if heldB b then sameQ (labB (volN b) (genN b)) (labelB (volN b) (genN b)) b else 5
def labelG (b : List UInt8) (n : Nat) : Int := if labelQ b = 0 then (n : Int) else 0

theorem nums_superB {D L V S : Int} (h : mayB D L V S = true) : nums (superB D L V S) superW = [1751218541, D.toNat, L.toNat, V.toNat, S.toNat] := by
  rw [superB, sealB_split]
  exact nums_recs (superR D L V S) _ (superR_ok h)
theorem nums_labelB {v g : Int} (h : labB v g = true) : nums (labelB v g) labelW = [1752592236, v.toNat, g.toNat] := by
  rw [labelB, sealB_split]
  exact nums_recs (labelR v g) _ (labelR_ok h)
theorem super_nums {D L V S : Int} (h : mayB D L V S = true) : valB ((superB D L V S).take 4) = 1751218541 ∧ (dN (superB D L V S) : Int) = D ∧ (lN (superB D L V S) : Int) = L ∧ (vN (superB D L V S) : Int) = V ∧ (sN (superB D L V S) : Int) = S := by
  obtain ⟨h1, h2, h3, h4, h5, h6, h7, h8⟩ := mayB_yes h
  have e := nums_superB h
  rw [nums_super] at e
  simp only [List.cons.injEq, and_true] at e
  omega
theorem label_nums {v g : Int} (h : labB v g = true) : valB ((labelB v g).take 4) = 1752592236 ∧ (volN (labelB v g) : Int) = v ∧ (genN (labelB v g) : Int) = g := by
  obtain ⟨h1, h2, h3, h4⟩ := labB_yes h
  have e := nums_labelB h
  rw [nums_label] at e
  simp only [List.cons.injEq, and_true] at e
  omega
theorem super_ne {D L V S v g : Int} (h : mayB D L V S = true) (h' : labB v g = true) : superB D L V S ≠ labelB v g := by
  intro e
  have a := (super_nums h).1
  rw [e, (label_nums h').1] at a
  omega
theorem superQ_super {D L V S : Int} (h : mayB D L V S = true) : superQ (superB D L V S) = 0 := by
  obtain ⟨_, e1, e2, e3, e4⟩ := super_nums h
  rw [superQ, superB_held, e1, e2, e3, e4, sameQ, h]
  simp
theorem labelQ_label {v g : Int} (h : labB v g = true) : labelQ (labelB v g) = 0 := by
  obtain ⟨_, e1, e2⟩ := label_nums h
  rw [labelQ, labelB_held, e1, e2, sameQ, h]
  simp
theorem labelQ_super {D L V S : Int} (h : mayB D L V S = true) : labelQ (superB D L V S) = 3 := by
  rw [labelQ, superB_held, sameQ, if_pos rfl]
  cases hl : labB (volN (superB D L V S)) (genN (superB D L V S))
  · rfl
  · rw [if_neg]
    simp only [Bool.true_and, beq_iff_eq]
    exact fun e => super_ne h hl e.symm
theorem superQ_label {v g : Int} (h : labB v g = true) : superQ (labelB v g) = 3 := by
  rw [superQ, labelB_held, sameQ, if_pos rfl]
  cases hl : mayB (dN (labelB v g)) (lN (labelB v g)) (vN (labelB v g)) (sN (labelB v g))
  · rfl
  · rw [if_neg]
    simp only [Bool.true_and, beq_iff_eq]
    exact fun e => super_ne hl h e
theorem superB_inj {D L V S D' L' V' S' : Int} (h : mayB D L V S = true) (h' : mayB D' L' V' S' = true) : superB D L V S = superB D' L' V' S' ↔ D = D' ∧ L = L' ∧ V = V' ∧ S = S' := by
  constructor
  · intro e
    obtain ⟨_, a1, a2, a3, a4⟩ := super_nums h
    obtain ⟨_, b1, b2, b3, b4⟩ := super_nums h'
    rw [← e] at b1 b2 b3 b4
    omega
  · rintro ⟨rfl, rfl, rfl, rfl⟩; rfl
theorem labelB_inj {v g v' g' : Int} (h : labB v g = true) (h' : labB v' g' = true) : labelB v g = labelB v' g' ↔ v = v' ∧ g = g' := by
  constructor
  · intro e
    obtain ⟨_, a1, a2⟩ := label_nums h
    obtain ⟨_, b1, b2⟩ := label_nums h'
    rw [← e] at b1 b2
    omega
  · rintro ⟨rfl, rfl⟩; rfl
end Go.Proofs.YthneomligbkmgaaDoor
