/-
  Plain mathematics of addresses: geometries, places and segments; no program is named here.
-/
import Init
namespace Go.Proofs.YthneomligbkmgaaDoor
set_option linter.unusedVariables false

/-- low to high, both included -/
def inB (lo hi n : Int) : Bool := decide (lo ≤ n ∧ n ≤ hi)
theorem inB_yes {lo hi n : Int} (h : inB lo hi n = true) : lo ≤ n ∧ n ≤ hi := by simpa [inB] using h
theorem inB_no {lo hi n : Int} (h : inB lo hi n = false) : n < lo ∨ hi < n := by
  have : ¬ (lo ≤ n ∧ n ≤ hi) := by simpa [inB] using h
  omega
theorem inB_mk {lo hi n : Int} (h : lo ≤ n) (h' : n ≤ hi) : inB lo hi n = true := by simp [inB]; omega
theorem inB_mkn {lo hi n : Int} (h : n < lo ∨ hi < n) : inB lo hi n = false := by simp [inB]; omega

/-- a geometry is valid -/
def mayB (D L V S : Int) : Bool := decide (8 ≤ D ∧ D ≤ 256 ∧ 1 ≤ L ∧ L ≤ D - 6 ∧ 0 ≤ V ∧ V ≤ 8 ∧ 1 ≤ S ∧ S ≤ 256)
theorem mayB_yes {D L V S : Int} (h : mayB D L V S = true) : 8 ≤ D ∧ D ≤ 256 ∧ 1 ≤ L ∧ L ≤ D - 6 ∧ 0 ≤ V ∧ V ≤ 8 ∧ 1 ≤ S ∧ S ≤ 256 := by simpa [mayB] using h
theorem mayB_eq (D L V S : Int) : mayB D L V S = (inB 8 256 D && (inB 1 (D - 6) L && inB 0 8 V && inB 1 256 S)) := by
  rw [Bool.eq_iff_iff]
  simp [mayB, inB]
  omega

theorem mul_bd {a b A B : Int} (h0 : 0 ≤ a) (h1 : a ≤ A) (h2 : 0 ≤ b) (h3 : b ≤ B) : 0 ≤ a * b ∧ a * b ≤ A * B :=
  ⟨Int.mul_nonneg h0 h2, Int.mul_le_mul h1 h3 h2 (by omega)⟩

/-- segments of a geometry -/
def segsN (D V S : Int) : Int := D + V * S
theorem segsN_bd {D L V S : Int} (h : mayB D L V S = true) : 8 ≤ segsN D V S ∧ segsN D V S ≤ 2304 := by
  obtain ⟨h1, h2, _, _, h5, h6, h7, h8⟩ := mayB_yes h
  have := mul_bd h5 h6 (show 0 ≤ S by omega) h8
  unfold segsN
  omega
/-- the first segment of the disk, or of a volume -/
def firstI (D S v : Int) : Int := if v = -1 then 0 else D + v * S
theorem firstI_disk (D S : Int) : firstI D S (-1) = 0 := rfl
theorem firstI_vol {D S v : Int} (h : 0 ≤ v) : firstI D S v = D + v * S := by unfold firstI; rw [if_neg (by omega)]
theorem firstI_all {D V S : Int} (h : 0 ≤ V) : firstI D S V = segsN D V S := firstI_vol h

/-- how many segments the disk has, or a volume -/
def segsOfI (D S v : Int) : Int := if v = -1 then D else S
/-- there is such a place -/
def placeB (D V S v s o : Int) : Bool := inB (-1) (V - 1) v && inB 0 (segsOfI D S v - 1) s && inB 0 15 o
/-- its address -/
def addrI (D S v s o : Int) : Int := 16 * (firstI D S v + s) + o + 1

/-- the segment number s, as a volume and a segment of it -/
def volI (D S s : Int) : Int := if s < D then -1 else (s - D) / S
def segI (D S s : Int) : Int := if s < D then s else (s - D) % S
/-- a segment is the one of its volume -/
theorem first_vol {D S s : Int} (hS : 1 ≤ S) : firstI D S (volI D S s) + segI D S s = s := by
  unfold volI segI
  by_cases h : s < D
  · rw [if_pos h, if_pos h]; simp [firstI]
  · rw [if_neg h, if_neg h, firstI_vol (Int.ediv_nonneg (by omega) (by omega))]
    have := Int.mul_ediv_add_emod (s - D) S
    have e : (s - D) / S * S = S * ((s - D) / S) := Int.mul_comm _ _
    omega
theorem vol_lo {D S s : Int} (hS : 1 ≤ S) : -1 ≤ volI D S s := by
  unfold volI
  split
  · omega
  · have := Int.ediv_nonneg (a := s - D) (b := S) (by omega) (by omega); omega
theorem vol_hi {D V S s : Int} (hV : 0 ≤ V) (hS : 1 ≤ S) (h : s < segsN D V S) : volI D S s ≤ V - 1 := by
  unfold volI segsN at *
  split
  · omega
  · have := Int.ediv_lt_of_lt_mul (a := s - D) (b := V) (c := S) (by omega) (by omega)
    omega
theorem seg_lo {D S s : Int} (hS : 1 ≤ S) (h : 0 ≤ s) : 0 ≤ segI D S s := by
  unfold segI
  split
  · omega
  · exact Int.emod_nonneg _ (by omega)
theorem seg_hi {D S s : Int} (hS : 1 ≤ S) : segI D S s ≤ segsOfI D S (volI D S s) - 1 := by
  unfold segI segsOfI volI
  by_cases h : s < D
  · simp [h]; omega
  · have h0 := Int.ediv_nonneg (a := s - D) (b := S) (by omega) (by omega)
    rw [if_neg h, if_neg h, if_neg (by omega)]
    have := Int.emod_lt_of_pos (s - D) (b := S) (by omega)
    omega
/-- a volume and a segment of it, as a number: the volume and the segment are found again -/
theorem vol_first {D V S v s : Int} (hS : 1 ≤ S) (h : inB (-1) (V - 1) v = true) (h' : inB 0 (segsOfI D S v - 1) s = true) : volI D S (firstI D S v + s) = v ∧ segI D S (firstI D S v + s) = s := by
  have h1 := inB_yes h
  have h2 := inB_yes h'
  unfold volI segI segsOfI at *
  by_cases hv : v = -1
  · subst hv
    simp only [if_true] at h2
    rw [firstI_disk, if_pos (by omega), if_pos (by omega)]
    omega
  · rw [if_neg hv] at h2
    rw [firstI_vol (by omega)]
    have hm := Int.mul_nonneg (a := v) (b := S) (by omega) (by omega)
    rw [if_neg (by omega), if_neg (by omega), show D + v * S + s - D = s + v * S by omega, Int.add_mul_ediv_right _ _ (by omega), Int.add_mul_emod_self_right, Int.ediv_eq_zero_of_lt (by omega) (by omega), Int.emod_eq_of_lt (by omega) (by omega)]
    omega
theorem first_lt {D L V S v s : Int} (hm : mayB D L V S = true) (h : inB (-1) (V - 1) v = true) (h' : inB 0 (segsOfI D S v - 1) s = true) : 0 ≤ firstI D S v + s ∧ firstI D S v + s < segsN D V S := by
  obtain ⟨m1, m2, _, _, m5, m6, m7, m8⟩ := mayB_yes hm
  have h1 := inB_yes h
  have h2 := inB_yes h'
  unfold segsOfI segsN at *
  by_cases hv : v = -1
  · subst hv
    simp only [if_true] at h2
    have := Int.mul_nonneg (a := V) (b := S) (by omega) (by omega)
    rw [firstI_disk]
    omega
  · rw [if_neg hv] at h2
    rw [firstI_vol (by omega)]
    have a := Int.mul_nonneg (a := v) (b := S) (by omega) (by omega)
    have b := Int.mul_le_mul (a := v + 1) (b := S) (c := V) (d := S) (by omega) (by omega) (by omega) (by omega)
    have c : (v + 1) * S = v * S + S := by rw [Int.add_mul]; omega
    omega
theorem firstI_bd {D L V S v : Int} (hm : mayB D L V S = true) (h : -1 ≤ v) (h' : v ≤ V) : 0 ≤ firstI D S v ∧ firstI D S v ≤ 2304 := by
  obtain ⟨m1, m2, _, _, m5, m6, m7, m8⟩ := mayB_yes hm
  unfold firstI
  split
  · omega
  · have := mul_bd (a := v) (b := S) (by omega) (show v ≤ 8 by omega) (by omega) m8
    omega
end Go.Proofs.YthneomligbkmgaaDoor
