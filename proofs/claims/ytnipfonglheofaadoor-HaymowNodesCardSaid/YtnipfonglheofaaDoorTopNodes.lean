/-
  Nodes laid down from below, and the way from the inode to a block; no program is named here.
-/
import Derived.Test.YtnipfonglheofaaDoorReachBack
import Derived.Test.YtnipfonglheofaaDoorRef08b
namespace Go.Proofs.YtnipfonglheofaaDoor
set_option linter.unusedVariables false
set_option maxRecDepth 100000

/-- a path's block, a node's number -/
def blkO (p : List Int) : Option Nat := (List.range 3621).find? fun n => decide (pathI n = p)
def numO (p : List Int) : Option Nat := (List.range 258).find? fun x => decide (nodI x = p)
theorem blkO_some {p : List Int} {n : Nat} (h : blkO p = some n) : n < 3621 ∧ pathI n = p :=
  ⟨List.mem_range.1 (List.mem_of_find?_eq_some h), by simpa using List.find?_some h⟩
theorem blkO_none {p : List Int} (h : blkO p = none) (n : Nat) (hn : n < 3621) : pathI n ≠ p := by
  have := List.find?_eq_none.1 h n (List.mem_range.2 hn)
  simpa using this
theorem blkO_path {n : Nat} (hn : n < 3621) : blkO (pathI n) = some n := by
  cases h : blkO (pathI n) with
  | none => exact absurd rfl (blkO_none h n hn)
  | some m =>
    obtain ⟨h1, h2⟩ := blkO_some h
    rw [path_inj h1 hn h2]
theorem numO_some {p : List Int} {n : Nat} (h : numO p = some n) : n < 258 ∧ nodI n = p :=
  ⟨List.mem_range.1 (List.mem_of_find?_eq_some h), by simpa using List.find?_some h⟩
theorem numO_none {p : List Int} (h : numO p = none) (n : Nat) (hn : n < 258) : nodI n ≠ p := by
  have := List.find?_eq_none.1 h n (List.mem_range.2 hn)
  simpa using this
theorem numO_nod {n : Nat} (hn : n < 258) : numO (nodI n) = some n := by
  cases h : numO (nodI n) with
  | none => exact absurd rfl (numO_none h n hn)
  | some m => rw [nod_inj (numO_some h).2]
theorem blkO_is (p : List Int) : IsBlk p (match blkO p with | some n => (n : Int) | none => -1) := by
  cases h : blkO p with
  | none => exact .inr ⟨fun n hn => blkO_none h n hn, rfl⟩
  | some n => exact .inl ⟨n, (blkO_some h).1, (blkO_some h).2, rfl⟩
theorem numO_is (p : List Int) : IsNum p (match numO p with | some n => (n : Int) | none => -1) := by
  cases h : numO p with
  | none => exact .inr ⟨fun n hn => numO_none h n hn, rfl⟩
  | some n => exact .inl ⟨n, (numO_some h).1, (numO_some h).2, rfl⟩
theorem nod_not_path (x n : Nat) : nodI x ≠ pathI n := by
  intro h
  have hx := nodI_len x
  rw [h] at hx
  by_cases h6 : n < 6
  · rw [path_a h6] at h
    unfold nodI at h
    split at h
    · simp at h; omega
    · split at h
      · simp at h
      · split at h <;> simp at h
  · by_cases h21 : n < 21
    · rw [path_b (by omega) h21] at h
      unfold nodI at h
      split at h
      · simp [dig] at h
      · split at h
        · simp at h
        · split at h <;> simp at h
    · by_cases h246 : n < 246
      · rw [path_c (by omega) h246] at h
        unfold nodI at h
        split at h
        · simp [dig] at h
        · split at h
          · simp [dig] at h
          · split at h <;> simp at h
      · rw [path_d (by omega)] at h
        unfold nodI at h
        split at h
        · simp [dig] at h
        · split at h
          · simp at h
          · split at h <;> simp [dig] at h
theorem child_above {x y : Nat} {k : Int} (h : nodI y = nodI x ++ [k]) : x < y := by
  have h1 := congrArg List.length h
  rw [nodI_len, List.length_append, nodI_len] at h1
  by_cases a1 : x < 3 <;> by_cases a2 : x < 33 <;> by_cases b1 : y < 3 <;> by_cases b2 : y < 33 <;> simp [a1, a2, b1, b2] at h1 <;> omega

section
variable {PT : Type} (z : PT) (mk : Nat → List PT → PT) (hv : Nat → Option PT) (F : Nat → Bool)
/-- what stands at a path: a block's pointer, a node's pointer, none -/
def childP (A : Nat → Option PT) (p : List Int) : PT := match blkO p with
  | some n => (hv n).getD z
  | none => match numO p with
    | some y => (A y).getD z
    | none => z
def kidsP (A : Nat → Option PT) (x : Nat) : List PT := (List.range 15).map fun (k : Nat) => childP z hv A (nodI x ++ [(k : Int)])
/-- the pointers when the last i numbers' nodes have been laid -/
def tabP : Nat → Nat → Option PT
  | 0 => fun _ => none
  | i + 1 => fun y => if y = 257 - i ∧ F y = true then some (mk y (kidsP z hv (tabP i) y)) else tabP i y
theorem tab_succ (i y : Nat) : tabP z mk hv F (i + 1) y = if y = 257 - i ∧ F y = true then some (mk y (kidsP z hv (tabP z mk hv F i) y)) else tabP z mk hv F i y := rfl
theorem tab_low : ∀ (i y : Nat), y + i < 258 → tabP z mk hv F i y = none
  | 0, _, _ => rfl
  | i + 1, y, h => by
    rw [tab_succ, if_neg (by omega)]
    exact tab_low i y (by omega)
theorem tab_stay (i y : Nat) (hy : 258 ≤ y + i) : ∀ d, i + d ≤ 258 → tabP z mk hv F (i + d) y = tabP z mk hv F i y
  | 0, _ => rfl
  | d + 1, h => by
    rw [show i + (d + 1) = (i + d) + 1 from rfl, tab_succ, if_neg (by omega)]
    exact tab_stay i y hy d (by omega)
theorem childP_congr {A B : Nat → Option PT} {x : Nat} {k : Int} (h : ∀ y, x < y → y < 258 → A y = B y) : childP z hv A (nodI x ++ [k]) = childP z hv B (nodI x ++ [k]) := by
  unfold childP
  cases blkO (nodI x ++ [k]) with
  | some n => rfl
  | none =>
    cases hn : numO (nodI x ++ [k]) with
    | none => rfl
    | some y =>
      obtain ⟨h1, h2⟩ := numO_some hn
      show (A y).getD z = (B y).getD z
      rw [h y (child_above h2) h1]
theorem kidsP_congr {A B : Nat → Option PT} {x : Nat} (h : ∀ y, x < y → y < 258 → A y = B y) : kidsP z hv A x = kidsP z hv B x := by
  unfold kidsP
  exact List.map_congr_left fun k _ => childP_congr z hv h
/-- all nodes' pointers -/
def allP : Nat → Option PT := tabP z mk hv F 258
theorem tab_is (i y : Nat) (hi : i ≤ 258) (hy : 258 ≤ y + i) : tabP z mk hv F i y = allP z mk hv F y := by
  have := tab_stay z mk hv F i y hy (258 - i) (by omega)
  rw [show i + (258 - i) = 258 by omega] at this
  exact this.symm
theorem kids_is (x : Nat) (hx : x < 258) : kidsP z hv (tabP z mk hv F (257 - x)) x = kidsP z hv (allP z mk hv F) x :=
  kidsP_congr z hv fun y h1 h2 => tab_is z mk hv F _ y (by omega) (by omega)
theorem all_on (x : Nat) (hx : x < 258) (h : F x = true) : allP z mk hv F x = some (mk x (kidsP z hv (allP z mk hv F) x)) := by
  rw [← tab_is z mk hv F (257 - x + 1) x (by omega) (by omega), tab_succ, if_pos ⟨by omega, h⟩, kids_is z mk hv F x hx]
theorem tab_off : ∀ (i x : Nat), F x = false → tabP z mk hv F i x = none
  | 0, _, _ => rfl
  | i + 1, x, h => by
    rw [tab_succ, if_neg (by simp [h])]
    exact tab_off i x h
theorem all_off (x : Nat) (h : F x = false) : allP z mk hv F x = none := tab_off z mk hv F 258 x h
theorem child_path (A : Nat → Option PT) (n : Nat) (hn : n < 3621) : childP z hv A (pathI n) = (hv n).getD z := by
  unfold childP
  rw [blkO_path hn]
theorem child_node (A : Nat → Option PT) (x : Nat) (hx : x < 258) : childP z hv A (nodI x) = (A x).getD z := by
  unfold childP
  cases h : blkO (nodI x) with
  | some n => exact absurd (blkO_some h).2.symm (nod_not_path x n)
  | none =>
    rw [numO_nod hx]
theorem child_pre (A : Nat → Option PT) (n k : Nat) (hn : n < 3621) (h1 : 1 ≤ k) (hk : k < (pathI n).length) : childP z hv A ((pathI n).take k) = (A (preN n k)).getD z := by
  obtain ⟨hx, e⟩ := preN_nod n k hn h1 hk
  rw [← e, child_node z hv A _ hx]
/-- one step of the way -/
theorem child_step (A : Nat → Option PT) (n k : Nat) (d : Int) (hn : n < 3621) (h1 : 1 ≤ k) (hk : k < (pathI n).length) (hd : (pathI n)[k]? = some d) (h0 : 0 ≤ d) (h14 : d ≤ 14) : (kidsP z hv A (preN n k))[d.toNat]? = some (childP z hv A ((pathI n).take (k + 1))) := by
  obtain ⟨hx, e⟩ := preN_nod n k hn h1 hk
  rw [kidsP, List.getElem?_map, List.getElem?_range (by omega), e]
  rw [List.take_add_one, hd]
  simp only [Option.map_some, Option.toList_some]
  rw [show ((d.toNat : Nat) : Int) = d by omega]
end
end Go.Proofs.YtnipfonglheofaaDoor
