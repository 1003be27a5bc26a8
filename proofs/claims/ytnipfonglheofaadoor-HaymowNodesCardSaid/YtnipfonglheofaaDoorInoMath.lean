/-
  Pointers, inodes, nodes and their blocks, as octets; no program is named here.
-/
import Derived.Test.YtnipfonglheofaaDoorSumMath
namespace Go.Proofs.YtnipfonglheofaaDoor
set_option linter.unusedVariables false

/-- a pointer -/
structure Pr where
  at_ : Int
  sum : Nat
/-- an inode -/
structure Ino where
  ty : Int
  links : Int
  ver : Int
  size : Int
  tick : Int
  p : List Pr
theorem Pr.ext' {x y : Pr} (h1 : x.at_ = y.at_) (h2 : x.sum = y.sum) : x = y := by
  obtain ⟨a, b⟩ := x; obtain ⟨a', b'⟩ := y; simp_all
theorem Ino.ext' {x y : Ino} (h1 : x.ty = y.ty) (h2 : x.links = y.links) (h3 : x.ver = y.ver) (h4 : x.size = y.size) (h5 : x.tick = y.tick) (h6 : x.p = y.p) : x = y := by
  obtain ⟨a, b, c, d, e, f⟩ := x; obtain ⟨a', b', c', d', e', f'⟩ := y; simp_all

def prOk (p : Pr) : Bool := decide (0 ≤ p.at_ ∧ p.at_ ≤ 2147483647 ∧ (p.at_ = 0 → p.sum = 0))
theorem prOk_yes {p : Pr} (h : prOk p = true) : 0 ≤ p.at_ ∧ p.at_ ≤ 2147483647 ∧ (p.at_ = 0 → p.sum = 0) := by simpa only [prOk, decide_eq_true_eq] using h
theorem prOk_no {p : Pr} (h : prOk p = false) : (p.at_ < 0) ∨ (0 ≤ p.at_ ∧ 2147483647 < p.at_) ∨ (p.at_ = 0 ∧ p.sum ≠ 0) := by
  have h' : ¬ (0 ≤ p.at_ ∧ p.at_ ≤ 2147483647 ∧ (p.at_ = 0 → p.sum = 0)) := by simpa only [prOk, decide_eq_false_iff_not] using h
  by_cases a : p.at_ < 0
  · exact .inl a
  · by_cases b : 2147483647 < p.at_
    · exact .inr (.inl ⟨by omega, b⟩)
    · refine .inr (.inr ?_)
      by_cases c : p.at_ = 0
      · exact ⟨c, fun d => h' ⟨by omega, by omega, fun _ => d⟩⟩
      · exact absurd ⟨by omega, by omega, fun e => absurd e c⟩ h'
def headIOk (x : Ino) : Bool := decide (1 ≤ x.ty ∧ x.ty ≤ 2 ∧ 0 ≤ x.links ∧ x.links ≤ 200 ∧ 0 ≤ x.ver ∧ x.ver ≤ 2147483647 ∧ 0 ≤ x.size ∧ x.size ≤ 1099511627776 ∧ 0 ≤ x.tick ∧ x.tick ≤ 2147483647)
theorem headIOk_yes {x : Ino} (h : headIOk x = true) : 1 ≤ x.ty ∧ x.ty ≤ 2 ∧ 0 ≤ x.links ∧ x.links ≤ 200 ∧ 0 ≤ x.ver ∧ x.ver ≤ 2147483647 ∧ 0 ≤ x.size ∧ x.size ≤ 1099511627776 ∧ 0 ≤ x.tick ∧ x.tick ≤ 2147483647 := by simpa only [headIOk, decide_eq_true_eq] using h
def inoOk (x : Ino) : Bool := headIOk x && x.p.all prOk
theorem inoOk_yes {x : Ino} (h : inoOk x = true) : headIOk x = true ∧ ∀ q ∈ x.p, prOk q = true := by
  rw [inoOk, Bool.and_eq_true, List.all_eq_true] at h; exact h
theorem inoOk_mk {x : Ino} (h : headIOk x = true) (h' : ∀ q ∈ x.p, prOk q = true) : inoOk x = true := by
  rw [inoOk, Bool.and_eq_true, List.all_eq_true]; exact ⟨h, h'⟩
theorem inoOk_head {x : Ino} (h : headIOk x = false) : inoOk x = false := by rw [inoOk, h]; rfl
theorem all_at {l : List Pr} {k : Nat} {q : Pr} (hk : l[k]? = some q) (h : prOk q = false) : l.all prOk = false := by
  cases hp : l.all prOk with
  | false => rfl
  | true => rw [List.all_eq_true] at hp; have := hp q (List.mem_of_getElem? hk); rw [h] at this; cases this
theorem all_of {l : List Pr} (h : ∀ (k : Nat) (q : Pr), l[k]? = some q → prOk q = true) : l.all prOk = true := by
  rw [List.all_eq_true]
  intro q hq
  obtain ⟨k, hk, rfl⟩ := List.mem_iff_getElem.1 hq
  exact h k _ (List.getElem?_eq_getElem hk)
/-- the sums are words of 32 bits -/
def prSums (l : List Pr) : Prop := ∀ q ∈ l, q.sum < 4294967296
theorem prSums_take {l : List Pr} (h : prSums l) (n : Nat) : prSums (l.take n) := fun x hx => h x (List.mem_of_mem_take hx)

/-- the record of a pointer, of some, of an inode -/
def prR (q : Pr) : List Num' := [(4, q.at_.toNat), (4, q.sum)]
def prsR (l : List Pr) : List Num' := l.flatMap prR
def headIR (n : Int) (x : Ino) : List Num' := [(4, 1768845156), (1, n.toNat), (1, x.ty.toNat), (1, x.links.toNat), (4, x.ver.toNat), (6, x.size.toNat), (4, x.tick.toNat)]
def inoR (n : Int) (x : Ino) : List Num' := headIR n x ++ prsR x.p
def inoB (n : Int) (x : Ino) : List UInt8 := sealB (recs (inoR n x))
def nodB (l : List Pr) : List UInt8 := sealB (recs (prsR l))
theorem prsR_cons (q : Pr) (l : List Pr) : prsR (q :: l) = prR q ++ prsR l := rfl
theorem prsR_append (a b : List Pr) : prsR (a ++ b) = prsR a ++ prsR b := by simp [prsR]
theorem prsR_length : ∀ l, (prsR l).length = 2 * l.length
  | [] => rfl
  | x :: l => by rw [prsR_cons, List.length_append, prsR_length l, List.length_cons]; simp [prR]; omega
theorem prsR_take_succ (l : List Pr) (k : Nat) (q : Pr) (h : l[k]? = some q) : prsR (l.take (k + 1)) = prsR (l.take k) ++ prR q := by
  rw [List.take_add_one, h, prsR_append]; simp [prsR]
theorem inoR_length (n : Int) (x : Ino) : (inoR n x).length = 7 + 2 * x.p.length := by rw [inoR, List.length_append, prsR_length]; simp [headIR]
theorem prR_ok {q : Pr} (h : prOk q = true) (hs : q.sum < 4294967296) : ∀ p ∈ prR q, okN p = true := by
  obtain ⟨h1, h2, _⟩ := prOk_yes h
  intro p hp
  simp [prR] at hp
  rcases hp with rfl | rfl
  all_goals rw [okN_iff]; refine ⟨⟨by simp, by simp⟩, ?_⟩
  · show q.at_.toNat < 4294967296; omega
  · exact hs
theorem prsR_ok {l : List Pr} (h : ∀ q ∈ l, prOk q = true) (hs : prSums l) : ∀ p ∈ prsR l, okN p = true := by
  intro p hp
  obtain ⟨x, hx, hp⟩ := List.mem_flatMap.1 hp
  exact prR_ok (h x hx) (hs x hx) p hp
theorem headIR_ok {n : Int} {x : Ino} (hn : 1 ≤ n ∧ n ≤ 39) (h : headIOk x = true) : ∀ q ∈ headIR n x, okN q = true := by
  obtain ⟨h1, h2, h3, h4, h5, h6, h7, h8, h9, h10⟩ := headIOk_yes h
  intro q hq
  simp only [headIR, List.mem_cons, List.not_mem_nil, or_false] at hq
  rcases hq with rfl | rfl | rfl | rfl | rfl | rfl | rfl
  all_goals rw [okN_iff]; refine ⟨⟨by simp, by simp⟩, ?_⟩
  · decide
  · show n.toNat < 256; omega
  · show x.ty.toNat < 256; omega
  · show x.links.toNat < 256; omega
  · show x.ver.toNat < 4294967296; omega
  · show x.size.toNat < 281474976710656; omega
  · show x.tick.toNat < 4294967296; omega
theorem inoR_ok {n : Int} {x : Ino} (hn : 1 ≤ n ∧ n ≤ 39) (h : inoOk x = true) (hs : prSums x.p) : ∀ q ∈ inoR n x, okN q = true := by
  obtain ⟨h1, h2⟩ := inoOk_yes h
  intro q hq
  rcases List.mem_append.1 hq with hq | hq
  · exact headIR_ok hn h1 q hq
  · exact prsR_ok h2 hs q hq
theorem recs_prR (q : Pr) : (recs (prR q)).length = 8 := by simp [recs, prR, be_length]
theorem recs_prsR : ∀ l, (recs (prsR l)).length = 8 * l.length
  | [] => rfl
  | x :: l => by rw [prsR_cons, recs_append, List.length_append, recs_prR, recs_prsR l, List.length_cons]; omega
theorem recs_headIR (n : Int) (x : Ino) : (recs (headIR n x)).length = 21 := by simp [recs, headIR, be_length]
theorem recs_inoR (n : Int) (x : Ino) : (recs (inoR n x)).length = 21 + 8 * x.p.length := by rw [inoR, recs_append, List.length_append, recs_headIR, recs_prsR]
theorem inoB_len (n : Int) (x : Ino) (h : x.p.length = 9) : (inoB n x).length = 128 := sealB_length _ (by rw [recs_inoR]; omega)
theorem inoB_held (n : Int) (x : Ino) (h : x.p.length = 9) : heldB (inoB n x) = true := heldB_seal _ (by rw [recs_inoR]; omega)
theorem nodB_len (l : List Pr) (h : l.length = 15) : (nodB l).length = 128 := sealB_length _ (by rw [recs_prsR]; omega)
theorem nodB_held (l : List Pr) (h : l.length = 15) : heldB (nodB l) = true := heldB_seal _ (by rw [recs_prsR]; omega)

/-- what stands in a block -/
def prAt (b : List UInt8) (o : Nat) : Pr := ⟨(valB ((b.drop o).take 4) : Nat), valB ((b.drop (o + 4)).take 4)⟩
def prsAt (b : List UInt8) (o n : Nat) : List Pr := (List.range n).map fun k => prAt b (o + 8 * k)
def tyN (b : List UInt8) : Nat := valB ((b.drop 5).take 1)
def lkN (b : List UInt8) : Nat := valB ((b.drop 6).take 1)
def vrN (b : List UInt8) : Nat := valB ((b.drop 7).take 4)
def szN (b : List UInt8) : Nat := valB ((b.drop 11).take 6)
def tkN (b : List UInt8) : Nat := valB ((b.drop 17).take 4)
def decI (b : List UInt8) : Ino := ⟨tyN b, lkN b, vrN b, szN b, tkN b, prsAt b 21 9⟩
def noI : Ino := ⟨0, 0, 0, 0, 0, List.replicate 9 ⟨0, 0⟩⟩
def decIQ (n : Int) (b : List UInt8) : Int := if decide (1 ≤ n ∧ n ≤ 39) then (if heldB b then (if inoOk (decI b) && (inoB n (decI b) == b) then 0 else 3) else 5) else 1
def decIR (n : Int) (b : List UInt8) : Ino := if decIQ n b = 0 then decI b else noI
def nodP (b : List UInt8) : List Pr := prsAt b 0 15
def nodQ (b : List UInt8) : Int := if heldB b then (if (nodP b).all prOk && (nodB (nodP b) == b) then 0 else 3) else 5
def nodR (b : List UInt8) : List Pr := if nodQ b = 0 then nodP b else []

theorem prAt_lt (b : List UInt8) (o : Nat) : valB ((b.drop o).take 4) < 4294967296 ∧ valB ((b.drop (o + 4)).take 4) < 4294967296 := ⟨valB_pow' _ 4 (by simp; omega), valB_pow' _ 4 (by simp; omega)⟩
theorem tyN_lt (b : List UInt8) : tyN b < 256 := valB_pow' _ 1 (by simp; omega)
theorem lkN_lt (b : List UInt8) : lkN b < 256 := valB_pow' _ 1 (by simp; omega)
theorem vrN_lt (b : List UInt8) : vrN b < 4294967296 := valB_pow' _ 4 (by simp; omega)
theorem szN_lt (b : List UInt8) : szN b < 281474976710656 := valB_pow' _ 6 (by simp; omega)
theorem tkN_lt (b : List UInt8) : tkN b < 4294967296 := valB_pow' _ 4 (by simp; omega)
theorem prsAt_length (b : List UInt8) (o n : Nat) : (prsAt b o n).length = n := by simp [prsAt]
theorem prsAt_succ (b : List UInt8) (o n : Nat) : prsAt b o (n + 1) = prsAt b o n ++ [prAt b (o + 8 * n)] := by simp [prsAt, List.range_succ]
theorem prsAt_get (b : List UInt8) (o n k : Nat) (h : k < n) : (prsAt b o n)[k]? = some (prAt b (o + 8 * k)) := by simp [prsAt, h]
/-- what is read of four octets each -/
def prW (q : Pr) : Prop := 0 ≤ q.at_ ∧ q.at_ < 4294967296 ∧ q.sum < 4294967296
theorem prsAt_words (b : List UInt8) (o n : Nat) : ∀ q ∈ prsAt b o n, prW q := by
  intro x hx
  obtain ⟨k, _, rfl⟩ := List.mem_map.1 hx
  have := prAt_lt b (o + 8 * k)
  exact ⟨by simp [prAt], by simp only [prAt]; omega, this.2⟩
theorem prsAt_sums (b : List UInt8) (o n : Nat) : prSums (prsAt b o n) := fun q hq => (prsAt_words b o n q hq).2.2
theorem prsAt_take (b : List UInt8) (o n k : Nat) (h : k ≤ n) : (prsAt b o n).take k = prsAt b o k := by
  simp only [prsAt, ← List.map_take, List.take_range, Nat.min_eq_left h]
theorem decI_p (b : List UInt8) : (decI b).p.length = 9 := prsAt_length _ _ _
theorem noI_p : noI.p.length = 9 := rfl
theorem decIR_p (n : Int) (b : List UInt8) : (decIR n b).p.length = 9 := by unfold decIR; split <;> rfl
theorem decI_sums (b : List UInt8) : prSums (decI b).p := prsAt_sums _ _ _
theorem nodP_length (b : List UInt8) : (nodP b).length = 15 := prsAt_length _ _ _

/-- the numbers of pointers -/
def prsN (l : List Pr) : List Nat := l.flatMap fun q => [q.at_.toNat, q.sum]
theorem prsN_cons (q : Pr) (l : List Pr) : prsN (q :: l) = q.at_.toNat :: q.sum :: prsN l := rfl
theorem prsN_append (a b : List Pr) : prsN (a ++ b) = prsN a ++ prsN b := by simp [prsN]
theorem prsN_length : ∀ l, (prsN l).length = 2 * l.length
  | [] => rfl
  | x :: l => by rw [prsN_cons, List.length_cons, List.length_cons, prsN_length l, List.length_cons]; omega
theorem prsN_get : ∀ (l : List Pr) (k : Nat) (q : Pr), l[k]? = some q → (prsN l)[2 * k]? = some q.at_.toNat ∧ (prsN l)[2 * k + 1]? = some q.sum
  | [], k, q, h => by simp at h
  | y :: l, 0, q, h => by
    simp at h; subst h
    exact ⟨rfl, rfl⟩
  | y :: l, k + 1, q, h => by
    have ih := prsN_get l k q (by simpa using h)
    rw [prsN_cons, show 2 * (k + 1) = 2 * k + 2 from by omega, show 2 * k + 2 + 1 = 2 * k + 1 + 2 from by omega]
    simpa using ih
theorem prsN_vals (l : List Pr) : (prsR l).map (·.2) = prsN l := by
  induction l with
  | nil => rfl
  | cons q l ih => rw [prsR_cons, List.map_append, ih, prsN_cons]; rfl
theorem prsR_widths (l : List Pr) : (prsR l).map (·.1) = List.replicate (2 * l.length) 4 := by
  induction l with
  | nil => rfl
  | cons q l ih => rw [prsR_cons, List.map_append, ih, List.length_cons, show 2 * (l.length + 1) = 2 * l.length + 1 + 1 from by omega, List.replicate_succ, List.replicate_succ]; rfl
theorem nums_prs (b : List UInt8) : ∀ (n o : Nat), nums (b.drop o) (List.replicate (2 * n) 4) = prsN (prsAt b o n)
  | 0, o => rfl
  | n + 1, o => by
    have e : prsAt b o (n + 1) = prAt b o :: prsAt b (o + 8) n := by
      simp only [prsAt, List.range_succ_eq_map, List.map_cons, List.map_map, Nat.mul_zero, Nat.add_zero]
      congr 1
      apply List.map_congr_left
      intro k _
      show prAt b (o + 8 * (k + 1)) = prAt b (o + 8 + 8 * k)
      congr 1
      omega
    rw [e, prsN_cons, ← nums_prs b n (o + 8), show 2 * (n + 1) = 2 * n + 1 + 1 from by omega, List.replicate_succ, List.replicate_succ]
    simp only [nums, List.drop_drop]
    simp [prAt]
def inodeW : List Int := [4, 1, 1, 1, 4, 6, 4] ++ List.replicate 18 4
def nodeW : List Int := List.replicate 30 4
theorem nums_inode (b : List UInt8) : nums b inodeW = [valB (b.take 4), valB ((b.drop 4).take 1), tyN b, lkN b, vrN b, szN b, tkN b] ++ prsN (prsAt b 21 9) := by
  rw [inodeW, nums_append, show (18 : Nat) = 2 * 9 from rfl, show tot [4, 1, 1, 1, 4, 6, 4] = 21 from rfl, nums_prs]
  congr 1
  simp [nums, tyN, lkN, vrN, szN, tkN, List.drop_drop]
theorem nums_node (b : List UInt8) : nums b nodeW = prsN (nodP b) := nums_prs b 15 0
theorem unp_inode {b : List UInt8} (h : b.length = 128) : unpCode inodeW b.length = 0 := by rw [h]; decide
theorem unp_node {b : List UInt8} (h : b.length = 128) : unpCode nodeW b.length = 0 := by rw [h]; decide
theorem prsN_inj : ∀ {l m : List Pr}, (∀ q ∈ l, prW q) → (∀ q ∈ m, prW q) → prsN l = prsN m → l = m
  | [], [], _, _, _ => rfl
  | [], _ :: _, _, _, e => by simp [prsN] at e
  | _ :: _, [], _, _, e => by simp [prsN] at e
  | x :: l, y :: m, hx, hy, e => by
    rw [prsN_cons, prsN_cons] at e
    simp only [List.cons.injEq] at e
    have a := hx x (by simp)
    have b := hy y (by simp)
    rw [Pr.ext' (x := x) (y := y) (by have := a.1; have := b.1; omega) e.2.1, prsN_inj (fun q hq => hx q (by simp [hq])) (fun q hq => hy q (by simp [hq])) e.2.2]
theorem prW_ok {q : Pr} (h : prOk q = true) (hs : q.sum < 4294967296) : prW q := by
  obtain ⟨h1, h2, _⟩ := prOk_yes h
  exact ⟨h1, by omega, hs⟩
theorem prW_all {l : List Pr} (h : ∀ q ∈ l, prOk q = true) (hs : prSums l) : ∀ q ∈ l, prW q := fun q hq => prW_ok (h q hq) (hs q hq)
theorem inoR_widths (n : Int) (x : Ino) (h : x.p.length = 9) : (inoR n x).map (·.1) = inodeW := by
  rw [inoR, List.map_append, prsR_widths, h]; rfl
theorem nums_inoB {n : Int} {x : Ino} (hn : 1 ≤ n ∧ n ≤ 39) (h : inoOk x = true) (hp : x.p.length = 9) (hs : prSums x.p) : nums (inoB n x) inodeW = [1768845156, n.toNat, x.ty.toNat, x.links.toNat, x.ver.toNat, x.size.toNat, x.tick.toNat] ++ prsN x.p := by
  have e := nums_recs (inoR n x) (List.replicate (124 - (recs (inoR n x)).length) 0 ++ le4 (sumN (padB (recs (inoR n x))))) (inoR_ok hn h hs)
  rw [← sealB_split', inoR_widths n x hp] at e
  rw [inoB, e, inoR, List.map_append, prsN_vals]
  rfl
theorem decI_ino {n : Int} {x : Ino} (hn : 1 ≤ n ∧ n ≤ 39) (h : inoOk x = true) (hp : x.p.length = 9) (hs : prSums x.p) : decI (inoB n x) = x := by
  obtain ⟨hh, hq⟩ := inoOk_yes h
  obtain ⟨h1, h2, h3, h4, h5, h6, h7, h8, h9, h10⟩ := headIOk_yes hh
  have e := nums_inoB hn h hp hs
  rw [nums_inode] at e
  simp only [List.cons_append, List.nil_append, List.cons.injEq] at e
  obtain ⟨_, _, e2, e3, e4, e5, e6, e7⟩ := e
  have e8 := prsN_inj (prsAt_words _ _ _) (prW_all hq hs) e7
  exact Ino.ext' (show ((tyN _ : Nat) : Int) = _ by omega) (show ((lkN _ : Nat) : Int) = _ by omega) (show ((vrN _ : Nat) : Int) = _ by omega) (show ((szN _ : Nat) : Int) = _ by omega) (show ((tkN _ : Nat) : Int) = _ by omega) e8
theorem inoB_num {n m : Int} {x y : Ino} (hn : 1 ≤ n ∧ n ≤ 39) (hm : 1 ≤ m ∧ m ≤ 39) (h : inoOk x = true) (h' : inoOk y = true) (hp : x.p.length = 9) (hp' : y.p.length = 9) (hs : prSums x.p) (hs' : prSums y.p) (e : inoB n x = inoB m y) : n = m := by
  have e1 := nums_inoB hn h hp hs
  rw [e, nums_inoB hm h' hp' hs'] at e1
  simp only [List.cons_append, List.nil_append, List.cons.injEq] at e1
  have := e1.2.1
  omega
theorem inoB_inj {n : Int} {x y : Ino} (hn : 1 ≤ n ∧ n ≤ 39) (hx : inoOk x = true) (hy : inoOk y = true) (px : x.p.length = 9) (py : y.p.length = 9) (sx : prSums x.p) (sy : prSums y.p) : inoB n x = inoB n y ↔ x = y := by
  constructor
  · intro e; rw [← decI_ino hn hx px sx, e, decI_ino hn hy py sy]
  · rintro rfl; rfl
theorem decIQ_ino {n : Int} {x : Ino} (hn : 1 ≤ n ∧ n ≤ 39) (h : inoOk x = true) (hp : x.p.length = 9) (hs : prSums x.p) : decIQ n (inoB n x) = 0 := by
  rw [decIQ, if_pos (decide_eq_true hn), inoB_held n x hp, decI_ino hn h hp hs, h]
  simp
theorem decIR_ino {n : Int} {x : Ino} (hn : 1 ≤ n ∧ n ≤ 39) (h : inoOk x = true) (hp : x.p.length = 9) (hs : prSums x.p) : decIR n (inoB n x) = x := by rw [decIR, if_pos (decIQ_ino hn h hp hs), decI_ino hn h hp hs]
theorem decIQ_other {n m : Int} {x : Ino} (hn : 1 ≤ n ∧ n ≤ 39) (h : inoOk x = true) (hp : x.p.length = 9) (hs : prSums x.p) (hne : m ≠ n) : decIQ m (inoB n x) ≠ 0 := by
  unfold decIQ
  split
  · rename_i hm
    have hm := of_decide_eq_true hm
    rw [inoB_held n x hp, decI_ino hn h hp hs, h]
    split
    · split
      · rename_i hq
        simp only [Bool.true_and, beq_iff_eq] at hq
        exact absurd (inoB_num hm hn h h hp hp hs hs hq) hne
      · simp
    · simp
  · simp
theorem decIR_not {n : Int} {b : List UInt8} (h : decIQ n b ≠ 0) : decIR n b = noI := by rw [decIR, if_neg h]
theorem nodP_nod {l : List Pr} (hl : l.length = 15) (h : ∀ q ∈ l, prOk q = true) (hs : prSums l) : nodP (nodB l) = l := by
  have e := nums_recs (prsR l) (List.replicate (124 - (recs (prsR l)).length) 0 ++ le4 (sumN (padB (recs (prsR l))))) (prsR_ok h hs)
  rw [← sealB_split', prsR_widths, hl, show List.replicate (2 * 15) (4 : Int) = nodeW from rfl, prsN_vals] at e
  have e' : nums (nodB l) nodeW = prsN l := e
  rw [nums_node] at e'
  exact prsN_inj (prsAt_words _ _ _) (prW_all h hs) e'
theorem nodQ_nod {l : List Pr} (hl : l.length = 15) (h : l.all prOk = true) (hs : prSums l) : nodQ (nodB l) = 0 := by
  rw [nodQ, nodB_held l hl, nodP_nod hl (List.all_eq_true.1 h) hs, h]
  simp
theorem nodR_nod {l : List Pr} (hl : l.length = 15) (h : l.all prOk = true) (hs : prSums l) : nodR (nodB l) = l := by rw [nodR, if_pos (nodQ_nod hl h hs), nodP_nod hl (List.all_eq_true.1 h) hs]
theorem nodB_inj {l m : List Pr} (hl : l.length = 15) (hm : m.length = 15) (ol : l.all prOk = true) (om : m.all prOk = true) (sl : prSums l) (sm : prSums m) : nodB l = nodB m ↔ l = m := by
  constructor
  · intro e; rw [← nodP_nod hl (List.all_eq_true.1 ol) sl, e, nodP_nod hm (List.all_eq_true.1 om) sm]
  · rintro rfl; rfl
end Go.Proofs.YtnipfonglheofaaDoor
