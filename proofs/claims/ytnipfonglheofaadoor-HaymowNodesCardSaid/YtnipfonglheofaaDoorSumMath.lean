/-
  Parts of the log and their summaries, as octets; no program is named here.
-/
import Derived.Test.YtnipfonglheofaaDoorMath
import Derived.Test.YtnipfonglheofaaDoorCrcMath
import Derived.Test.YtnipfonglheofaaDoorCrcBits
namespace Go.Proofs.YtnipfonglheofaaDoor
set_option linter.unusedVariables false

/-- an entry -/
structure En where
  kind : Int
  ino : Int
  index : Int
  sum : Nat
/-- a part -/
structure Pt where
  seq : Int
  next : Int
  fin : Bool
  l : List En
theorem En.ext' {x y : En} (h1 : x.kind = y.kind) (h2 : x.ino = y.ino) (h3 : x.index = y.index) (h4 : x.sum = y.sum) : x = y := by
  obtain ⟨a, b, c, d⟩ := x; obtain ⟨a', b', c', d'⟩ := y; simp_all
theorem Pt.ext' {x y : Pt} (h1 : x.seq = y.seq) (h2 : x.next = y.next) (h3 : x.fin = y.fin) (h4 : x.l = y.l) : x = y := by
  obtain ⟨a, b, c, d⟩ := x; obtain ⟨a', b', c', d'⟩ := y; simp_all

def enOk (x : En) : Bool := decide (1 ≤ x.kind ∧ x.kind ≤ 4 ∧ 0 ≤ x.ino ∧ x.ino ≤ 255 ∧ 0 ≤ x.index ∧ x.index ≤ 65535)
theorem enOk_yes {x : En} (h : enOk x = true) : 1 ≤ x.kind ∧ x.kind ≤ 4 ∧ 0 ≤ x.ino ∧ x.ino ≤ 255 ∧ 0 ≤ x.index ∧ x.index ≤ 65535 := by simpa [enOk] using h
def headOk (p : Pt) : Bool := decide (1 ≤ p.seq ∧ p.seq ≤ 281474976710655 ∧ 0 ≤ p.next ∧ p.next ≤ 2147483647 ∧ 1 ≤ p.l.length ∧ p.l.length ≤ 13)
theorem headOk_yes {p : Pt} (h : headOk p = true) : 1 ≤ p.seq ∧ p.seq ≤ 281474976710655 ∧ 0 ≤ p.next ∧ p.next ≤ 2147483647 ∧ 1 ≤ p.l.length ∧ p.l.length ≤ 13 := by simpa [headOk] using h
def ptOk (p : Pt) : Bool := headOk p && p.l.all enOk
theorem ptOk_yes {p : Pt} (h : ptOk p = true) : headOk p = true ∧ ∀ x ∈ p.l, enOk x = true := by
  rw [ptOk, Bool.and_eq_true, List.all_eq_true] at h; exact h
theorem ptOk_mk {p : Pt} (h : headOk p = true) (h' : ∀ x ∈ p.l, enOk x = true) : ptOk p = true := by
  rw [ptOk, Bool.and_eq_true, List.all_eq_true]; exact ⟨h, h'⟩
theorem ptOk_head {p : Pt} (h : headOk p = false) : ptOk p = false := by rw [ptOk, h]; rfl
theorem ptOk_at {p : Pt} {k : Nat} {x : En} (hk : p.l[k]? = some x) (h : enOk x = false) : ptOk p = false := by
  cases hp : ptOk p with
  | false => rfl
  | true => have := (ptOk_yes hp).2 x (List.mem_of_getElem? hk); rw [h] at this; cases this
/-- the sums are words of 32 bits -/
def sumsOk (l : List En) : Prop := ∀ x ∈ l, x.sum < 4294967296
theorem sumsOk_take {l : List En} (h : sumsOk l) (n : Nat) : sumsOk (l.take n) := fun x hx => h x (List.mem_of_mem_take hx)

/-- the record of an entry, and of a part -/
def enR (x : En) : List Num' := [(1, x.kind.toNat), (1, x.ino.toNat), (2, x.index.toNat), (4, x.sum)]
def ensR (l : List En) : List Num' := l.flatMap enR
def finN (b : Bool) : Nat := if b then 1 else 0
def headR (p : Pt) : List Num' := [(4, 1752397165), (6, p.seq.toNat), (4, p.next.toNat), (1, p.l.length), (1, finN p.fin)]
def ptR (p : Pt) : List Num' := headR p ++ ensR p.l
/-- the summary of a part -/
def octB (p : Pt) : List UInt8 := sealB (recs (ptR p))

theorem ensR_cons (x : En) (l : List En) : ensR (x :: l) = enR x ++ ensR l := rfl
theorem ensR_append (a b : List En) : ensR (a ++ b) = ensR a ++ ensR b := by simp [ensR]
theorem ensR_length : ∀ l, (ensR l).length = 4 * l.length
  | [] => rfl
  | x :: l => by rw [ensR_cons, List.length_append, ensR_length l, List.length_cons]; simp [enR]; omega
theorem ensR_take_succ (l : List En) (k : Nat) (x : En) (h : l[k]? = some x) : ensR (l.take (k + 1)) = ensR (l.take k) ++ enR x := by
  rw [List.take_add_one, h, ensR_append]; simp [ensR]
theorem ptR_length (p : Pt) : (ptR p).length = 5 + 4 * p.l.length := by rw [ptR, List.length_append, ensR_length]; simp [headR]
theorem enR_ok {x : En} (h : enOk x = true) (hs : x.sum < 4294967296) : ∀ p ∈ enR x, okN p = true := by
  obtain ⟨h1, h2, h3, h4, h5, h6⟩ := enOk_yes h
  intro p hp
  simp [enR] at hp
  rcases hp with rfl | rfl | rfl | rfl
  all_goals rw [okN_iff]; refine ⟨⟨by simp, by simp⟩, ?_⟩
  · show x.kind.toNat < 256; omega
  · show x.ino.toNat < 256; omega
  · show x.index.toNat < 65536; omega
  · exact hs
theorem ensR_ok {l : List En} (h : ∀ x ∈ l, enOk x = true) (hs : sumsOk l) : ∀ p ∈ ensR l, okN p = true := by
  intro p hp
  obtain ⟨x, hx, hp⟩ := List.mem_flatMap.1 hp
  exact enR_ok (h x hx) (hs x hx) p hp
theorem headR_ok {p : Pt} (h : headOk p = true) : ∀ q ∈ headR p, okN q = true := by
  obtain ⟨h1, h2, h3, h4, h5, h6⟩ := headOk_yes h
  intro q hq
  simp [headR] at hq
  rcases hq with rfl | rfl | rfl | rfl | rfl
  all_goals rw [okN_iff]; refine ⟨⟨by simp, by simp⟩, ?_⟩
  · decide
  · show p.seq.toNat < 281474976710656; omega
  · show p.next.toNat < 4294967296; omega
  · show p.l.length < 256; omega
  · show finN p.fin < 256; unfold finN; split <;> omega
theorem ptR_ok {p : Pt} (h : ptOk p = true) (hs : sumsOk p.l) : ∀ q ∈ ptR p, okN q = true := by
  obtain ⟨h1, h2⟩ := ptOk_yes h
  intro q hq
  rcases List.mem_append.1 hq with hq | hq
  · exact headR_ok h1 q hq
  · exact ensR_ok h2 hs q hq
theorem codeL_ptR {p : Pt} (h : ptOk p = true) (hs : sumsOk p.l) : codeL (ptR p) = 0 := (codeL_zero _).2 (ptR_ok h hs)
theorem recs_enR (x : En) : (recs (enR x)).length = 8 := by simp [recs, enR, be_length]
theorem recs_ensR : ∀ l, (recs (ensR l)).length = 8 * l.length
  | [] => rfl
  | x :: l => by rw [ensR_cons, recs_append, List.length_append, recs_enR, recs_ensR l, List.length_cons]; omega
theorem recs_headR (p : Pt) : (recs (headR p)).length = 16 := by simp [recs, headR, be_length]
theorem recs_ptR (p : Pt) : (recs (ptR p)).length = 16 + 8 * p.l.length := by rw [ptR, recs_append, List.length_append, recs_headR, recs_ensR]
theorem octB_len (p : Pt) (h : p.l.length ≤ 13) : (octB p).length = 128 := sealB_length _ (by rw [recs_ptR]; omega)
theorem octB_held (p : Pt) (h : p.l.length ≤ 13) : heldB (octB p) = true := heldB_seal _ (by rw [recs_ptR]; omega)
theorem numsV_bound {l : List Num'} (h : ∀ q ∈ l, okN q = true) : ∀ q ∈ l, q.2 < 18446744073709551616 := by
  intro q hq
  have h1 := (okN_iff q).1 (h q hq)
  have h2 : 256 ^ q.1.toNat ≤ 256 ^ 8 := Nat.pow_le_pow_right (by omega) (by omega)
  have h3 : (256 : Nat) ^ 8 = 18446744073709551616 := by decide
  omega

/-- what stands in a block -/
def seqN (b : List UInt8) : Nat := valB ((b.drop 4).take 6)
def nextN (b : List UInt8) : Nat := valB ((b.drop 10).take 4)
def cntN (b : List UInt8) : Nat := valB ((b.drop 14).take 1)
def endN (b : List UInt8) : Nat := valB ((b.drop 15).take 1)
def enAt (b : List UInt8) (o : Nat) : En := ⟨valB ((b.drop o).take 1), valB ((b.drop (o + 1)).take 1), valB ((b.drop (o + 2)).take 2), valB ((b.drop (o + 4)).take 4)⟩
def ensAt (b : List UInt8) (o n : Nat) : List En := (List.range n).map fun k => enAt b (o + 8 * k)
def headW : List Int := [4, 6, 4, 1, 1]
def entW : List Int := [1, 1, 2, 4]
theorem nums_head (b : List UInt8) : nums b headW = [valB (b.take 4), seqN b, nextN b, cntN b, endN b] := by
  simp [nums, headW, seqN, nextN, cntN, endN, List.drop_drop]
theorem nums_ent (b : List UInt8) (o : Nat) : nums (b.drop o) entW = [valB ((b.drop o).take 1), valB ((b.drop (o + 1)).take 1), valB ((b.drop (o + 2)).take 2), valB ((b.drop (o + 4)).take 4)] := by
  simp [nums, entW, List.drop_drop]
theorem valB_pow' (l : List UInt8) (n : Nat) (h : l.length ≤ n) : valB l < 256 ^ n := Nat.lt_of_lt_of_le (valB_lt l) (pow256_le h)
theorem seqN_lt (b : List UInt8) : seqN b < 281474976710656 := valB_pow' _ 6 (by simp; omega)
theorem nextN_lt (b : List UInt8) : nextN b < 4294967296 := valB_pow' _ 4 (by simp; omega)
theorem cntN_lt (b : List UInt8) : cntN b < 256 := valB_pow' _ 1 (by simp; omega)
theorem endN_lt (b : List UInt8) : endN b < 256 := valB_pow' _ 1 (by simp; omega)
theorem enAt_lt (b : List UInt8) (o : Nat) : valB ((b.drop o).take 1) < 256 ∧ valB ((b.drop (o + 1)).take 1) < 256 ∧ valB ((b.drop (o + 2)).take 2) < 65536 ∧ valB ((b.drop (o + 4)).take 4) < 4294967296 :=
  ⟨valB_pow' _ 1 (by simp; omega), valB_pow' _ 1 (by simp; omega), valB_pow' _ 2 (by simp; omega), valB_pow' _ 4 (by simp; omega)⟩
theorem ensAt_length (b : List UInt8) (o n : Nat) : (ensAt b o n).length = n := by simp [ensAt]
theorem ensAt_succ (b : List UInt8) (o n : Nat) : ensAt b o (n + 1) = ensAt b o n ++ [enAt b (o + 8 * n)] := by simp [ensAt, List.range_succ]
theorem ensAt_sums (b : List UInt8) (o n : Nat) : sumsOk (ensAt b o n) := by
  intro x hx
  obtain ⟨k, _, rfl⟩ := List.mem_map.1 hx
  exact (enAt_lt b _).2.2.2
theorem ensAt_get (b : List UInt8) (o n k : Nat) (h : k < n) : (ensAt b o n)[k]? = some (enAt b (o + 8 * k)) := by simp [ensAt, h]

/-- what a block is, read as a summary -/
def decP (b : List UInt8) : Pt := ⟨seqN b, nextN b, endN b == 1, ensAt b 16 (min (cntN b) 14)⟩
def noP : Pt := ⟨0, 0, false, []⟩
def decQ (b : List UInt8) : Int := if heldB b then (if ptOk (decP b) && (octB (decP b) == b) then 0 else 3) else 5
def decR (b : List UInt8) : Pt := if decQ b = 0 then decP b else noP

theorem decP_sums (b : List UInt8) : sumsOk (decP b).l := ensAt_sums _ _ _
theorem decR_sums (b : List UInt8) : sumsOk (decR b).l := by
  unfold decR
  split
  · exact decP_sums b
  · intro x hx; simp [noP] at hx
theorem sealB_split' (l : List UInt8) : sealB l = l ++ (List.replicate (124 - l.length) 0 ++ le4 (sumN (padB l))) := by rw [sealB]; exact List.append_assoc l _ _
theorem octB_split (p : Pt) : ∃ rest, octB p = recs (headR p) ++ (recs (ensR p.l) ++ rest) := ⟨_, by rw [octB, sealB_split', ptR, recs_append, List.append_assoc]⟩
theorem enAt_rec (x : En) (h : enOk x = true) (hs : x.sum < 4294967296) (b rest : List UInt8) (o : Nat) (hb : b.drop o = recs (enR x) ++ rest) : enAt b o = x := by
  obtain ⟨h1, h2, h3, h4, h5, h6⟩ := enOk_yes h
  have e := nums_recs (enR x) rest (enR_ok h hs)
  rw [← hb] at e
  have e' := nums_ent b o
  have hw : (enR x).map (·.1) = entW := rfl
  rw [hw, e'] at e
  simp only [enR, List.map_cons, List.map_nil, List.cons.injEq, and_true] at e
  obtain ⟨e1, e2, e3, e4⟩ := e
  exact En.ext' (show ((valB ((b.drop o).take 1) : Nat) : Int) = _ by omega) (show ((valB ((b.drop (o + 1)).take 1) : Nat) : Int) = _ by omega) (show ((valB ((b.drop (o + 2)).take 2) : Nat) : Int) = _ by omega) e4
theorem ensAt_rec : ∀ (l : List En) (b rest : List UInt8) (o : Nat), (∀ x ∈ l, enOk x = true) → sumsOk l → b.drop o = recs (ensR l) ++ rest → ∀ k, (h : k < l.length) → enAt b (o + 8 * k) = l[k]
  | [], _, _, _, _, _, _, k, h => by simp at h
  | x :: l, b, rest, o, ho, hs, hb, 0, h => enAt_rec x (ho x (by simp)) (hs x (by simp)) b (recs (ensR l) ++ rest) o (by rw [hb, ensR_cons, recs_append, List.append_assoc])
  | x :: l, b, rest, o, ho, hs, hb, k + 1, h => by
    have ih := ensAt_rec l b rest (o + 8) (fun y hy => ho y (by simp [hy])) (fun y hy => hs y (by simp [hy]))
      (by rw [← List.drop_drop, hb, ensR_cons, recs_append, List.append_assoc, List.drop_append_of_le_length (by rw [recs_enR]; exact Nat.le_refl _), List.drop_of_length_le (by rw [recs_enR]; exact Nat.le_refl _), List.nil_append]) k (by simpa using h)
    rw [show o + 8 * (k + 1) = o + 8 + 8 * k from by omega, ih]
    rfl
theorem decP_oct {p : Pt} (h : ptOk p = true) (hs : sumsOk p.l) : decP (octB p) = p := by
  obtain ⟨hh, he⟩ := ptOk_yes h
  obtain ⟨h1, h2, h3, h4, h5, h6⟩ := headOk_yes hh
  obtain ⟨rest, hr⟩ := octB_split p
  have e := nums_recs (headR p) (recs (ensR p.l) ++ rest) (headR_ok hh)
  rw [← hr] at e
  have hw : (headR p).map (·.1) = headW := rfl
  rw [hw, nums_head] at e
  simp only [headR, List.map_cons, List.map_nil, List.cons.injEq, and_true] at e
  obtain ⟨e0, e1, e2, e3, e4⟩ := e
  have hd : (octB p).drop 16 = recs (ensR p.l) ++ rest := by
    rw [hr, List.drop_append_of_le_length (by rw [recs_headR]; exact Nat.le_refl _), List.drop_of_length_le (by rw [recs_headR]; exact Nat.le_refl _), List.nil_append]
  refine Pt.ext' (show ((seqN _ : Nat) : Int) = _ by omega) (show ((nextN _ : Nat) : Int) = _ by omega) ?_ ?_
  · show (endN (octB p) == 1) = p.fin
    rw [e4]; cases p.fin <;> rfl
  · show ensAt (octB p) 16 (min (cntN (octB p)) 14) = p.l
    rw [e3, show min p.l.length 14 = p.l.length from by omega]
    apply List.ext_getElem (by rw [ensAt_length])
    intro k hk hk'
    simp only [ensAt, List.getElem_map, List.getElem_range]
    exact ensAt_rec p.l _ rest 16 he hs hd k hk'
theorem decQ_oct {p : Pt} (h : ptOk p = true) (hs : sumsOk p.l) : decQ (octB p) = 0 := by
  rw [decQ, octB_held p (headOk_yes (ptOk_yes h).1).2.2.2.2.2, decP_oct h hs, h]
  simp
theorem decR_oct {p : Pt} (h : ptOk p = true) (hs : sumsOk p.l) : decR (octB p) = p := by rw [decR, if_pos (decQ_oct h hs), decP_oct h hs]
theorem octB_inj {p q : Pt} (hp : ptOk p = true) (hq : ptOk q = true) (sp : sumsOk p.l) (sq : sumsOk q.l) : octB p = octB q ↔ p = q := by
  constructor
  · intro e; rw [← decP_oct hp sp, e, decP_oct hq sq]
  · rintro rfl; rfl
theorem decQ_vals (b : List UInt8) : decQ b = 0 ∨ decQ b = 3 ∨ decQ b = 5 := by
  unfold decQ
  split
  · split <;> simp
  · simp
theorem decQ_short {b : List UInt8} (h : heldB b = false) : decQ b = 5 := by rw [decQ, h]; rfl
theorem heldB_128 {b : List UInt8} (h : heldB b = true) : b.length = 128 := by
  unfold heldB at h
  simp only [Bool.and_eq_true, decide_eq_true_eq] at h
  exact h.1
/-- too many entries: refused -/
theorem decQ_many {b : List UInt8} (h : heldB b = true) (hc : 13 < cntN b) : decQ b = 3 := by
  rw [decQ, h, if_pos rfl, ptOk_head, Bool.false_and]
  · rfl
  · have : (decP b).l.length = 14 := by show (ensAt b 16 (min (cntN b) 14)).length = 14; rw [ensAt_length]; omega
    simp [headOk, this]

/-! Entries with their blocks -/
def withSums : List En → List (List UInt8) → List En
  | x :: l, b :: bs => { x with sum := sumN b } :: withSums l bs
  | _, _ => []
theorem withSums_length : ∀ (l : List En) (bs : List (List UInt8)), l.length = bs.length → (withSums l bs).length = l.length
  | [], [], _ => rfl
  | [], _ :: _, h => by simp at h
  | _ :: _, [], h => by simp at h
  | x :: l, b :: bs, h => by rw [withSums, List.length_cons, withSums_length l bs (by simpa using h)]; rfl
theorem withSums_get : ∀ (l : List En) (bs : List (List UInt8)) (k : Nat) (x : En) (b : List UInt8), l[k]? = some x → bs[k]? = some b → (withSums l bs)[k]? = some { x with sum := sumN b }
  | [], _, k, x, b, h, _ => by simp at h
  | _ :: _, [], k, x, b, _, h => by simp at h
  | y :: l, c :: bs, 0, x, b, h, h' => by simp at h h'; subst h; subst h'; rfl
  | y :: l, c :: bs, k + 1, x, b, h, h' => by
    have := withSums_get l bs k x b (by simpa using h) (by simpa using h')
    simpa [withSums] using this
theorem withSums_sums : ∀ (l : List En) (bs : List (List UInt8)), sumsOk (withSums l bs)
  | [], _ => fun x hx => by simp [withSums] at hx
  | _ :: _, [] => fun x hx => by simp [withSums] at hx
  | x :: l, b :: bs => fun y hy => by
    simp only [withSums, List.mem_cons] at hy
    rcases hy with rfl | hy
    · exact sumN_lt b
    · exact withSums_sums l bs y hy
theorem withSums_ok : ∀ (l : List En) (bs : List (List UInt8)), l.length = bs.length → (withSums l bs).all enOk = l.all enOk
  | [], [], _ => rfl
  | [], _ :: _, h => by simp at h
  | _ :: _, [], h => by simp at h
  | x :: l, b :: bs, h => by rw [withSums, List.all_cons, List.all_cons, withSums_ok l bs (by simpa using h)]; rfl
theorem ptOk_with (s n : Int) (f : Bool) (l : List En) (bs : List (List UInt8)) (h : l.length = bs.length) : ptOk ⟨s, n, f, withSums l bs⟩ = ptOk ⟨s, n, f, l⟩ := by
  simp only [ptOk, headOk, withSums_ok l bs h, withSums_length l bs h]
/-- each entry has a block -/
def Pair (l : List En) (bs : List (List UInt8)) : Prop := l.length = bs.length ∧ ∀ b ∈ bs, b.length = 128
/-- the blocks are those of the part -/
def WholeP (p : Pt) (bs : List (List UInt8)) : Prop := ptOk p = true ∧ Pair p.l bs ∧ ∀ (k : Nat) (x : En) (b : List UInt8), p.l[k]? = some x → bs[k]? = some b → sumN b = x.sum
theorem whole_of (s n : Int) (f : Bool) (l : List En) (bs : List (List UInt8)) (h : ptOk ⟨s, n, f, l⟩ = true) (hp : Pair l bs) : WholeP ⟨s, n, f, withSums l bs⟩ bs := by
  refine ⟨by rw [ptOk_with _ _ _ _ _ hp.1]; exact h, ⟨by rw [show (Pt.mk s n f (withSums l bs)).l = withSums l bs from rfl, withSums_length l bs hp.1]; exact hp.1, hp.2⟩, ?_⟩
  intro k x b hx hb
  have hk : k < l.length := by
    have := (List.getElem?_eq_some_iff.1 hb).1
    have := hp.1
    omega
  rw [show (Pt.mk s n f (withSums l bs)).l = withSums l bs from rfl, withSums_get l bs k _ b (List.getElem?_eq_getElem hk) hb] at hx
  cases hx
  rfl
/-- one of the blocks has another sum: not whole -/
theorem whole_turned (s n : Int) (f : Bool) (l : List En) (bs : List (List UInt8)) (i : Nat) (b b' : List UInt8) (hl : l.length = bs.length) (hb : bs[i]? = some b) (hne : sumN b' ≠ sumN b) (cs : List (List UInt8)) (hc : cs[i]? = some b') : ¬ WholeP ⟨s, n, f, withSums l bs⟩ cs := by
  rintro ⟨_, _, h⟩
  have hi := (List.getElem?_eq_some_iff.1 hb).1
  have hk : i < l.length := by omega
  have := h i _ b' (withSums_get l bs i _ b (List.getElem?_eq_getElem hk) hb) hc
  exact hne this
/-- a block with up to 32 bits beside one another turned over has another sum -/
theorem sum_turned (l l' : List UInt8) (turn k : Nat) (h : l.length = 128) (h' : l'.length = 128) (ht : turn < 4294967296) (h0 : turn ≠ 0) (hk : k ≤ 992) (e : leN l' = leN l ^^^ (turn * 2 ^ k)) : sumN l' ≠ sumN l := by
  intro hs
  have h1 : regN 4294967295 l' = regN 4294967295 l := by
    have a := regN_lt (w := 4294967295) l' (by omega)
    have b := regN_lt (w := 4294967295) l (by omega)
    unfold sumN at hs
    omega
  rw [regN_eq, regN_eq, h, h', e, ← Nat.xor_assoc, stepN_xor] at h1
  have h3 : stepN (8 * 128) (turn * 2 ^ k) = 0 := by
    have := congrArg (stepN (8 * 128) (4294967295 ^^^ leN l) ^^^ ·) h1
    simpa [← Nat.xor_assoc] using this
  rw [show 8 * 128 = k + (1024 - k) from by omega, stepN_add, Nat.mul_comm, stepN_shift] at h3
  exact h0 (stepN_ne _ ht h3)
end Go.Proofs.YtnipfonglheofaaDoor
