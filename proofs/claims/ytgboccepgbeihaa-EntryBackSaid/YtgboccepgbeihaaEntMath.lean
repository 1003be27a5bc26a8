/-
  Entries of a directory over lists: which may be, their octets, what is found, added, taken away; no program is named here.
-/
import Derived.Test.YtgboccepgbeihaaTitMath2
import Derived.Test.YtgboccepgbeihaaTitOrd
namespace Go.Proofs.Ytgboccepgbeihaa
set_option linter.unusedVariables false
set_option maxRecDepth 100000

/-- an entry -/
structure Et where
  name : List UInt8
  ino : Int
  ty : Int
  deriving DecidableEq
def noE : Et := ⟨[], 0, 0⟩
def rightE (x : Et) : Bool := decide (1 ≤ x.ino ∧ x.ino ≤ 39 ∧ (x.ty = 1 ∨ x.ty = 2))
def okE (x : Et) : Bool := isT x.name && rightE x
def ltE (x y : Et) : Prop := ordT x.name y.name = -1
instance (x y : Et) : Decidable (ltE x y) := inferInstanceAs (Decidable (_ = _))
def mayE (l : List Et) : Bool := l.all okE && decide (l.Pairwise ltE) && decide (l.length ≤ 30)
def ent1 (x : Et) : List UInt8 := [UInt8.ofNat x.ino.toNat, UInt8.ofNat x.ty.toNat, UInt8.ofNat x.name.length] ++ x.name
def encE (l : List Et) : List UInt8 := l.flatMap ent1
/-- octets cut at the entries' ends -/
def splitE (b : List UInt8) : Option (List Et) :=
  match b with
  | [] => some []
  | i :: t :: k :: r => if k.toNat ≤ r.length then (splitE (r.drop k.toNat)).map (⟨r.take k.toNat, (i.toNat : Int), (t.toNat : Int)⟩ :: ·) else none
  | _ => none
  termination_by b.length
  decreasing_by simp only [List.length_drop, List.length_cons]; omega
def decE (b : List UInt8) : Option (List Et) := (splitE b).bind fun l => if mayE l then some l else none
def hasE (l : List Et) (s : List UInt8) : Bool := l.any fun x => decide (x.name = s)
def getE (l : List Et) (s : List UInt8) : Et := (l.find? fun x => decide (x.name = s)).getD noE
/-- found: the error's number -/
def findQ (l : List Et) (s : List UInt8) : Int := if mayE l = false then 1 else if isT s = false then 11 else if hasE l s = false then 6 else 0
def findR (l : List Et) (s : List UInt8) : Et := if findQ l s = 0 then getE l s else noE
def addQ (l : List Et) (x : Et) : Int := if mayE l = false then 1 else if isT x.name = false then 11 else if rightE x = false then 1 else if hasE l x.name = true then 7 else if 30 ≤ l.length then 8 else 0
def putE (l : List Et) (x : Et) : List Et := l.filter (fun y => decide (ordT y.name x.name < 0)) ++ x :: l.filter (fun y => decide (0 < ordT y.name x.name))
def addR (l : List Et) (x : Et) : List Et := if addQ l x = 0 then putE l x else []
def cutE (l : List Et) (s : List UInt8) : List Et := l.filter fun y => decide (y.name ≠ s)
def takeR (l : List Et) (s : List UInt8) : List Et := if findQ l s = 0 then cutE l s else []

/-! the order -/
theorem ord_cases (a b : List UInt8) : ordT a b = -1 ∨ a = b ∨ ordT b a = -1 := by
  have h := ordT_range a b
  have h2 := ordT_neg a b
  rcases (show ordT a b = -1 ∨ ordT a b = 0 ∨ ordT a b = 1 by omega) with h1 | h1 | h1
  · exact .inl h1
  · exact .inr (.inl ((ordT_zero a b).1 h1))
  · exact .inr (.inr (by omega))
theorem ord_self (a : List UInt8) : ordT a a = 0 := (ordT_zero a a).2 rfl
theorem ord_trans {a b c : List UInt8} (h1 : ordT a b = -1) (h2 : ordT b c = -1) : ordT a c = -1 := by
  have h := ordT_trans a b c (by omega) (by omega)
  have hr := ordT_range a c
  rcases (show ordT a c = -1 ∨ ordT a c = 0 by omega) with h3 | h3
  · exact h3
  · obtain rfl := (ordT_zero a c).1 h3
    have := ordT_neg a b
    omega
theorem ltE.trans {x y z : Et} (h1 : ltE x y) (h2 : ltE y z) : ltE x z := ord_trans h1 h2
theorem ltE.ne {x y : Et} (h : ltE x y) : x.name ≠ y.name := fun e => by
  unfold ltE at h; rw [e, ord_self] at h; omega
theorem ltE.asymm {x y : Et} (h : ltE x y) (h' : ltE y x) : False := (h.trans h').ne rfl
theorem lt_neg {x y : Et} : ordT y.name x.name < 0 ↔ ltE y x := by
  have := ordT_range y.name x.name
  unfold ltE; omega
theorem lt_pos {x y : Et} : 0 < ordT y.name x.name ↔ ltE x y := by
  have := ordT_range y.name x.name
  have := ordT_neg y.name x.name
  unfold ltE; omega

theorem mayE_iff (l : List Et) : mayE l = true ↔ (∀ x ∈ l, okE x = true) ∧ l.Pairwise ltE ∧ l.length ≤ 30 := by
  unfold mayE
  rw [Bool.and_eq_true, Bool.and_eq_true, List.all_eq_true, decide_eq_true_eq, decide_eq_true_eq, and_assoc]
theorem ok_name {x : Et} (h : okE x = true) : isT x.name = true ∧ rightE x = true := by rwa [okE, Bool.and_eq_true] at h
theorem right_iff (x : Et) : rightE x = true ↔ 1 ≤ x.ino ∧ x.ino ≤ 39 ∧ (x.ty = 1 ∨ x.ty = 2) := by unfold rightE; rw [decide_eq_true_eq]
theorem isT_len {l : List UInt8} (h : isT l = true) : 1 ≤ l.length ∧ l.length ≤ 24 := by
  unfold isT at h
  rw [Bool.and_eq_true, decide_eq_true_eq] at h
  omega
theorem mayE_nil : mayE [] = true := by decide
/-- a beginning with one more -/
theorem pair_snoc {P : List Et} {a b : Et} (h : (P ++ [a]).Pairwise ltE) (hab : ltE a b) : ((P ++ [a]) ++ [b]).Pairwise ltE := by
  rw [List.pairwise_append]
  refine ⟨h, List.pairwise_singleton _ _, fun x hx y hy => ?_⟩
  obtain rfl := List.mem_singleton.1 hy
  rcases List.mem_append.1 hx with hx | hx
  · exact ((List.pairwise_append.1 h).2.2 x hx a (by simp)).trans hab
  · obtain rfl := List.mem_singleton.1 hx; exact hab

/-! octets -/
theorem splitE_one (x : Et) (r : List UInt8) (h : okE x = true) : splitE (ent1 x ++ r) = (splitE r).map (x :: ·) := by
  obtain ⟨h1, h2⟩ := ok_name h
  obtain ⟨h3, h4, h5⟩ := (right_iff x).1 h2
  have h6 := isT_len h1
  obtain ⟨nm, i, t⟩ := x
  simp only at h3 h4 h5 h6
  have e1 : (UInt8.ofNat i.toNat).toNat = i.toNat := by rw [UInt8.toNat_ofNat']; omega
  have e2 : (UInt8.ofNat t.toNat).toNat = t.toNat := by rw [UInt8.toNat_ofNat']; omega
  have e3 : (UInt8.ofNat nm.length).toNat = nm.length := by rw [UInt8.toNat_ofNat']; omega
  show splitE (UInt8.ofNat i.toNat :: UInt8.ofNat t.toNat :: UInt8.ofNat nm.length :: (nm ++ r)) = _
  rw [splitE, if_pos (by rw [e3, List.length_append]; omega), e1, e2, e3, List.drop_left, List.take_left]
  rw [show ((i.toNat : Nat) : Int) = i by omega, show ((t.toNat : Nat) : Int) = t by omega]
theorem splitE_enc (l : List Et) (h : ∀ x ∈ l, okE x = true) : splitE (encE l) = some l := by
  induction l with
  | nil => rw [show encE [] = [] from rfl, splitE]
  | cons x l ih =>
    rw [show encE (x :: l) = ent1 x ++ encE l from rfl, splitE_one x _ (h x (by simp)), ih fun y hy => h y (by simp [hy])]; rfl
theorem decE_enc {l : List Et} (h : mayE l = true) : decE (encE l) = some l := by
  unfold decE
  rw [splitE_enc l ((mayE_iff l).1 h).1]
  simp [h]
theorem encE_inj {a b : List Et} (ha : mayE a = true) (hb : mayE b = true) (h : encE a = encE b) : a = b := by
  have h1 := decE_enc ha
  rw [h, decE_enc hb] at h1
  injection h1 with h1
  exact h1.symm

/-! what is there -/
theorem hasE_iff (l : List Et) (s : List UInt8) : hasE l s = true ↔ ∃ x ∈ l, x.name = s := by
  unfold hasE
  rw [List.any_eq_true]
  exact ⟨fun ⟨x, h1, h2⟩ => ⟨x, h1, of_decide_eq_true h2⟩, fun ⟨x, h1, h2⟩ => ⟨x, h1, decide_eq_true h2⟩⟩
theorem same_name {l : List Et} (hp : l.Pairwise ltE) {x y : Et} (hx : x ∈ l) (hy : y ∈ l) (h : x.name = y.name) : x = y := by
  induction l with
  | nil => cases hx
  | cons a l ih =>
    rw [List.pairwise_cons] at hp
    rcases List.mem_cons.1 hx with rfl | hx'
    · rcases List.mem_cons.1 hy with rfl | hy'
      · rfl
      · exact absurd h (hp.1 y hy').ne
    · rcases List.mem_cons.1 hy with rfl | hy'
      · exact absurd h.symm (hp.1 x hx').ne
      · exact ih hp.2 hx' hy'
theorem getE_mem {l : List Et} (hp : l.Pairwise ltE) {x : Et} (hx : x ∈ l) : getE l x.name = x := by
  unfold getE
  cases h : l.find? fun y => decide (y.name = x.name) with
  | none =>
    have := List.find?_eq_none.1 h x hx
    simp at this
  | some y =>
    have h1 := List.find?_some h
    have h2 := List.mem_of_find?_eq_some h
    rw [decide_eq_true_eq] at h1
    exact same_name hp h2 hx h1
/-- two lists in order with the same ones are the same -/
theorem pair_ext : ∀ {a b : List Et}, a.Pairwise ltE → b.Pairwise ltE → (∀ x, x ∈ a ↔ x ∈ b) → a = b
  | [], [], _, _, _ => rfl
  | [], y :: b, _, _, h => absurd ((h y).2 (by simp)) (by simp)
  | x :: a, [], _, _, h => absurd ((h x).1 (by simp)) (by simp)
  | x :: a, y :: b, ha, hb, h => by
    rw [List.pairwise_cons] at ha hb
    have hxy : x = y := by
      rcases List.mem_cons.1 ((h x).1 (by simp)) with e | hx
      · exact e
      · rcases List.mem_cons.1 ((h y).2 (by simp)) with e | hy
        · exact e.symm
        · exact ((ha.1 y hy).asymm (hb.1 x hx)).elim
    subst hxy
    refine congrArg _ (pair_ext ha.2 hb.2 fun z => ⟨fun hz => ?_, fun hz => ?_⟩)
    · rcases List.mem_cons.1 ((h z).1 (by simp [hz])) with e | hz'
      · subst e; exact absurd rfl (ha.1 _ hz).ne
      · exact hz'
    · rcases List.mem_cons.1 ((h z).2 (by simp [hz])) with e | hz'
      · subst e; exact absurd rfl (hb.1 _ hz).ne
      · exact hz'

/-! added -/
theorem putE_mem {l : List Et} {x y : Et} (h : hasE l x.name = false) : y ∈ putE l x ↔ y = x ∨ y ∈ l := by
  unfold putE
  simp only [List.mem_append, List.mem_cons, List.mem_filter, decide_eq_true_eq, lt_neg, lt_pos]
  constructor
  · rintro (⟨h1, _⟩ | h1 | ⟨h1, _⟩)
    · exact .inr h1
    · exact .inl h1
    · exact .inr h1
  · rintro (h1 | h1)
    · exact .inr (.inl h1)
    · rcases ord_cases y.name x.name with h2 | h2 | h2
      · exact .inl ⟨h1, h2⟩
      · exfalso
        rw [(hasE_iff l x.name).2 ⟨y, h1, h2⟩] at h; cases h
      · exact .inr (.inr ⟨h1, h2⟩)
theorem putE_pair {l : List Et} {x : Et} (hp : l.Pairwise ltE) : (putE l x).Pairwise ltE := by
  unfold putE
  rw [List.pairwise_append, List.pairwise_cons]
  refine ⟨hp.filter _, ⟨fun y hy => ?_, hp.filter _⟩, fun y hy z hz => ?_⟩
  · rw [List.mem_filter, decide_eq_true_eq, lt_pos] at hy
    exact hy.2
  · rw [List.mem_filter, decide_eq_true_eq, lt_neg] at hy
    rcases List.mem_cons.1 hz with rfl | hz
    · exact hy.2
    · rw [List.mem_filter, decide_eq_true_eq, lt_pos] at hz
      exact hy.2.trans hz.2
theorem len_filter (p : Et → Bool) : ∀ l : List Et, (l.filter p).length + (l.filter fun x => !p x).length = l.length
  | [] => rfl
  | x :: l => by
    have := len_filter p l
    cases h : p x
    · rw [List.filter_cons_of_neg (by simp [h]), List.filter_cons_of_pos (by simp [h])]; simp only [List.length_cons]; omega
    · rw [List.filter_cons_of_pos (by simp [h]), List.filter_cons_of_neg (by simp [h])]; simp only [List.length_cons]; omega
theorem putE_len {l : List Et} {x : Et} (h : hasE l x.name = false) : (putE l x).length = l.length + 1 := by
  have hz : ∀ y ∈ l, decide (0 < ordT y.name x.name) = !decide (ordT y.name x.name < 0) := fun y hy => by
    have h0 : ordT y.name x.name ≠ 0 := fun e => by
      rw [(hasE_iff l x.name).2 ⟨y, hy, (ordT_zero _ _).1 e⟩] at h; cases h
    by_cases h1 : ordT y.name x.name < 0
    · rw [decide_eq_true h1, decide_eq_false (by omega)]; rfl
    · rw [decide_eq_false h1, decide_eq_true (by omega)]; rfl
  unfold putE
  rw [List.length_append, List.length_cons, List.filter_congr hz]
  have := len_filter (fun y : Et => decide (ordT y.name x.name < 0)) l
  omega
theorem addQ_zero {l : List Et} {x : Et} : addQ l x = 0 ↔ mayE l = true ∧ okE x = true ∧ hasE l x.name = false ∧ l.length < 30 := by
  unfold addQ okE
  cases h1 : mayE l <;> cases h2 : isT x.name <;> cases h3 : rightE x <;> cases h4 : hasE l x.name <;> simp
theorem addR_may {l : List Et} {x : Et} (h : addQ l x = 0) : mayE (putE l x) = true ∧ (putE l x).length = l.length + 1 := by
  obtain ⟨h1, h2, h3, h4⟩ := addQ_zero.1 h
  obtain ⟨a, b, c⟩ := (mayE_iff l).1 h1
  refine ⟨(mayE_iff _).2 ⟨fun y hy => ?_, putE_pair b, by rw [putE_len h3]; omega⟩, putE_len h3⟩
  rcases (putE_mem h3).1 hy with rfl | hy
  · exact h2
  · exact a y hy
theorem findQ_zero {l : List Et} {s : List UInt8} : findQ l s = 0 ↔ mayE l = true ∧ isT s = true ∧ hasE l s = true := by
  unfold findQ
  cases h1 : mayE l <;> cases h2 : isT s <;> cases h3 : hasE l s <;> simp
theorem find_mem {l : List Et} {x : Et} (hm : mayE l = true) (hx : x ∈ l) : findQ l x.name = 0 ∧ findR l x.name = x := by
  obtain ⟨a, b, c⟩ := (mayE_iff l).1 hm
  have h0 := findQ_zero.2 ⟨hm, (ok_name (a x hx)).1, (hasE_iff l x.name).2 ⟨x, hx, rfl⟩⟩
  exact ⟨h0, by rw [findR, if_pos h0, getE_mem b hx]⟩
theorem find_added {l : List Et} {x : Et} (h : addQ l x = 0) : findQ (putE l x) x.name = 0 ∧ findR (putE l x) x.name = x ∧
    (∀ z ∈ l, findQ (putE l x) z.name = 0 ∧ findR (putE l x) z.name = z) ∧ cutE (putE l x) x.name = l := by
  obtain ⟨h1, h2, h3, h4⟩ := addQ_zero.1 h
  obtain ⟨a, b, c⟩ := (mayE_iff l).1 h1
  have hm := (addR_may h).1
  have m1 := find_mem hm ((putE_mem h3).2 (.inl rfl))
  refine ⟨m1.1, m1.2, fun z hz => find_mem hm ((putE_mem h3).2 (.inr hz)), ?_⟩
  refine pair_ext ((putE_pair b).filter _) b fun y => ?_
  rw [cutE, List.mem_filter, putE_mem h3, decide_eq_true_eq]
  constructor
  · rintro ⟨rfl | hy, hn⟩
    · exact absurd rfl hn
    · exact hy
  · intro hy
    refine ⟨.inr hy, fun e => ?_⟩
    rw [(hasE_iff l x.name).2 ⟨y, hy, e⟩] at h3; cases h3
theorem cut_len {l : List Et} (hp : l.Pairwise ltE) {s : List UInt8} (h : hasE l s = true) : (cutE l s).length + 1 = l.length := by
  induction l with
  | nil => cases h
  | cons a l ih =>
    rw [List.pairwise_cons] at hp
    unfold cutE
    by_cases ha : a.name = s
    · rw [List.filter_cons_of_neg (by simpa using ha)]
      have : l.filter (fun y => decide (y.name ≠ s)) = l := by
        rw [List.filter_eq_self]
        intro y hy
        rw [decide_eq_true_eq]
        intro e
        exact (hp.1 y hy).ne (ha.trans e.symm)
      rw [this]; rfl
    · rw [List.filter_cons_of_pos (by simpa using ha)]
      have h' : hasE l s = true := by
        obtain ⟨x, hx, e⟩ := (hasE_iff _ _).1 h
        rcases List.mem_cons.1 hx with rfl | hx
        · exact absurd e ha
        · exact (hasE_iff _ _).2 ⟨x, hx, e⟩
      have := ih hp.2 h'
      unfold cutE at this
      simp only [List.length_cons]; omega
theorem taken {l : List Et} {s : List UInt8} (h : findQ l s = 0) : mayE (cutE l s) = true ∧ (cutE l s).length + 1 = l.length ∧ findQ (cutE l s) s = 6 := by
  obtain ⟨h1, h2, h3⟩ := findQ_zero.1 h
  obtain ⟨a, b, c⟩ := (mayE_iff l).1 h1
  have hl := cut_len b h3
  have hm : mayE (cutE l s) = true := (mayE_iff _).2 ⟨fun y hy => a y (List.mem_filter.1 hy).1, b.filter _, by omega⟩
  refine ⟨hm, hl, ?_⟩
  have hn : hasE (cutE l s) s = false := by
    rw [Bool.eq_false_iff]
    intro hh
    obtain ⟨x, hx, e⟩ := (hasE_iff _ _).1 hh
    have := (List.mem_filter.1 hx).2
    rw [decide_eq_true_eq] at this
    exact this e
  unfold findQ
  rw [hm, h2, hn]; rfl
end Go.Proofs.Ytgboccepgbeihaa
