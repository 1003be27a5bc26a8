/-
  What the functions of entry answer, as properties (shown of the landed code elsewhere); the law's few and Few; the chapter's examples by the properties.
-/
import Derived.Test.YtgboccepgbeihaaRef10b
import Derived.Test.YtgboccepgbeihaaRef10d
import Derived.Test.YtgboccepgbeihaaRef10g
import Derived.Test.YtgboccepgbeihaaRef10h
namespace Go.Proofs.Ytgboccepgbeihaa
open Go.RowKit
set_option maxRecDepth 100000
set_option linter.unusedVariables false

theorem via1E {a b : World} (h : Hid (Below a.heap.size a b)) : Below a.heap.size a b := h
theorem via2E {a b c : World} (h : Below b.heap.size b c) (h' : Hid (Below a.heap.size a b)) : Below a.heap.size a c := h'.out.trans (h.mono h'.out.size)
/-- entries whose texts are short, and whose numbers are ints -/
def shortE (x : Et) : Prop := x.name.length ≤ 1000 ∧ (-9223372036854775808 ≤ x.ino ∧ x.ino ≤ 9223372036854775807) ∧ (-9223372036854775808 ≤ x.ty ∧ x.ty ≤ 9223372036854775807)
/-- a slice of octets -/
def BytW (w : World) (l : List UInt8) (v : Value) : Prop := ∃ A n c, v = .slice A n c ∧ l.length = n ∧ n ≤ c ∧ c ≤ maxLen ∧ Rd w w.heap.size A (l.map bv)
theorem BytW.up {w w' : World} {l : List UInt8} {v : Value} (h : BytW w l v) (hb : Below w.heap.size w w') : BytW w' l v := by
  obtain ⟨A, n, c, rfl, h1, h2, h3, h4⟩ := h
  exact ⟨A, n, c, rfl, h1, h2, h3, (h4.below hb).mono hb.size⟩

/-! Each is said of a base world: of any world that has it unchanged below. -/
structure MayEC (w0 : World) : Prop where
  call : ∀ (l : List Et) (A : Option Addr) (n c : Nat) (w : World), EtsW w l (.slice A n c) → n ≤ 1000 → (∀ x ∈ l, shortE x) → (hB : Below w0.heap.size w0 w := by first | exact Below.refl _ _ | assumption | exact via1E (by assumption) | exact via2E (by assumption) (by assumption)) →
  Calls Try.prog 11 #[.slice A n c] w fun e w' => e = .returned (.bool (mayE l)) ∧ Below w.heap.size w w'
structure EncEC (w0 : World) : Prop where
  call : ∀ (l : List Et) (A : Option Addr) (n c : Nat) (w : World), EtsW w l (.slice A n c) → n ≤ 1000 → (∀ x ∈ l, shortE x) → (hB : Below w0.heap.size w0 w := by first | exact Below.refl _ _ | assumption | exact via1E (by assumption) | exact via2E (by assumption) (by assumption)) →
  Calls Try.prog 13 #[.slice A n c] w fun e w' => ∃ v, e = .returned (.tuple #[v, .int .i64 (if mayE l then 0 else 1)]) ∧ BytW w' (if mayE l then encE l else []) v ∧ Below w.heap.size w w'
structure DecEC (w0 : World) : Prop where
  call : ∀ (b : List UInt8) (A : Option Addr) (n c : Nat) (w : World), BytW w b (.slice A n c) → n ≤ 1000 → (hB : Below w0.heap.size w0 w := by first | exact Below.refl _ _ | assumption | exact via1E (by assumption) | exact via2E (by assumption) (by assumption)) →
  Calls Try.prog 8 #[.slice A n c] w fun e w' => ∃ v, e = .returned (.tuple #[v, .int .i64 (if (decE b).isSome then 0 else 3)]) ∧ EtsW w' ((decE b).getD []) v ∧ Below w.heap.size w w'
structure FindEC (w0 : World) : Prop where
  call : ∀ (l : List Et) (s : List UInt8) (A : Option Addr) (n c : Nat) (w : World), EtsW w l (.slice A n c) → n ≤ 1000 → (∀ x ∈ l, shortE x) → s.length ≤ 1000 → (hB : Below w0.heap.size w0 w := by first | exact Below.refl _ _ | assumption | exact via1E (by assumption) | exact via2E (by assumption) (by assumption)) →
  Calls Try.prog 17 #[.slice A n c, .string (str s)] w fun e w' => e = .returned (.tuple #[etG (findR l s), .int .i64 (findQ l s)]) ∧ Below w.heap.size w w'
structure AddEC (w0 : World) : Prop where
  call : ∀ (l : List Et) (x : Et) (A : Option Addr) (n c : Nat) (w : World), EtsW w l (.slice A n c) → n ≤ 1000 → (∀ x ∈ l, shortE x) → shortE x → (hB : Below w0.heap.size w0 w := by first | exact Below.refl _ _ | assumption | exact via1E (by assumption) | exact via2E (by assumption) (by assumption)) →
  Calls Try.prog 19 #[.slice A n c, etG x] w fun e w' => ∃ v, e = .returned (.tuple #[v, .int .i64 (addQ l x)]) ∧ EtsW w' (addR l x) v ∧ Below w.heap.size w w'
structure TakeEC (w0 : World) : Prop where
  call : ∀ (l : List Et) (s : List UInt8) (A : Option Addr) (n c : Nat) (w : World), EtsW w l (.slice A n c) → n ≤ 1000 → (∀ x ∈ l, shortE x) → s.length ≤ 1000 → (hB : Below w0.heap.size w0 w := by first | exact Below.refl _ _ | assumption | exact via1E (by assumption) | exact via2E (by assumption) (by assumption)) →
  Calls Try.prog 21 #[.slice A n c, .string (str s)] w fun e w' => ∃ v, e = .returned (.tuple #[v, .int .i64 (findQ l s)]) ∧ EtsW w' (takeR l s) v ∧ Below w.heap.size w w'

/-! the document's, in the same form -/
theorem EtsW.parts {w : World} {l : List Et} {A : Option Addr} {n c : Nat} (h : EtsW w l (.slice A n c)) : l.length = n ∧ n ≤ c ∧ c ≤ maxLen ∧ Rd w w.heap.size A (etsV l) := by
  obtain ⟨A', n', c', e, h1, h2, h3, h4⟩ := h
  injection e with e1 e2 e3
  subst e1 e2 e3
  exact ⟨h1, h2, h3, h4⟩
theorem BytW.parts {w : World} {l : List UInt8} {A : Option Addr} {n c : Nat} (h : BytW w l (.slice A n c)) : l.length = n ∧ n ≤ c ∧ c ≤ maxLen ∧ Rd w w.heap.size A (l.map bv) := by
  obtain ⟨A', n', c', e, h1, h2, h3, h4⟩ := h
  injection e with e1 e2 e3
  subst e1 e2 e3
  exact ⟨h1, h2, h3, h4⟩
section
variable {l : List Et} {A : Option Addr} {n c : Nat} {w : World}
theorem rMayE (h : EtsW w l (.slice A n c)) (hn : n ≤ 1000) (hs : ∀ x ∈ l, shortE x) : Calls Try.prog 12 #[.slice A n c] w fun e w' => e = .returned (.bool (mayE l)) ∧ Below w.heap.size w w' :=
  refMay10_any w.heap.size A n c l w h.parts.1 (by omega) h.parts.2.2.2 (Nat.le_refl _) fun x hx => Nat.le_trans (hs x hx).1 (by omega)
theorem rEncE (h : EtsW w l (.slice A n c)) (hn : n ≤ 1000) (hm : mayE l = true) : Calls Try.prog 15 #[.slice A n c] w fun e w' => e = .returned (.string (str (encE l))) ∧ Below w.heap.size w w' :=
  refEncode10_any w.heap.size A n c l w h.parts.1 (by omega) h.parts.2.2.2 (Nat.le_refl _) ((mayE_iff l).1 hm).1
theorem rFindE (s : List UInt8) (h : EtsW w l (.slice A n c)) (hn : n ≤ 1000) (hs : ∀ x ∈ l, shortE x) (hss : s.length ≤ 1000) : Calls Try.prog 18 #[.slice A n c, .string (str s)] w fun e w' => e = .returned (.tuple #[etG (findR l s), .int .i64 (findQ l s)]) ∧ Below w.heap.size w w' :=
  refFind10_any w.heap.size A n c l s w h.parts.1 (by omega) h.parts.2.2.2 (Nat.le_refl _) (fun x hx => Nat.le_trans (hs x hx).1 (by omega)) (by omega)
theorem rAddE (x : Et) (h : EtsW w l (.slice A n c)) (hn : n ≤ 1000) (hs : ∀ x ∈ l, shortE x) (hx : shortE x) : Calls Try.prog 20 #[.slice A n c, etG x] w fun e w' => ∃ v, e = .returned (.tuple #[v, .int .i64 (addQ l x)]) ∧ EtsW w' (addR l x) v ∧ Below w.heap.size w w' :=
  refAdd10_any w.heap.size A n c l x w h.parts.1 (by omega) h.parts.2.2.2 (Nat.le_refl _) (fun x hx => Nat.le_trans (hs x hx).1 (by omega)) (Nat.le_trans hx.1 (by omega))
theorem rTakeE (s : List UInt8) (h : EtsW w l (.slice A n c)) (hn : n ≤ 1000) (hs : ∀ x ∈ l, shortE x) (hss : s.length ≤ 1000) : Calls Try.prog 22 #[.slice A n c, .string (str s)] w fun e w' => ∃ v, e = .returned (.tuple #[v, .int .i64 (findQ l s)]) ∧ EtsW w' (takeR l s) v ∧ Below w.heap.size w w' :=
  refTake10_any w.heap.size A n c l s w h.parts.1 (by omega) h.parts.2.2.2 (Nat.le_refl _) (fun x hx => Nat.le_trans (hs x hx).1 (by omega)) (by omega)
theorem rSameE {l' : List Et} {A' : Option Addr} {n' c' : Nat} (h : EtsW w l (.slice A n c)) (h' : EtsW w l' (.slice A' n' c')) (hn : n ≤ 1000) (hn' : n' ≤ 1000) (t : Bool) (ht : t = true ↔ l = l') : Calls Try.prog 10 #[.slice A n c, .slice A' n' c'] w fun e w' => e = .returned (.bool t) ∧ Below w.heap.size w w' :=
  refSame10_any w.heap.size w.heap.size A A' n c n' c' l l' w h.parts.1 h'.parts.1 (by omega) (by omega) h.parts.2.2.2 h'.parts.2.2.2 (Nat.le_refl _) (Nat.le_refl _) t ht
end

/-! the law's own -/
theorem few10_any (l : List UInt8) (w : World) (hl : l.length ≤ 9223372036854775807) : Calls Try.prog 16 #[.string (str l)] w fun e w' => e = .returned (.string (str (l.take 60))) ∧ w = w' := by
  have hsz := str_size l
  have hx := str_ext l 0 60
  rw [List.drop_zero] at hx
  by_cases h : 60 < l.length
  · obtain ⟨T, hT⟩ : ∃ T, str (l.take 60) = T := ⟨_, rfl⟩
    rw [hT] at hx ⊢
    obtain ⟨s, hs⟩ : ∃ s, str l = s := ⟨_, rfl⟩
    rw [hs] at hsz hx ⊢
    obtain ⟨n, hn⟩ : ∃ n, l.length = n := ⟨_, rfl⟩
    rw [hn] at hsz h hl
    have h' : (60 : Int) < (n : Int) := by omega
    clear hT hs hn
    go_enter Try.func16, Try.ntmps16
    go_wp2
    go_ret
    exact ⟨rfl, rfl⟩
  · rw [List.take_of_length_le (by omega)]
    obtain ⟨s, hs⟩ : ∃ s, str l = s := ⟨_, rfl⟩
    rw [hs] at hsz ⊢
    obtain ⟨n, hn⟩ : ∃ n, l.length = n := ⟨_, rfl⟩
    rw [hn] at hsz h hl
    have h' : ¬ (60 : Int) < (n : Int) := by omega
    clear hs hn hx
    go_enter Try.func16, Try.ntmps16
    go_wp2
    go_ret
    exact ⟨rfl, rfl⟩
def few1 (x : Et) : Et := ⟨x.name.take 60, x.ino, x.ty⟩
def fewE (l : List Et) : List Et := (l.take 33).map few1
def inE (x : Et) : Prop := x.name.length ≤ 9223372036854775807 ∧ (-9223372036854775808 ≤ x.ino ∧ x.ino ≤ 9223372036854775807) ∧ (-9223372036854775808 ≤ x.ty ∧ x.ty ≤ 9223372036854775807)
theorem few1_short {x : Et} (h : inE x) : shortE (few1 x) := ⟨by show (x.name.take 60).length ≤ 1000; rw [List.length_take]; omega, h.2.1, h.2.2⟩
theorem fewE_short {l : List Et} (h : ∀ x ∈ l, inE x) : ∀ x ∈ fewE l, shortE x := fun x hx => by
  obtain ⟨y, hy, rfl⟩ := List.mem_map.1 hx
  exact few1_short (h y (List.mem_of_mem_take hy))
theorem fewE_len (l : List Et) : (fewE l).length ≤ 33 := by rw [fewE, List.length_map, List.length_take]; omega

set_option maxHeartbeats 4000000 in
theorem fewLoop_own (B : Nat) (A : Option Addr) (n c : Nat) (l : List Et) (w : World) (hl : l.length = n) (hn : n ≤ c) (hc : c ≤ maxLen) (hr : Rd w B A (etsV l)) (hB : B ≤ w.heap.size) (hs : ∀ x ∈ l, inE x) :
    Calls Try.prog 7 #[.slice A n c] w fun e w' => ∃ v n', e = .returned v ∧ w'.ownsRow w.heap.size 38 3 v n' (etsV (fewE l)) ∧ Below w.heap.size w w' := by
  obtain ⟨i0, hi, hz0, hz1, hz2⟩ := info_parts info_entry
  have hi := Lib.hid hi
  have hz0 := Lib.hid hz0
  have hz1 := Lib.hid hz1
  have hz2 := Lib.hid hz2
  obtain ⟨m, hm⟩ : ∃ m, m = min 33 n := ⟨_, rfl⟩
  have HL : Hid ((l.take 33).length = m) := by show _ = _; rw [List.length_take, hl, hm]
  have HS : Hid (∀ x ∈ l.take 33, inE x) := fun x hx => hs x (List.mem_of_mem_take hx)
  have hr33 : Rd w B A (etsV (l.take 33)) := by rw [etsV_take]; exact hr.take _
  have HF : Hid (fewE l = (l.take 33).map few1) := rfl
  have HR0 := Lib.hid hr33
  obtain ⟨L, hLL⟩ : ∃ L, l.take 33 = L := ⟨_, rfl⟩
  obtain ⟨FF, hFF⟩ : ∃ FF, fewE l = FF := ⟨_, rfl⟩
  rw [hLL] at HL HS HR0 HF
  rw [hFF] at HF ⊢
  have hm33 : m ≤ 33 := by omega
  have hnm : (n : Int) ≤ 9223372036854775807 := by unfold maxLen at hc; omega
  clear hl hs hr hr33 hLL hFF hc
  go_enter Try.func7, Try.ntmps7
  by_cases h33 : 33 < n
  · have h33' : (33 : Int) < (n : Int) := by omega
    have hc33 : (33 : Int) ≤ (c : Int) := by omega
    have hm3 : m = 33 := by omega
    clear hm
    subst hm3
    go_wp2
    go_loopw [3, 4] (fun r i wr => ∃ k : Nat, k ≤ 33 ∧ i = .int .i64 (k : Int) ∧ Hid (wr.ownsRow w.heap.size 38 3 r k (etsV ((L.take k).map few1))) ∧ Hid (Below w.heap.size w wr)) (fun _ i _ => 33 - (intOf i).toNat)
    case atStart => exact ⟨0, Nat.zero_le _, rfl, ⟨rfl, .inl ⟨rfl, rfl⟩⟩, Below.refl _ _⟩
    case round =>
      obtain ⟨k, hk, rfl, HOWN, HBB⟩ := hrel
      obtain ⟨Ar, cr, hre, hcr, hcm⟩ := own_len HOWN.out
      subst hre
      by_cases hlt : k < 33
      · obtain ⟨x, hx⟩ : ∃ x, L[k]? = some x := ⟨_, List.getElem?_eq_getElem (by rw [HL.out]; exact hlt)⟩
        obtain ⟨b, o, rfl, -, -⟩ := HR0.out.plain (by rw [etsV_length, HL.out]; omega)
        obtain ⟨c0, c1, c2⟩ := ets_at (HR0.out.below (HBB.out.mono hB)) hx
        have hxi := HS.out x (List.mem_of_getElem? hx)
        have HFW := Lib.hid fun w' => few10_any x.name w' hxi.1
        have HV : Hid (etsV ((L.take (k + 1)).map few1) = etsV ((L.take k).map few1) ++ [.string (str (x.name.take 60)), .int .i64 x.ino, .int .i64 x.ty]) := by
          show _ = _
          rw [List.take_add_one, hx, List.map_append, etsV_append]; rfl
        obtain ⟨nm, q, t⟩ := x
        simp only at c0 c1 c2 HFW HV
        obtain ⟨X, hX⟩ : ∃ X, str nm = X := ⟨_, rfl⟩
        obtain ⟨Y, hY⟩ : ∃ Y, str (nm.take 60) = Y := ⟨_, rfl⟩
        rw [hX] at c0 HFW
        rw [hY] at HFW HV
        have HB1 := Lib.hid (HBB.out.alloc HBB.out.size (.cells #[.string X, .int .i64 q, .int .i64 t] 38))
        have HOWN1 := Lib.hid (HOWN.out.alloc (.cells #[.string X, .int .i64 q, .int .i64 t] 38))
        have HGE : Hid (w.heap.size ≤ wr.heap.size) := HBB.out.size
        clear hx hX hY hxi
        go_wp2_with fail
        refine (HFW.out _).mono ?_
        rintro e w6 ⟨rfl, rfl⟩
        have HOWN2 := Lib.hid (((HOWN.out.alloc (.cells #[.string Y, .int .i64 q, .int .i64 t] 38))).alloc (.cells #[.string Y, .int .i64 q, .int .i64 t] 38))
        have HB2 := Lib.hid ((HBB.out.alloc HBB.out.size (.cells #[.string Y, .int .i64 q, .int .i64 t] 38)).alloc (by have := HGE.out; simp; omega) (.cells #[.string Y, .int .i64 q, .int .i64 t] 38))
        have HNW := Rd.new (wr.alloc (.cells #[.string Y, .int .i64 q, .int .i64 t] 38)) 38 #[.string Y, .int .i64 q, .int .i64 t] (0, 0)
        rw [World.alloc_size'] at HNW
        have HNW := Lib.hid HNW
        go_wp2_with (at_builtin; refine wpList_append_rd _ rfl _ _ 22 rfl w.heap.size 38 i0 (.agg #[.string ByteArray.empty, .int .i64 0, .int .i64 0]) 3 32 Try.underlying22 hi.out hz0.out hz1.out hz2.out rfl (by decide) _ _ _ rfl HOWN2.out (wr.heap.size + 1 + 1) (some ⟨wr.heap.size + 1, 0, none⟩) 1 1 [.string Y, .int .i64 q, .int .i64 t] rfl rfl HNW.out ?c2 ?c3 ?c4 ?c5 ?_)
        case c2 => first | exact ⟨rfl, rfl, rfl⟩ | (intro u hu; simp only [List.mem_cons, List.not_mem_nil, or_false] at hu; rcases hu with rfl | rfl | rfl <;> rfl)
        case c3 => unfold maxLen; omega
        case c4 => omega
        case c5 => have := HGE.out; simp; omega
        intro r' w7 hown7 hgrow
        have HB7 := Lib.hid (HB2.out.grown hgrow HB2.out.size (fun g hg => (HOWN2.out.lt g hg).1))
        have HOWN7 : Hid (w7.ownsRow w.heap.size 38 3 r' (k + 1) (etsV ((L.take (k + 1)).map few1))) := by
          show World.ownsRow _ _ _ _ _ _ _
          rw [HV.out, List.map_take]; exact hown7
        clear hown7 hgrow HOWN2 HB2 HNW HB1 HOWN1
        go_wp2
        go_roundw
        case rel => exact ⟨k + 1, by omega, by go_num, HOWN7, HB7⟩
        case measure => simp [intOf]; omega
      · have hkm : k = 33 := by omega
        subst hkm
        have HE : Hid (wr.ownsRow w.heap.size 38 3 (.slice Ar 33 cr) 33 (etsV FF)) := by
          have h := HOWN.out
          rw [List.take_of_length_le (by rw [HL.out]; exact Nat.le_refl _), ← HF.out] at h
          exact h
        go_wp2
        go_ret
        exact ⟨_, _, rfl, HE.out, HBB.out⟩
  · have h33' : ¬ (33 : Int) < (n : Int) := by omega
    have hm3 : n = m := by omega
    clear hm
    subst hm3
    go_wp2
    go_loopw [3, 4] (fun r i wr => ∃ k : Nat, k ≤ n ∧ i = .int .i64 (k : Int) ∧ Hid (wr.ownsRow w.heap.size 38 3 r k (etsV ((L.take k).map few1))) ∧ Hid (Below w.heap.size w wr)) (fun _ i _ => n - (intOf i).toNat)
    case atStart => exact ⟨0, Nat.zero_le _, rfl, ⟨rfl, .inl ⟨rfl, rfl⟩⟩, Below.refl _ _⟩
    case round =>
      obtain ⟨k, hk, rfl, HOWN, HBB⟩ := hrel
      obtain ⟨Ar, cr, hre, hcr, hcm⟩ := own_len HOWN.out
      subst hre
      by_cases hlt : k < n
      · obtain ⟨x, hx⟩ : ∃ x, L[k]? = some x := ⟨_, List.getElem?_eq_getElem (by rw [HL.out]; exact hlt)⟩
        obtain ⟨b, o, rfl, -, -⟩ := HR0.out.plain (by rw [etsV_length, HL.out]; omega)
        obtain ⟨c0, c1, c2⟩ := ets_at (HR0.out.below (HBB.out.mono hB)) hx
        have hxi := HS.out x (List.mem_of_getElem? hx)
        have HFW := Lib.hid fun w' => few10_any x.name w' hxi.1
        have HV : Hid (etsV ((L.take (k + 1)).map few1) = etsV ((L.take k).map few1) ++ [.string (str (x.name.take 60)), .int .i64 x.ino, .int .i64 x.ty]) := by
          show _ = _
          rw [List.take_add_one, hx, List.map_append, etsV_append]; rfl
        obtain ⟨nm, q, t⟩ := x
        simp only at c0 c1 c2 HFW HV
        obtain ⟨X, hX⟩ : ∃ X, str nm = X := ⟨_, rfl⟩
        obtain ⟨Y, hY⟩ : ∃ Y, str (nm.take 60) = Y := ⟨_, rfl⟩
        rw [hX] at c0 HFW
        rw [hY] at HFW HV
        have HB1 := Lib.hid (HBB.out.alloc HBB.out.size (.cells #[.string X, .int .i64 q, .int .i64 t] 38))
        have HOWN1 := Lib.hid (HOWN.out.alloc (.cells #[.string X, .int .i64 q, .int .i64 t] 38))
        have HGE : Hid (w.heap.size ≤ wr.heap.size) := HBB.out.size
        clear hx hX hY hxi
        go_wp2_with fail
        refine (HFW.out _).mono ?_
        rintro e w6 ⟨rfl, rfl⟩
        have HOWN2 := Lib.hid (((HOWN.out.alloc (.cells #[.string Y, .int .i64 q, .int .i64 t] 38))).alloc (.cells #[.string Y, .int .i64 q, .int .i64 t] 38))
        have HB2 := Lib.hid ((HBB.out.alloc HBB.out.size (.cells #[.string Y, .int .i64 q, .int .i64 t] 38)).alloc (by have := HGE.out; simp; omega) (.cells #[.string Y, .int .i64 q, .int .i64 t] 38))
        have HNW := Rd.new (wr.alloc (.cells #[.string Y, .int .i64 q, .int .i64 t] 38)) 38 #[.string Y, .int .i64 q, .int .i64 t] (0, 0)
        rw [World.alloc_size'] at HNW
        have HNW := Lib.hid HNW
        go_wp2_with (at_builtin; refine wpList_append_rd _ rfl _ _ 22 rfl w.heap.size 38 i0 (.agg #[.string ByteArray.empty, .int .i64 0, .int .i64 0]) 3 32 Try.underlying22 hi.out hz0.out hz1.out hz2.out rfl (by decide) _ _ _ rfl HOWN2.out (wr.heap.size + 1 + 1) (some ⟨wr.heap.size + 1, 0, none⟩) 1 1 [.string Y, .int .i64 q, .int .i64 t] rfl rfl HNW.out ?c2 ?c3 ?c4 ?c5 ?_)
        case c2 => first | exact ⟨rfl, rfl, rfl⟩ | (intro u hu; simp only [List.mem_cons, List.not_mem_nil, or_false] at hu; rcases hu with rfl | rfl | rfl <;> rfl)
        case c3 => unfold maxLen; omega
        case c4 => omega
        case c5 => have := HGE.out; simp; omega
        intro r' w7 hown7 hgrow
        have HB7 := Lib.hid (HB2.out.grown hgrow HB2.out.size (fun g hg => (HOWN2.out.lt g hg).1))
        have HOWN7 : Hid (w7.ownsRow w.heap.size 38 3 r' (k + 1) (etsV ((L.take (k + 1)).map few1))) := by
          show World.ownsRow _ _ _ _ _ _ _
          rw [HV.out, List.map_take]; exact hown7
        clear hown7 hgrow HOWN2 HB2 HNW HB1 HOWN1
        go_wp2
        go_roundw
        case rel => exact ⟨k + 1, by omega, by go_num, HOWN7, HB7⟩
        case measure => simp [intOf]; omega
      · have hkm : k = n := by omega
        subst hkm
        have HE : Hid (wr.ownsRow w.heap.size 38 3 (.slice Ar k cr) k (etsV FF)) := by
          have h := HOWN.out
          rw [List.take_of_length_le (by rw [HL.out]; exact Nat.le_refl _), ← HF.out] at h
          exact h
        go_wp2
        go_ret
        exact ⟨_, _, rfl, HE.out, HBB.out⟩
theorem fewLoop_any (B : Nat) (A : Option Addr) (n c : Nat) (l : List Et) (w : World) (hl : l.length = n) (hn : n ≤ c) (hc : c ≤ maxLen) (hr : Rd w B A (etsV l)) (hB : B ≤ w.heap.size) (hs : ∀ x ∈ l, inE x) :
    Calls Try.prog 7 #[.slice A n c] w fun e w' => ∃ v, e = .returned v ∧ EtsW w' (fewE l) v ∧ Below w.heap.size w w' :=
  (fewLoop_own B A n c l w hl hn hc hr hB hs).mono fun e w' h => by obtain ⟨v, n', h1, h2, h3⟩ := h; exact ⟨v, h1, EtsW.own h2, h3⟩
/-- a row of one's own, when a cell of an older block is set -/
theorem own_farE {w : World} {base e : Nat} {size n : Nat} {v : Value} {xs : List Value} (h : w.ownsRow base e size v n xs) {p : Addr} (hp : p.block < base) (u : Value) : (w.setCell p u).ownsRow base e size v n xs := by
  refine ⟨h.1, ?_⟩
  rcases h.2 with h1 | ⟨g, cap, cur, hv, h2, hh, h3⟩
  · exact .inl h1
  · exact .inr ⟨g, cap, cur, hv, h2, (Below.heap_setCell _ _ _ _ (by omega)).trans hh, h3⟩
theorem few1_twice (x : Et) : few1 (few1 x) = few1 x := by
  show (⟨(x.name.take 60).take 60, x.ino, x.ty⟩ : Et) = ⟨x.name.take 60, x.ino, x.ty⟩
  rw [List.take_take]; rfl
theorem fewE_twice (l : List Et) : fewE (fewE l) = fewE l := by
  unfold fewE
  rw [← List.map_take, List.take_take, List.map_map]
  have e : min 33 33 = 33 := rfl
  rw [e]
  exact List.map_congr_left fun x _ => few1_twice x
theorem shortE_in {x : Et} (h : shortE x) : inE x := ⟨by have := h.1; omega, h.2.1, h.2.2⟩

/-! the chapter's examples -/
theorem toks_one (c : UInt8) (h : c.toNat < 128) : toks [c] = [⟨(c.toNat : Int), [c], false⟩] := by
  have hr : runeN [c] = some (c.toNat, 1) := (rune_iff _ _ _).2 (.inl ⟨rfl, h, rfl⟩)
  have hw : widN [c] = 1 := by unfold widN; rw [hr]
  rw [toks_cons (by simp), hw, show List.drop 1 [c] = [] from rfl, toks_nil]
  unfold tkOf
  rw [hr]; rfl
theorem isT_ab : isT [97] = true ∧ isT [98] = true := by
  constructor
  · unfold isT; rw [toks_one 97 (by decide)]; decide
  · unfold isT; rw [toks_one 98 (by decide)]; decide
theorem ex_ent : mayE [⟨[97], 5, 1⟩] = true ∧ encE [⟨[97], 5, 1⟩] = [5, 1, 1, 97] ∧ addQ [⟨[97], 5, 1⟩] ⟨[97], 5, 1⟩ = 7 ∧ findQ [⟨[97], 5, 1⟩] [98] = 6 := by
  have hm : mayE [⟨[97], 5, 1⟩] = true := (mayE_iff _).2 ⟨fun x hx => by
    rw [List.mem_singleton.1 hx]
    show (isT [97] && rightE ⟨[97], 5, 1⟩) = true
    rw [isT_ab.1]; decide, List.pairwise_singleton _ _, by decide⟩
  refine ⟨hm, by decide, ?_, ?_⟩
  · unfold addQ; rw [hm, isT_ab.1]; decide
  · unfold findQ; rw [hm, isT_ab.2]; decide
structure AwakeEC (w0 : World) : Prop where
  call : ∀ (w : World), (hB : Below w0.heap.size w0 w := by first | exact Below.refl _ _ | assumption | exact via1E (by assumption) | exact via2E (by assumption) (by assumption)) → Calls Try.prog 14 #[] w fun e w' => e = .returned (.bool true) ∧ Below w.heap.size w w'
theorem MayEC.up {a b : World} (h : MayEC a) (hb : Below a.heap.size a b) : MayEC b := ⟨fun l A n c w h1 h2 h3 h4 => h.call l A n c w h1 h2 h3 (hb.trans (h4.mono hb.size))⟩
theorem EncEC.up {a b : World} (h : EncEC a) (hb : Below a.heap.size a b) : EncEC b := ⟨fun l A n c w h1 h2 h3 h4 => h.call l A n c w h1 h2 h3 (hb.trans (h4.mono hb.size))⟩
theorem AddEC.up {a b : World} (h : AddEC a) (hb : Below a.heap.size a b) : AddEC b := ⟨fun l x A n c w h1 h2 h3 h5 h4 => h.call l x A n c w h1 h2 h3 h5 (hb.trans (h4.mono hb.size))⟩
theorem TakeEC.up {a b : World} (h : TakeEC a) (hb : Below a.heap.size a b) : TakeEC b := ⟨fun l s A n c w h1 h2 h3 h5 h4 => h.call l s A n c w h1 h2 h3 h5 (hb.trans (h4.mono hb.size))⟩
set_option maxHeartbeats 2000000 in
theorem awakeE_base (w : World) (HC : EncEC w) (HA : AddEC w) (HT : TakeEC w) : Calls Try.prog 14 #[] w fun e w' => e = .returned (.bool true) ∧ Below w.heap.size w w' := by
  have HC := Lib.hid HC
  have HA := Lib.hid HA
  have HT := Lib.hid HT
  have hsh : ∀ x ∈ [(⟨[97], 5, 1⟩ : Et)], shortE x := fun x hx => by rw [List.mem_singleton.1 hx]; exact ⟨by decide, by decide, by decide⟩
  have HSH := Lib.hid hsh
  have K0 : EtsW (w.alloc (.cells #[.string (str [97]), .int .i64 5, .int .i64 1] 38)) [⟨[97], 5, 1⟩] (.slice (some ⟨w.heap.size, 0, none⟩) 1 1) :=
    ⟨_, _, _, rfl, rfl, Nat.le_refl _, by unfold maxLen; omega, Rd.bk (Bk.new w 38 #[.string (str [97]), .int .i64 5, .int .i64 1])⟩
  have K0 := Lib.hid K0
  have HB0 := Lib.hid ((Below.refl w.heap.size w).alloc (Nat.le_refl _) (.cells #[.string (str [97]), .int .i64 5, .int .i64 1] 38))
  obtain ⟨W, hW⟩ : ∃ W, w.alloc (.cells #[.string (str [97]), .int .i64 5, .int .i64 1] 38) = W := ⟨_, rfl⟩
  have hW' : w.alloc (.cells #[.string ⟨#[97]⟩, .int .i64 5, .int .i64 1] 38) = W := hW
  have KB : Bk W w.heap.size 38 #[.string (str [97]), .int .i64 5, .int .i64 1] := by rw [← hW]; exact Bk.new w 38 _
  have KB := Lib.hid KB
  rw [hW] at K0 HB0
  obtain ⟨x1, x2, x3, x4⟩ := ex_ent
  have HCC : Hid (Calls Try.prog 13 #[.slice (some ⟨w.heap.size, 0, none⟩) 1 1] W fun e w' => ∃ v, e = .returned (.tuple #[v, .int .i64 0]) ∧ BytW w' [5, 1, 1, 97] v ∧ Below W.heap.size W w') := by
    have h := HC.out.call _ _ _ _ W K0.out (by decide) HSH.out
    rw [x1, x2] at h
    exact h
  have HAA : Hid (∀ w', Below W.heap.size W w' → Calls Try.prog 19 #[.slice (some ⟨w.heap.size, 0, none⟩) 1 1, .agg #[.string (str [97]), .int .i64 5, .int .i64 1]] w' fun e w'' => ∃ v, e = .returned (.tuple #[v, .int .i64 7]) ∧ Below w'.heap.size w' w'') := fun w' hb => by
    have h := HA.out.call _ ⟨[97], 5, 1⟩ _ _ _ w' (K0.out.up hb) (by decide) HSH.out (HSH.out _ (by simp)) (HB0.out.trans (hb.mono HB0.out.size))
    rw [x3] at h
    exact h.mono fun e w'' h => by obtain ⟨v, h1, _, h2⟩ := h; exact ⟨v, h1, h2⟩
  have HTT : Hid (∀ w', Below W.heap.size W w' → Calls Try.prog 21 #[.slice (some ⟨w.heap.size, 0, none⟩) 1 1, .string ⟨#[98]⟩] w' fun e w'' => ∃ v, e = .returned (.tuple #[v, .int .i64 6]) ∧ Below w'.heap.size w' w'') := fun w' hb => by
    have h := HT.out.call _ [98] _ _ _ w' (K0.out.up hb) (by decide) HSH.out (by decide) (HB0.out.trans (hb.mono HB0.out.size))
    rw [x4] at h
    exact h.mono fun e w'' h => by obtain ⟨v, h1, _, h2⟩ := h; exact ⟨v, h1, h2⟩
  have hst : (str [5, 1, 1, 97]).toList = [5, 1, 1, 97] := str_toList _
  clear hW hsh x1 x2 x3 x4
  go_enter Try.func14, Try.ntmps14
  go_wp2_with fail
  refine HCC.out.mono ?_
  rintro e w1 ⟨v, rfl, ⟨A, n, c, rfl, hn, -, -, hrd⟩, hb⟩
  have HB1 := Lib.hid hb
  have HN := Lib.hid hn
  have HRD := Lib.hid hrd
  obtain ⟨c0, c1, c2, -⟩ := et_cells (KB.out.below hb KB.out.lt)
  clear hn hrd hb
  go_wp2_with fail
  refine (HAA.out _ HB1.out).mono ?_
  rintro e w2 ⟨v2, rfl, hb⟩
  have HB2 := Lib.hid (HB1.out.trans (hb.mono HB1.out.size))
  have HRD2 := Lib.hid ((HRD.out.below hb).mono hb.size)
  clear hb c0 c1 c2
  go_wp2_with fail
  refine (HTT.out _ HB2.out).mono ?_
  rintro e w3 ⟨v3, rfl, hb⟩
  have HB3 := Lib.hid (HB2.out.trans (hb.mono HB2.out.size))
  have hcv : (convert 23 9 (.slice A n c)).run Try.prog w3 = .ok (.string (str [5, 1, 1, 97])) w3 :=
    run_conv 23 5 9 Try.underlying23 Try.underlying5 Try.underlying9 n c HN.out ((HRD2.out.below hb).mono hb.size)
  clear hb
  go_wp2
  go_ret
  exact ⟨rfl, HB0.out.trans (HB3.out.mono HB0.out.size)⟩
theorem awakeE_any {w0 : World} (HC : EncEC w0) (HA : AddEC w0) (HT : TakeEC w0) : AwakeEC w0 := ⟨fun w hb => awakeE_base w (HC.up hb) (HA.up hb) (HT.up hb)⟩
end Go.Proofs.Ytgboccepgbeihaa
