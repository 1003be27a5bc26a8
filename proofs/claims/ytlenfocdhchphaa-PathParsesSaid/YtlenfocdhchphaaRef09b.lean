/-
  What the document's answers of layer 9 are: the runes of a text, which may stand in a name, how many there are.
-/
import Derived.Test.YtlenfocdhchphaaRef09
namespace Go.Proofs.Ytlenfocdhchphaa
open Go.RowKit
set_option maxRecDepth 100000
set_option linter.unusedVariables false

theorem own_upT {w w' : World} {base e : Nat} {size n : Nat} {v : Value} {xs : List Value} (h : w.ownsRow base e size v n xs) (hb : Below w.heap.size w w') : w'.ownsRow base e size v n xs := by
  refine ⟨h.1, ?_⟩
  rcases h.2 with h1 | ⟨g, cap, cur, hv, h2, hh, h3⟩
  · exact .inl h1
  · exact .inr ⟨g, cap, cur, hv, h2, (hb.block g (Array.getElem?_eq_some_iff.1 hh).1).trans hh, h3⟩
def tkV (x : Tk) : List Value := [.int .i64 x.v, .string (str x.s), .bool x.odd]
def tksV (l : List Tk) : List Value := l.flatMap tkV
theorem tksV_cons (x : Tk) (l : List Tk) : tksV (x :: l) = .int .i64 x.v :: .string (str x.s) :: .bool x.odd :: tksV l := rfl
theorem tksV_append (a b : List Tk) : tksV (a ++ b) = tksV a ++ tksV b := by simp [tksV]
theorem tksV_length : ∀ l, (tksV l).length = l.length * 3
  | [] => rfl
  | x :: l => by rw [tksV_cons]; simp only [List.length_cons, tksV_length l]; omega
theorem tksV_one (l : List Tk) : ∀ u ∈ tksV l, u.oneCell' = true := by
  intro u hu
  obtain ⟨x, _, hx⟩ := List.mem_flatMap.1 hu
  simp only [tkV, List.mem_cons, List.not_mem_nil, or_false] at hx
  rcases hx with rfl | rfl | rfl <;> rfl
theorem tksV_get : ∀ (l : List Tk) (k : Nat) (x : Tk), l[k]? = some x → (tksV l)[k * 3]? = some (.int .i64 x.v) ∧ (tksV l)[k * 3 + 1]? = some (.string (str x.s)) ∧ (tksV l)[k * 3 + 2]? = some (.bool x.odd)
  | [], k, x, h => by simp at h
  | y :: l, 0, x, h => by
    have : y = x := by simpa using h
    subst this
    exact ⟨rfl, rfl, rfl⟩
  | y :: l, k + 1, x, h => by
    have ih := tksV_get l k x (by simpa using h)
    rw [tksV_cons, show (k + 1) * 3 = k * 3 + 1 + 1 + 1 by omega]
    exact ih
theorem info_rune : (Try.prog.info? 58).map (fun i => (i.zero, i.size, i.bytes)) = some (some (.agg #[.int .i64 0, .string ByteArray.empty, .bool false]), 3, 32) := by kernel_rfl
/-- a slice of runes -/
def TksW (w : World) (l : List Tk) (v : Value) : Prop := ∃ A n c, v = .slice A n c ∧ l.length = n ∧ n ≤ c ∧ c ≤ maxLen ∧ Rd w w.heap.size A (tksV l)
theorem TksW.up {w w' : World} {l : List Tk} {v : Value} (h : TksW w l v) (hb : Below w.heap.size w w') : TksW w' l v := by
  obtain ⟨A, n, c, h0, h1, h2, h3, h4⟩ := h
  exact ⟨A, n, c, h0, h1, h2, h3, (h4.below hb).mono hb.size⟩
theorem TksW.own {w : World} {base : Nat} {l : List Tk} {v : Value} {n : Nat} (h : w.ownsRow base 58 3 v n (tksV l)) : TksW w l v := by
  obtain ⟨A, c, rfl, h1, h2⟩ := own_len h
  have := h.1
  rw [tksV_length] at this
  exact ⟨A, n, c, rfl, by omega, h1, h2, Rd.own h⟩

def strLen (v : Value) : Nat := match v with | .string b => b.size | _ => 0
theorem strLen_str (b : ByteArray) : strLen (.string b) = b.size := rfl

set_option maxHeartbeats 4000000 in
theorem refRunes_any (l : List UInt8) (w : World) (hl : l.length ≤ 4398046511104) :
    Calls Try.prog 36 #[.string (str l)] w fun e w' => ∃ v, e = .returned v ∧ TksW w' (toks l) v ∧ Below w.heap.size w w' := by
  obtain ⟨i0, hi, hz0, hz1, hz2⟩ := info_parts info_rune
  have hi := Lib.hid hi
  have hz0 := Lib.hid hz0
  have hz1 := Lib.hid hz1
  have hz2 := Lib.hid hz2
  obtain ⟨Z, hZ⟩ : ∃ Z, l.length = Z := ⟨_, rfl⟩
  have HZ := Lib.hid hZ
  rw [hZ] at hl
  clear hZ
  go_enter Try.func36, Try.ntmps36
  go_wp2
  go_loopw [0, 3] (fun s r wr => ∃ (m : List UInt8) (X : List Tk) (k : Nat), s = .string (str m) ∧ Hid (toks l = X ++ toks m) ∧ Hid (X.length = k) ∧ k + m.length ≤ Z ∧ Hid (wr.ownsRow w.heap.size 58 3 r k (tksV X)) ∧ Hid (Below w.heap.size w wr)) (fun s _ _ => strLen s)
  case atStart => exact ⟨l, [], 0, rfl, rfl, rfl, by rw [HZ.out]; omega, ⟨rfl, .inl ⟨rfl, rfl⟩⟩, Below.refl _ _⟩
  case round =>
    obtain ⟨m, X, k, rfl, HT, HX, hkm, HOWN, HB⟩ := hrel
    obtain ⟨Ar, cr, hre, hcr, hcm⟩ := own_len HOWN.out
    subst hre
    have hsz := str_size m
    by_cases hm : m = []
    · subst hm
      have hE : toks l = X := by rw [HT.out, toks_nil, List.append_nil]
      have HE := Lib.hid hE
      obtain ⟨s, hs⟩ : ∃ s, str ([] : List UInt8) = s := ⟨_, rfl⟩
      rw [hs] at hsz ⊢
      have hsz0 : s.size = 0 := hsz
      clear hs hE hsz
      go_wp2
      go_ret
      refine ⟨_, rfl, ?_, HB.out⟩
      rw [HE.out]
      exact TksW.own HOWN.out
    · have hw := wid_le hm
      have HNX := Lib.hid (refNext9_any m wr (by omega) hm)
      obtain ⟨x, hx⟩ : ∃ x, tkOf m = x := ⟨_, rfl⟩
      have hxl : (str x.s).size = widN m := by rw [str_size, ← hx, tk_len hm]
      have hcut := str_ext m (widN m) m.length
      rw [List.take_length] at hcut
      have HTT : Hid (toks l = (X ++ [x]) ++ toks (m.drop (widN m))) := by
        show _ = _
        rw [HT.out, toks_cons hm, hx]; simp
      have hml : (m.drop (widN m)).length = m.length - widN m := List.length_drop
      have hdz : (str (m.drop (widN m))).size = m.length - widN m := by rw [str_size, hml]
      obtain ⟨n, hn⟩ : ∃ n, widN m = n := ⟨_, rfl⟩
      rw [hx] at HNX
      rw [hn] at hxl hcut HTT hw hdz hml
      obtain ⟨v, S, o⟩ := x
      have HXV : Hid (tksV (X ++ [⟨v, S, o⟩]) = tksV X ++ [.int .i64 v, .string (str S), .bool o]) := tksV_append X _
      have HNX : Hid (Calls Try.prog 48 #[.string (str m)] wr fun e w' => e = .returned (.agg #[.int .i64 v, .string (str S), .bool o]) ∧ Below wr.heap.size wr w') := HNX.out
      have hxl : (str S).size = n := hxl
      obtain ⟨T, hT⟩ : ∃ T, str S = T := ⟨_, rfl⟩
      rw [hT] at hxl HXV HNX
      obtain ⟨s, hs⟩ : ∃ s, str m = s := ⟨_, rfl⟩
      rw [hs] at hsz hcut HNX ⊢
      obtain ⟨r, hr⟩ : ∃ r, m.drop n = r := ⟨_, rfl⟩
      rw [hr] at hcut hml hdz HTT
      obtain ⟨M, hM⟩ : ∃ M, m.length = M := ⟨_, rfl⟩
      rw [hM] at hsz hcut hml hdz hkm hw
      have HRL := Lib.hid hml
      have hM0 : 0 < M := by omega
      clear hx hn hT hs hr hM hm hml
      go_wp2_with fail
      refine HNX.out.mono ?_
      rintro e w1 ⟨rfl, hb1⟩
      have HBW : Hid (wr.heap.size ≤ w1.heap.size) := hb1.size
      have HB1 := Lib.hid (HB.out.trans (hb1.mono HB.out.size))
      have HOWN1 := own_upT HOWN.out hb1
      have HOWN2 := Lib.hid ((HOWN1.alloc (.cells #[.int .i64 v, .string T, .bool o] 58)).alloc (.cells #[.int .i64 v, .string T, .bool o] 58))
      have HB2 := Lib.hid ((HB1.out.alloc HB1.out.size (.cells #[.int .i64 v, .string T, .bool o] 58)).alloc (by have := HB1.out.size; simp; omega) (.cells #[.int .i64 v, .string T, .bool o] 58))
      have HN := Rd.new (w1.alloc (.cells #[.int .i64 v, .string T, .bool o] 58)) 58 #[.int .i64 v, .string T, .bool o] (0, 0)
      rw [World.alloc_size'] at HN
      have HN := Lib.hid HN
      have HKC := Lib.hid ((Bk.new w1 58 #[.int .i64 v, .string T, .bool o]).alloc (.cells #[.int .i64 v, .string T, .bool o] 58))
      clear hb1 HOWN1 HNX
      go_wp2_with (at_builtin; refine wpList_append_rd _ rfl _ _ 54 rfl w.heap.size 58 i0 (.agg #[.int .i64 0, .string ByteArray.empty, .bool false]) 3 32 Try.underlying54 hi.out hz0.out hz1.out hz2.out rfl (by decide) _ _ _ rfl HOWN2.out (w1.heap.size + 1 + 1) (some ⟨w1.heap.size + 1, 0, none⟩) 1 1 [.int .i64 v, .string T, .bool o] rfl rfl HN.out ?c2 ?c3 ?c4 ?c5 ?_)
      case c2 => intro u hu; simp only [List.mem_cons, List.not_mem_nil, or_false] at hu; rcases hu with rfl | rfl | rfl <;> rfl
      case c3 => unfold maxLen; omega
      case c4 => omega
      case c5 => have := HB2.out.size; simpa using this
      intro r' w6 hown6 hgrow
      have HB6 := Lib.hid (HB2.out.grown hgrow HB2.out.size (fun g hg => (HOWN2.out.lt g hg).1))
      have hnb : (Value.slice Ar k cr).ownBlock ≠ some w1.heap.size := fun e => by
        have h1 := (HOWN.out.lt _ e).2
        have h2 := HB1.out.size
        have h3 := HBW.out
        omega
      have HK6 := HKC.out.grown hgrow hnb
      obtain ⟨k0, k1, k2, -, -, -⟩ := tk_cells HK6
      have HOWN6 : Hid (w6.ownsRow w.heap.size 58 3 r' (k + 1) (tksV (X ++ [⟨v, S, o⟩]))) := by
        rw [HXV.out]; exact hown6
      clear hown6 hgrow HOWN2 HB2 HN HKC HK6
      go_wp2
      go_roundw
      case rel => exact ⟨r, X ++ [(⟨v, S, o⟩ : Tk)], k + 1, by first | rfl | rw [hcut], HTT.out, by show _ = _; rw [List.length_append, HX.out]; rfl, by rw [HRL.out]; omega, HOWN6.out, HB6.out⟩
      case measure => simp only [strLen_str]; rw [hdz]; omega
end Go.Proofs.Ytlenfocdhchphaa
