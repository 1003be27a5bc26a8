/-
  What the functions of path answer, as properties (shown of the landed code elsewhere); the law's few, names and awake.
-/
import Derived.Test.YtlenfocdhchphaaRef11
import Derived.Test.YtlenfocdhchphaaRef11b
import Derived.Test.YtlenfocdhchphaaRef11c
import Derived.Test.YtlenfocdhchphaaRef11d
import Derived.Deep.DeepCutAuto
import Derived.Deep.CutRange
namespace Go.Proofs.Ytlenfocdhchphaa
open Go.RowKit
set_option maxRecDepth 100000
set_option linter.unusedVariables false

theorem via1Q {a b : World} (h : Hid (Below a.heap.size a b)) : Below a.heap.size a b := h
theorem via2Q {a b c : World} (h : Below b.heap.size b c) (h' : Hid (Below a.heap.size a b)) : Below a.heap.size a c := h'.out.trans (h.mono h'.out.size)

/-! Each is said of a base world: of any world that has it unchanged below. -/
structure ParsePC (w0 : World) : Prop where
  call : ∀ (s : List UInt8) (w : World), s.length ≤ 10000 → (hB : Below w0.heap.size w0 w := by first | exact Below.refl _ _ | assumption | exact via1Q (by assumption) | exact via2Q (by assumption) (by assumption)) →
  Calls Try.prog 8 #[.string (str s)] w fun e w' => ∃ v, e = .returned (.tuple #[v, .int .i64 (parseP s).2]) ∧ StrW w' (parseP s).1 v ∧ Below w.heap.size w w'
structure JoinPC (w0 : World) : Prop where
  call : ∀ (l : List (List UInt8)) (A : Option Addr) (n c : Nat) (w : World), StrW w l (.slice A n c) → n ≤ 1000 → (∀ x ∈ l, x.length ≤ 1000) → (hB : Below w0.heap.size w0 w := by first | exact Below.refl _ _ | assumption | exact via1Q (by assumption) | exact via2Q (by assumption) (by assumption)) →
  Calls Try.prog 15 #[.slice A n c] w fun e w' => e = .returned (.tuple #[.string (str (joinR l)), .int .i64 (joinQ l)]) ∧ Below w.heap.size w w'
structure ParentPC (w0 : World) : Prop where
  call : ∀ (s : List UInt8) (w : World), s.length ≤ 10000 → (hB : Below w0.heap.size w0 w := by first | exact Below.refl _ _ | assumption | exact via1Q (by assumption) | exact via2Q (by assumption) (by assumption)) →
  Calls Try.prog 10 #[.string (str s)] w fun e w' => ∃ v, e = .returned (.tuple #[v, .string (str (parX s)), .int .i64 (parQ s)]) ∧ StrW w' (parR s) v ∧ Below w.heap.size w w'
structure UnderPC (w0 : World) : Prop where
  call : ∀ (l top : List (List UInt8)) (A A' : Option Addr) (n c n' c' : Nat) (w : World), StrW w l (.slice A n c) → StrW w top (.slice A' n' c') → n ≤ 1000 → n' ≤ 1000 → (hB : Below w0.heap.size w0 w := by first | exact Below.refl _ _ | assumption | exact via1Q (by assumption) | exact via2Q (by assumption) (by assumption)) →
  Calls Try.prog 17 #[.slice A n c, .slice A' n' c'] w fun e w' => e = .returned (.bool (underB l top)) ∧ Below w.heap.size w w'
theorem ParsePC.up {a b : World} (h : ParsePC a) (hb : Below a.heap.size a b) : ParsePC b := ⟨fun s w h1 h4 => h.call s w h1 (hb.trans (h4.mono hb.size))⟩
theorem ParentPC.up {a b : World} (h : ParentPC a) (hb : Below a.heap.size a b) : ParentPC b := ⟨fun s w h1 h4 => h.call s w h1 (hb.trans (h4.mono hb.size))⟩
/-- the document's Same, of two slices of texts -/
theorem rSameP {l l' : List (List UInt8)} {v v' : Value} {w : World} (h : StrW w l v) (h' : StrW w l' v') (hn : l.length ≤ 1000) (hn' : l'.length ≤ 1000) : Calls Try.prog 12 #[v, v'] w fun e w' => e = .returned (.bool (decide (l = l'))) ∧ Below w.heap.size w w' := by
  obtain ⟨A, n, c, rfl, h1, -⟩ := id h
  obtain ⟨A', n', c', rfl, h1', -⟩ := id h'
  exact refSame11_any l l' A A' n c n' c' w h h' (by omega) (by omega) _ decide_eq_true_iff

/-! the law's own -/
theorem few11_any (l : List UInt8) (w : World) (hl : l.length ≤ 9223372036854775807) : Calls Try.prog 7 #[.string (str l)] w fun e w' => e = .returned (.string (str (l.take 260))) ∧ w = w' := by
  have hsz := str_size l
  have hx := str_ext l 0 260
  rw [List.drop_zero] at hx
  by_cases h : 260 < l.length
  · obtain ⟨T, hT⟩ : ∃ T, str (l.take 260) = T := ⟨_, rfl⟩
    rw [hT] at hx ⊢
    obtain ⟨s, hs⟩ : ∃ s, str l = s := ⟨_, rfl⟩
    rw [hs] at hsz hx ⊢
    obtain ⟨n, hn⟩ : ∃ n, l.length = n := ⟨_, rfl⟩
    rw [hn] at hsz h hl
    have h' : (260 : Int) < (n : Int) := by omega
    clear hT hs hn
    go_enter Try.func7, Try.ntmps7
    go_wp2
    go_ret
    exact ⟨rfl, rfl⟩
  · rw [List.take_of_length_le (by omega)]
    obtain ⟨s, hs⟩ : ∃ s, str l = s := ⟨_, rfl⟩
    rw [hs] at hsz ⊢
    obtain ⟨n, hn⟩ : ∃ n, l.length = n := ⟨_, rfl⟩
    rw [hn] at hsz h hl
    have h' : ¬ (260 : Int) < (n : Int) := by omega
    clear hs hn hx
    go_enter Try.func7, Try.ntmps7
    go_wp2
    go_ret
    exact ⟨rfl, rfl⟩
def namesP (l : List (List UInt8)) : List (List UInt8) := (l.take 10).map (·.take 60)
theorem namesP_len (l : List (List UInt8)) : (namesP l).length ≤ 10 := by rw [namesP, List.length_map, List.length_take]; omega
theorem namesP_short {l : List (List UInt8)} : ∀ x ∈ namesP l, x.length ≤ 60 := fun x hx => by
  obtain ⟨y, hy, rfl⟩ := List.mem_map.1 hx
  rw [List.length_take]; omega

set_option maxHeartbeats 4000000 in
theorem names11_own (l : List (List UInt8)) (A : Option Addr) (n c : Nat) (w : World) (hE : StrW w l (.slice A n c)) (hs : ∀ x ∈ l, x.length ≤ 9223372036854775807) :
    Calls Try.prog 14 #[.slice A n c] w fun e w' => ∃ v n', e = .returned v ∧ w'.ownsRow w.heap.size 9 1 v n' (strsV (namesP l)) ∧ Below w.heap.size w w' := by
  obtain ⟨i0, hi, hz0, hz1, hz2⟩ := info_parts info_strP
  have hi := Lib.hid hi
  have hz0 := Lib.hid hz0
  have hz1 := Lib.hid hz1
  have hz2 := Lib.hid hz2
  obtain ⟨hl, hn, hc, hr⟩ := hE.parts
  obtain ⟨m, hm⟩ : ∃ m, m = min 10 n := ⟨_, rfl⟩
  have HL : Hid ((l.take 10).length = m) := by show _ = _; rw [List.length_take, hl, hm]
  have HS : Hid (∀ x ∈ l.take 10, x.length ≤ 9223372036854775807) := fun x hx => hs x (List.mem_of_mem_take hx)
  have HR0 : Hid (Rd w w.heap.size A (strsV (l.take 10))) := by show Rd _ _ _ _; rw [strsV_take]; exact hr.take _
  have HF : Hid (namesP l = (l.take 10).map (·.take 60)) := rfl
  obtain ⟨L, hLL⟩ : ∃ L, l.take 10 = L := ⟨_, rfl⟩
  obtain ⟨FF, hFF⟩ : ∃ FF, namesP l = FF := ⟨_, rfl⟩
  rw [hLL] at HL HS HR0 HF
  rw [hFF] at HF ⊢
  have hm33 : m ≤ 10 := by omega
  have hnm : (n : Int) ≤ 9223372036854775807 := by unfold maxLen at hc; omega
  clear hl hs hr hLL hFF hc hE
  go_enter Try.func14, Try.ntmps14
  go_upto_if 8 with fail
  go_cut [0] from 9 to 10 (fun s wx => w = wx ∧ s = .slice A m c)
  case first =>
    by_cases h : n ≤ 10
    · have hno : ¬ (10 : Int) < (n : Int) := by omega
      have hmn : m = n := by omega
      clear hm h
      subst hmn
      go_wp2_with fail
      go_meet
      exact ⟨rfl, rfl⟩
    · have hyes : (10 : Int) < (n : Int) := by omega
      have hcap : (10 : Int) ≤ (c : Int) := by omega
      have hm10 : m = 10 := by omega
      clear hm h
      subst hm10
      go_wp2_with fail
      go_meet
      exact ⟨rfl, rfl⟩
  case rest =>
    obtain ⟨rfl, rfl⟩ := hcut
    clear hm
    go_wp2
    go_loopw [3, 4] (fun r i wr => ∃ k : Nat, k ≤ m ∧ i = .int .i64 (k : Int) ∧ Hid (wr.ownsRow w.heap.size 9 1 r k (strsV ((L.take k).map (·.take 60)))) ∧ Hid (Below w.heap.size w wr)) (fun _ i _ => m - (intOf i).toNat)
    case atStart => exact ⟨0, Nat.zero_le _, rfl, ⟨rfl, .inl ⟨rfl, rfl⟩⟩, Below.refl _ _⟩
    case round =>
      obtain ⟨k, hk, rfl, HOWN, HBB⟩ := hrel
      obtain ⟨Ar, cr, hre, hcr, hcm⟩ := own_len HOWN.out
      subst hre
      by_cases hlt : k < m
      · obtain ⟨x, hx⟩ : ∃ x, L[k]? = some x := ⟨_, List.getElem?_eq_getElem (by rw [HL.out]; exact hlt)⟩
        obtain ⟨b, o, rfl, -, -⟩ := HR0.out.plain (by rw [strsV_len, HL.out]; omega)
        have c0 := strs_at (HR0.out.below HBB.out) hx
        have hxi := HS.out x (List.mem_of_getElem? hx)
        have HV : Hid (strsV ((L.take (k + 1)).map (·.take 60)) = strsV ((L.take k).map (·.take 60)) ++ [.string (str (x.take 60))]) := by
          show _ = _
          rw [List.take_add_one, hx, List.map_append, strsV_append]; rfl
        have hsz := str_size x
        have hxe := str_ext x 0 60
        rw [List.drop_zero] at hxe
        have HFW : Hid (x.length ≤ 60 → str (x.take 60) = str x) := fun h => by rw [List.take_of_length_le h]
        obtain ⟨X, hX⟩ : ∃ X, str x = X := ⟨_, rfl⟩
        obtain ⟨Y, hY⟩ : ∃ Y, str (x.take 60) = Y := ⟨_, rfl⟩
        obtain ⟨q, hq⟩ : ∃ q, x.length = q := ⟨_, rfl⟩
        rw [hX] at c0 hsz hxe HFW
        rw [hY] at HV hxe HFW
        rw [hq] at hsz hxi HFW
        have HSZ := Lib.hid hsz
        have HXE := Lib.hid hxe
        have HGE : Hid (w.heap.size ≤ wr.heap.size) := HBB.out.size
        clear hx hX hY hq hsz hxe
        go_upto_if 23 with (have hsz := HSZ.out; fail)
        go_cut [5] from 11 to 29 (fun s wc => wr = wc ∧ s = .string Y)
        case first =>
          have hsz := HSZ.out
          have hxe := HXE.out
          by_cases h60 : 60 < q
          · have hyes : (60 : Int) < (q : Int) := by omega
            go_wp2_with fail
            go_meet
            exact ⟨rfl, rfl⟩
          · have hno : ¬ (60 : Int) < (q : Int) := by omega
            have hxy := HFW.out (by omega)
            subst hxy
            go_wp2_with fail
            go_meet
            exact ⟨rfl, rfl⟩
        case rest =>
          obtain ⟨rfl, rfl⟩ := hcut
          have HOWN2 := Lib.hid (HOWN.out.alloc (.cells #[.string Y] 9))
          have HB2 := Lib.hid (HBB.out.alloc HBB.out.size (.cells #[.string Y] 9))
          have HNW := Lib.hid (Rd.new wr 9 #[.string Y] (0, 0))
          go_wp2_with (at_builtin; refine wpList_append_rd _ rfl _ _ 23 rfl w.heap.size 9 i0 (.string ByteArray.empty) 1 16 Try.underlying23 hi.out hz0.out hz1.out hz2.out rfl (by decide) _ _ _ rfl HOWN2.out (wr.heap.size + 1) (some ⟨wr.heap.size, 0, none⟩) 1 1 [.string Y] rfl rfl HNW.out ?c2 ?c3 ?c4 ?c5 ?_)
          case c2 => first | exact rfl | (intro u hu; simp only [List.mem_cons, List.not_mem_nil, or_false] at hu; subst hu; rfl)
          case c3 => unfold maxLen; omega
          case c4 => omega
          case c5 => have := HGE.out; simp; omega
          intro r' w7 hown7 hgrow
          have HB7 := Lib.hid (HB2.out.grown hgrow HB2.out.size (fun g hg => (HOWN2.out.lt g hg).1))
          have HOWN7 : Hid (w7.ownsRow w.heap.size 9 1 r' (k + 1) (strsV ((L.take (k + 1)).map (·.take 60)))) := by
            show World.ownsRow _ _ _ _ _ _ _
            rw [HV.out, List.map_take]; exact hown7
          clear hown7 hgrow HOWN2 HB2 HNW
          go_wp2
          go_roundw
          case rel => exact ⟨k + 1, by omega, by go_num, HOWN7, HB7⟩
          case measure => simp [intOf]; omega
      · have hkm : k = m := by omega
        subst hkm
        have HE : Hid (wr.ownsRow w.heap.size 9 1 (.slice Ar k cr) k (strsV FF)) := by
          have h := HOWN.out
          rw [List.take_of_length_le (by rw [HL.out]; exact Nat.le_refl _), ← HF.out] at h
          exact h
        go_wp2
        go_ret
        exact ⟨_, _, rfl, HE.out, HBB.out⟩
theorem names11_any (l : List (List UInt8)) (v : Value) (w : World) (hE : StrW w l v) (hs : ∀ x ∈ l, x.length ≤ 9223372036854775807) :
    Calls Try.prog 14 #[v] w fun e w' => ∃ v, e = .returned v ∧ StrW w' (namesP l) v ∧ Below w.heap.size w w' := by
  obtain ⟨A, n, c, rfl, -⟩ := id hE
  exact (names11_own l A n c w hE hs).mono fun e w' h => by obtain ⟨v, n', h1, h2, h3⟩ := h; exact ⟨v, h1, StrW.own h2, h3⟩

/-! the chapter's examples -/
theorem toks_oneP (c : UInt8) (h : c.toNat < 128) : toks [c] = [⟨(c.toNat : Int), [c], false⟩] := by
  have hr : runeN [c] = some (c.toNat, 1) := (rune_iff _ _ _).2 (.inl ⟨rfl, h, rfl⟩)
  have hw : widN [c] = 1 := by unfold widN; rw [hr]
  rw [toks_cons (by simp), hw, show List.drop 1 [c] = [] from rfl, toks_nil]
  unfold tkOf
  rw [hr]; rfl
theorem isT_abc : isT [97] = true ∧ isT [98] = true ∧ isT [99] = true := by
  refine ⟨?_, ?_, ?_⟩
  · unfold isT; rw [toks_oneP 97 (by decide)]; decide
  · unfold isT; rw [toks_oneP 98 (by decide)]; decide
  · unfold isT; rw [toks_oneP 99 (by decide)]; decide
theorem ex_path1 : parseP [47, 97, 47, 47, 46, 47, 98, 47, 46, 46, 47, 99] = ([[97], [99]], 0) := by
  have e : cutS [47, 97, 47, 47, 46, 47, 98, 47, 46, 46, 47, 99] = [[], [97], [], [46], [98], [46, 46], [99]] := by decide
  obtain ⟨h1, h2, h3⟩ := isT_abc
  unfold parseP
  rw [if_neg (by decide), if_neg (by decide), e]
  simp [goP, h1, h2, h3]
theorem ex_path2 : parseP [97] = ([], 11) := by decide
theorem ex_path3 : parseP [47, 97, 47, 98] = ([[97], [98]], 0) := by
  have e : cutS [47, 97, 47, 98] = [[], [97], [98]] := by decide
  obtain ⟨h1, h2, h3⟩ := isT_abc
  unfold parseP
  rw [if_neg (by decide), if_neg (by decide), e]
  simp [goP, h1, h2]
theorem ex_par : parQ [47, 97, 47, 98] = 0 ∧ parR [47, 97, 47, 98] = [[97]] ∧ parX [47, 97, 47, 98] = [98] ∧ parQ [47] = 1 := by
  have h0 : parQ [47, 97, 47, 98] = 0 := by unfold parQ; rw [ex_path3]; rfl
  refine ⟨h0, ?_, ?_, ?_⟩
  · unfold parR; rw [h0, ex_path3]; rfl
  · unfold parX; rw [h0, ex_path3]; rfl
  · unfold parQ; rw [parse_root]; rfl
structure AwakePC (w0 : World) : Prop where
  call : ∀ (w : World), (hB : Below w0.heap.size w0 w := by first | exact Below.refl _ _ | assumption | exact via1Q (by assumption) | exact via2Q (by assumption) (by assumption)) → Calls Try.prog 13 #[] w fun e w' => e = .returned (.bool true) ∧ Below w.heap.size w w'
set_option maxHeartbeats 2000000 in
theorem awakeP_base (w : World) (HP : ParsePC w) (HR : ParentPC w) : Calls Try.prog 13 #[] w fun e w' => e = .returned (.bool true) ∧ Below w.heap.size w w' := by
  obtain ⟨x0, x1, x2, x3⟩ := ex_par
  have H1 : Hid (Calls Try.prog 8 #[.string ⟨#[47, 97, 47, 47, 46, 47, 98, 47, 46, 46, 47, 99]⟩] w fun e w' => ∃ v, e = .returned (.tuple #[v, .int .i64 0]) ∧ StrW w' [[97], [99]] v ∧ Below w.heap.size w w') := by
    have h := HP.call [47, 97, 47, 47, 46, 47, 98, 47, 46, 46, 47, 99] w (by decide)
    rw [ex_path1] at h
    exact h
  have H2 : Hid (∀ w1, Below w.heap.size w w1 → Calls Try.prog 8 #[.string ⟨#[97]⟩] w1 fun e w' => ∃ v, e = .returned (.tuple #[v, .int .i64 11]) ∧ Below w1.heap.size w1 w') := fun w1 hb => by
    have h := HP.call [97] w1 (by decide)
    rw [ex_path2] at h
    exact h.mono fun e w' h => by obtain ⟨v, h1, _, h2⟩ := h; exact ⟨v, h1, h2⟩
  have H3 : Hid (∀ w1, Below w.heap.size w w1 → Calls Try.prog 10 #[.string ⟨#[47, 97, 47, 98]⟩] w1 fun e w' => ∃ v, e = .returned (.tuple #[v, .string ⟨#[98]⟩, .int .i64 0]) ∧ StrW w' [[97]] v ∧ Below w1.heap.size w1 w') := fun w1 hb => by
    have h := HR.call [47, 97, 47, 98] w1 (by decide)
    rw [x0, x1, x2] at h
    exact h
  have H4 : Hid (∀ w1, Below w.heap.size w w1 → Calls Try.prog 10 #[.string ⟨#[47]⟩] w1 fun e w' => ∃ v s, e = .returned (.tuple #[v, .string s, .int .i64 1]) ∧ Below w1.heap.size w1 w') := fun w1 hb => by
    have h := HR.call [47] w1 (by decide)
    rw [x3] at h
    exact h.mono fun e w' h => by obtain ⟨v, h1, _, h2⟩ := h; exact ⟨v, _, h1, h2⟩
  clear x0 x1 x2 x3 HP HR
  go_enter Try.func13, Try.ntmps13
  go_wp2_with fail
  refine H1.out.mono ?_
  rintro e w1 ⟨v1, rfl, hE1, hb⟩
  have HB1 := Lib.hid hb
  have E1 := Lib.hid hE1
  clear hE1 hb
  go_wp2_with fail
  refine (H2.out _ HB1.out).mono ?_
  rintro e w2 ⟨v2, rfl, hb⟩
  have HB2 := Lib.hid (HB1.out.trans (hb.mono HB1.out.size))
  have E2 := Lib.hid (E1.out.up hb)
  clear hb
  go_wp2_with fail
  refine (H3.out _ HB2.out).mono ?_
  rintro e w3 ⟨v3, rfl, hE3, hb⟩
  have HB3 := Lib.hid (HB2.out.trans (hb.mono HB2.out.size))
  have E3 := Lib.hid (E2.out.up hb)
  have F3 := Lib.hid hE3
  clear hb hE3
  go_wp2_with fail
  refine (H4.out _ HB3.out).mono ?_
  rintro e w4 ⟨v4, s4, rfl, hb⟩
  have HB4 := Lib.hid (HB3.out.trans (hb.mono HB3.out.size))
  have E4 := Lib.hid (E3.out.up hb)
  have F4 := Lib.hid (F3.out.up hb)
  clear hb
  go_wp2_with fail
  have HB5 := Lib.hid (HB4.out.alloc HB4.out.size (.cells #[.string (str [97]), .string (str [99])] 9))
  have hq5 := (Below.refl w4.heap.size w4).alloc (Nat.le_refl _) (.cells #[.string (str [97]), .string (str [99])] 9)
  have G5 : Hid (StrW (w4.alloc (.cells #[.string (str [97]), .string (str [99])] 9)) [[97], [99]] (.slice (some ⟨w4.heap.size, 0, none⟩) 2 2)) :=
    ⟨_, _, _, rfl, rfl, Nat.le_refl _, by unfold maxLen; omega, Rd.bk (Bk.new w4 9 #[.string (str [97]), .string (str [99])])⟩
  have E5 := Lib.hid (E4.out.up hq5)
  have F5 := Lib.hid (F4.out.up hq5)
  clear hq5
  refine (rSameP E5.out G5.out (by decide) (by decide)).mono ?_
  rintro e w6 ⟨rfl, hb⟩
  have HB6 := Lib.hid (HB5.out.trans (hb.mono HB5.out.size))
  have F6 := Lib.hid (F5.out.up hb)
  rw [decide_eq_true (rfl : ([[97], [99]] : List (List UInt8)) = [[97], [99]])]
  clear hb
  go_wp2_with fail
  have HB7 := Lib.hid (HB6.out.alloc HB6.out.size (.cells #[.string (str [97])] 9))
  have hq7 := (Below.refl w6.heap.size w6).alloc (Nat.le_refl _) (.cells #[.string (str [97])] 9)
  have G7 : Hid (StrW (w6.alloc (.cells #[.string (str [97])] 9)) [[97]] (.slice (some ⟨w6.heap.size, 0, none⟩) 1 1)) :=
    ⟨_, _, _, rfl, rfl, Nat.le_refl _, by unfold maxLen; omega, Rd.bk (Bk.new w6 9 #[.string (str [97])])⟩
  have F7 := Lib.hid (F6.out.up hq7)
  clear hq7
  refine (rSameP F7.out G7.out (by decide) (by decide)).mono ?_
  rintro e w8 ⟨rfl, hb⟩
  have HB8 := Lib.hid (HB7.out.trans (hb.mono HB7.out.size))
  rw [decide_eq_true (rfl : ([[97]] : List (List UInt8)) = [[97]])]
  clear hb
  go_wp2
  go_ret
  exact ⟨rfl, HB8.out⟩
theorem awakeP_any {w0 : World} (HP : ParsePC w0) (HR : ParentPC w0) : AwakePC w0 := ⟨fun w hb => awakeP_base w (HP.up hb) (HR.up hb)⟩
end Go.Proofs.Ytlenfocdhchphaa
