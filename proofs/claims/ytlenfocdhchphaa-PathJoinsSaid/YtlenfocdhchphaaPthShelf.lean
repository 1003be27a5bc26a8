/-
  The functions of the library that path calls: TrimPrefix, Join and IndexByte by the contracts of the library's shelf, at this program's numbers; Cut, IndexFunc, ContainsFunc and Equal walked. (Printed by wip/tools/pthshelf.py.)
-/
import Derived.Shelf.Strings.OnBuilder
import Derived.Shelf.Strings.Prefix
import Derived.Shelf.Strings.Search1
import Derived.BigQuiet
import Derived.Deep.LoopGhost
import Derived.LoopTactic
import Derived.Test.YtlenfocdhchphaaPthMath
import Derived.Test.YtlenfocdhchphaaPathMem
import Derived.Test.YtlenfocdhchphaaRef09
namespace Go.Proofs.Ytlenfocdhchphaa
open Go.Shelf Go.RowKit
set_option maxRecDepth 100000
set_option linter.unusedVariables false

def lay101_ren : Go.Shelf.Ren := ⟨fun | 101 => 33 | 206 => 30 | 208 => 46 | n => n, fun | 3 => 3 | 4 => 4 | 9 => 9 | n => n, fun | n => n⟩
theorem lay101 : Go.Proofs.Lays.n101 Try.prog lay101_ren := {
  mixed := by kernel_rfl
  f101 := Try.func33.trans (congrArg some (by kernel_rfl))
  f206 := Try.func30.trans (congrArg some (by kernel_rfl))
  f208 := Try.func46.trans (congrArg some (by kernel_rfl))
  t3 := Try.underlying3
  a3 := Try.isAgg3
  z3 := Try.sizeOf3
  v3 := Try.zeroValue3
  t4 := Try.underlying4
  a4 := Try.isAgg4
  z4 := Try.sizeOf4
  v4 := Try.zeroValue4
  t9 := Try.underlying9
  a9 := Try.isAgg9
  z9 := Try.sizeOf9
  v9 := Try.zeroValue9 }
def lay217_ren : Go.Shelf.Ren := ⟨fun | 217 => 56 | 266 => 60 | n => n, fun | 3 => 3 | 5 => 5 | 9 => 9 | n => n, fun | n => n⟩
theorem lay217 : Go.Proofs.Lays.n217 Try.prog lay217_ren := {
  mixed := by kernel_rfl
  f217 := Try.func56.trans (congrArg some (by kernel_rfl))
  f266 := Try.func60.trans (congrArg some (by kernel_rfl))
  t3 := Try.underlying3
  a3 := Try.isAgg3
  z3 := Try.sizeOf3
  v3 := Try.zeroValue3
  t5 := Try.underlying5
  a5 := Try.isAgg5
  z5 := Try.sizeOf5
  v5 := Try.zeroValue5
  t9 := Try.underlying9
  a9 := Try.isAgg9
  z9 := Try.sizeOf9
  v9 := Try.zeroValue9 }
def lay156_ren : Go.Shelf.Ren := ⟨fun | 156 => 28 | 165 => 39 | 166 => 40 | 169 => 41 | 240 => 49 | 241 => 50 | 276 => 54 | 277 => 55 | n => n, fun | 0 => 0 | 3 => 3 | 4 => 4 | 9 => 9 | 20 => 20 | 31 => 23 | 37 => 41 | 70 => 60 | 72 => 62 | 75 => 65 | 76 => 66 | 127 => 73 | 164 => 78 | 5 => 5 | 80 => 68 | n => n, fun | n => n⟩
theorem lay156 : Go.Proofs.Lays.n156 Try.prog lay156_ren := {
  mixed := by kernel_rfl
  f156 := Try.func28.trans (congrArg some (by kernel_rfl))
  f165 := Try.func39.trans (congrArg some (by kernel_rfl))
  f166 := Try.func40.trans (congrArg some (by kernel_rfl))
  f169 := Try.func41.trans (congrArg some (by kernel_rfl))
  f240 := Try.func49.trans (congrArg some (by kernel_rfl))
  f241 := Try.func50.trans (congrArg some (by kernel_rfl))
  f276 := Try.func54.trans (congrArg some (by kernel_rfl))
  f277 := Try.func55.trans (congrArg some (by kernel_rfl))
  t0 := Try.underlying0
  a0 := Try.isAgg0
  z0 := Try.sizeOf0
  v0 := Try.zeroValue0
  t3 := Try.underlying3
  a3 := Try.isAgg3
  z3 := Try.sizeOf3
  v3 := Try.zeroValue3
  t4 := Try.underlying4
  a4 := Try.isAgg4
  z4 := Try.sizeOf4
  v4 := Try.zeroValue4
  t9 := Try.underlying9
  a9 := Try.isAgg9
  z9 := Try.sizeOf9
  v9 := Try.zeroValue9
  t20 := Try.underlying20
  a20 := Try.isAgg20
  z20 := Try.sizeOf20
  v20 := Try.zeroValue20
  t31 := Try.underlying23
  a31 := Try.isAgg23
  z31 := Try.sizeOf23
  v31 := Try.zeroValue23
  t37 := Try.underlying41
  a37 := Try.isAgg41
  z37 := Try.sizeOf41
  v37 := Try.zeroValue41
  t70 := Try.underlying60
  a70 := Try.isAgg60
  z70 := Try.sizeOf60
  v70 := Try.zeroValue60
  t72 := Try.underlying62
  a72 := Try.isAgg62
  z72 := Try.sizeOf62
  v72 := Try.zeroValue62
  t75 := Try.underlying65
  a75 := Try.isAgg65
  z75 := Try.sizeOf65
  v75 := Try.zeroValue65
  t76 := Try.underlying66
  a76 := Try.isAgg66
  z76 := Try.sizeOf66
  v76 := Try.zeroValue66
  t127 := Try.underlying73
  a127 := Try.isAgg73
  z127 := Try.sizeOf73
  v127 := Try.zeroValue73
  t164 := Try.underlying78
  a164 := Try.isAgg78
  z164 := Try.sizeOf78
  v164 := Try.zeroValue78 }
theorem extra156 : Builder.Extra Try.prog lay156_ren := {
  sizeBuilder := by kernel_rfl
  liesBuilder := by kernel_rfl
  t5 := Try.underlying5
  a5 := Try.isAgg5
  z5 := Try.sizeOf5
  v5 := Try.zeroValue5
  infoByte := by kernel_rfl
  cellsByte := by kernel_rfl
  sizeByte := by kernel_rfl
  neB5 := by decide }

theorem trim_any (t : List UInt8) (w : World) : Calls Try.prog 33 #[.string (str (47 :: t)), .string ⟨#[47]⟩] w fun e w' => e = .returned (.string (str t)) ∧ w = w' := by
  have e : Lib.trimPrefix (47 :: t) [47] = t := by simp [Lib.trimPrefix, Lib.hasPrefix]
  refine (Any.strings_TrimPrefix lay101 (str (47 :: t)) (str [47]) w).mono fun _ _ h => ⟨h.1.trans ?_, h.2.symm⟩
  rw [show (str (47 :: t)).data.toList = 47 :: t from rfl, show (str [47]).data.toList = [47] from rfl, e]
  rfl
theorem ixbyte_any (t : List UInt8) (i : Int) (h : Lib.indexByte t 47 = i) (w : World) : Calls Try.prog 56 #[.string (str t), .int .u8 47] w fun e w' => e = .returned (.int .i64 i) ∧ w = w' :=
  (Any.stringslite_IndexByte lay217 (str t) 47 w).mono fun _ _ h' => ⟨h'.1.trans (by rw [← h]; rfl), h'.2.symm⟩
theorem index_any (t : List UInt8) (i : Int) (h : Lib.indexByte t 47 = i) (w : World) : Calls Try.prog 52 #[.string (str t), .string ⟨#[47]⟩] w fun e w' => e = .returned (.int .i64 i) ∧ w = w' := by
  have HX := Lib.hid fun w' => ixbyte_any t i h w'
  have e1 : (str t).toList = t := str_toList _
  by_cases ht : t = [47]
  · obtain rfl : (0 : Int) = i := by rw [← h, ht]; rfl
    have hq : ([47] == t) = true := by rw [ht]; rfl
    obtain ⟨s, hs⟩ : ∃ s, str t = s := ⟨_, rfl⟩
    rw [hs] at HX e1 ⊢
    clear hs h ht
    go_enter Try.func52, Try.ntmps52
    go_wp2
    go_ret
    exact ⟨rfl, rfl⟩
  · have hq : ([47] == t) = false := beq_false_of_ne fun e => ht e.symm
    obtain ⟨s, hs⟩ : ∃ s, str t = s := ⟨_, rfl⟩
    rw [hs] at HX e1 ⊢
    clear hs h ht
    go_enter Try.func52, Try.ntmps52
    go_wp2_with fail
    refine (HX.out _).mono ?_
    rintro e w1 ⟨rfl, rfl⟩
    go_wp2
    go_ret
    exact ⟨rfl, rfl⟩
theorem scut_none (t : List UInt8) (h : ∀ c ∈ t, c ≠ 47) (w : World) : Calls Try.prog 47 #[.string (str t), .string ⟨#[47]⟩] w fun e w' => e = .returned (.tuple #[.string (str t), .string ⟨#[]⟩, .bool false]) ∧ Below w.heap.size w w' := by
  have HX := Lib.hid fun w' => index_any t (-1) (index_none h) w'
  obtain ⟨s, hs⟩ : ∃ s, str t = s := ⟨_, rfl⟩
  rw [hs] at HX ⊢
  clear hs h
  go_enter Try.func47, Try.ntmps47
  go_wp2_with fail
  refine (HX.out _).mono ?_
  rintro e w1 ⟨rfl, rfl⟩
  go_wp2
  go_ret3
  exact ⟨rfl, Below.refl _ _⟩
theorem scut_at (a b : List UInt8) (h : ∀ c ∈ a, c ≠ 47) (hl : a.length + b.length ≤ 1000000) (w : World) : Calls Try.prog 47 #[.string (str (a ++ 47 :: b)), .string ⟨#[47]⟩] w fun e w' => e = .returned (.tuple #[.string (str a), .string (str b), .bool true]) ∧ Below w.heap.size w w' := by
  have HX := Lib.hid fun w' => index_any (a ++ 47 :: b) a.length (index_at b h) w'
  have hsz : (str (a ++ 47 :: b)).size = a.length + b.length + 1 := by rw [str_size, List.length_append, List.length_cons]; omega
  have hx1 : (str (a ++ 47 :: b)).extract 0 a.length = str a := by rw [str_ext]; simp
  have hx2 : (str (a ++ 47 :: b)).extract (a.length + 1) (a.length + b.length + 1) = str b := by
    rw [str_ext, List.take_of_length_le (by simp; omega), ← List.drop_drop]; simp
  obtain ⟨s, hs⟩ : ∃ s, str (a ++ 47 :: b) = s := ⟨_, rfl⟩
  obtain ⟨sa, hsa⟩ : ∃ s, str a = s := ⟨_, rfl⟩
  obtain ⟨sb, hsb⟩ : ∃ s, str b = s := ⟨_, rfl⟩
  obtain ⟨n, hn⟩ : ∃ n, a.length = n := ⟨_, rfl⟩
  obtain ⟨m, hm⟩ : ∃ m, b.length = m := ⟨_, rfl⟩
  rw [hs] at HX hsz hx1 hx2 ⊢
  rw [hsa] at hx1 ⊢
  rw [hsb] at hx2 ⊢
  rw [hn] at HX hsz hx1 hx2 hl
  rw [hm] at hsz hx2 hl
  clear hs hsa hsb hn hm h
  have c1 : (0 : Int) ≤ (n : Int) := by omega
  have c2 : (n : Int) ≤ (s.size : Int) := by omega
  have c3 : (0 : Int) ≤ (n : Int) + 1 := by omega
  have c4 : (n : Int) + 1 ≤ (s.size : Int) := by omega
  have c5 : (0 : Int) ≤ (s.size : Int) := by omega
  go_enter Try.func47, Try.ntmps47
  go_wp2_with fail
  refine (HX.out _).mono ?_
  rintro e w1 ⟨rfl, rfl⟩
  go_wp2_with fail
  go_quiet (fail)
  go_wp2
  go_ret3
  exact ⟨rfl, (Below.refl _ _).drewN' _⟩
theorem cut_none (t : List UInt8) (h : ∀ c ∈ t, c ≠ 47) (w : World) : Calls Try.prog 34 #[.string (str t), .string ⟨#[47]⟩] w fun e w' => e = .returned (.tuple #[.string (str t), .string ⟨#[]⟩, .bool false]) ∧ Below w.heap.size w w' := by
  have HX := Lib.hid fun w' => scut_none t h w'
  obtain ⟨s, hs⟩ : ∃ s, str t = s := ⟨_, rfl⟩
  rw [hs] at HX ⊢
  clear hs h
  go_enter Try.func34, Try.ntmps34
  go_wp2_with fail
  refine (HX.out _).mono ?_
  rintro e w1 ⟨rfl, hb⟩
  have HB := Lib.hid hb
  clear hb
  go_wp2
  go_ret3
  exact ⟨rfl, HB.out⟩
theorem cut_at (a b : List UInt8) (h : ∀ c ∈ a, c ≠ 47) (hl : a.length + b.length ≤ 1000000) (w : World) : Calls Try.prog 34 #[.string (str (a ++ 47 :: b)), .string ⟨#[47]⟩] w fun e w' => e = .returned (.tuple #[.string (str a), .string (str b), .bool true]) ∧ Below w.heap.size w w' := by
  have HX := Lib.hid fun w' => scut_at a b h hl w'
  obtain ⟨s, hs⟩ : ∃ s, str (a ++ 47 :: b) = s := ⟨_, rfl⟩
  obtain ⟨sa, hsa⟩ : ∃ s, str a = s := ⟨_, rfl⟩
  obtain ⟨sb, hsb⟩ : ∃ s, str b = s := ⟨_, rfl⟩
  rw [hs, hsa, hsb] at HX
  rw [hs, hsa, hsb]
  clear hs hsa hsb h hl
  go_enter Try.func34, Try.ntmps34
  go_wp2_with fail
  refine (HX.out _).mono ?_
  rintro e w1 ⟨rfl, hb⟩
  have HB := Lib.hid hb
  clear hb
  go_wp2
  go_ret3
  exact ⟨rfl, HB.out⟩

set_option maxHeartbeats 4000000 in
theorem ixfunc_any (F : Nat) (cb : Array Value) (p : List UInt8 → Bool) (l : List (List UInt8)) (A : Option Addr) (n c : Nat) (w : World) (hE : ∀ args (wx : World), (callFunc F args).run Try.prog wx = .ok (.enter F args) wx)
    (hL : StrW w l (.slice A n c)) (hn : n ≤ 1000000)
    (hf : ∀ x ∈ l, ∀ w', Below w.heap.size w w' → Calls Try.prog F (#[.string (str x)] ++ cb) w' fun e w'' => e = .returned (.bool (p x)) ∧ Below w'.heap.size w' w'') :
    Calls Try.prog 38 #[.slice A n c, .func (.func F) #[] cb] w fun e w' => ∃ i : Int, e = .returned (.int .i64 i) ∧ (0 ≤ i ↔ l.any p = true) ∧ -1 ≤ i ∧ Below w.heap.size w w' := by
  have HF := Lib.hid hf
  have E0 := Lib.hid hL
  have HN := Lib.hid hL.parts.1
  clear hf hL
  go_enter Try.func38, Try.ntmps38
  go_wp2
  go_loopw [8] (fun a wr => ∃ k : Nat, k ≤ n ∧ a = .int .i64 (k : Int) ∧ Hid (∀ j x, j < k → l[j]? = some x → p x = false) ∧ Hid (Below w.heap.size w wr)) (fun a _ => n - (intOf a).toNat)
  case atStart => exact ⟨0, Nat.zero_le _, rfl, fun j x h => absurd h (by omega), Below.refl _ _⟩
  case round =>
    obtain ⟨k, hk, rfl, HP, HB⟩ := hrel
    have E1 := Lib.hid (E0.out.up HB.out)
    by_cases hlt : k < n
    · obtain ⟨x, hx⟩ : ∃ x, l[k]? = some x := ⟨_, List.getElem?_eq_getElem (by rw [HN.out]; exact hlt)⟩
      have HRL := Lib.hid E1.out.parts.2.2.2
      obtain ⟨b, o, rfl, -, -⟩ := HRL.out.plain (by rw [strsV_len, HN.out]; omega)
      have c0 := strs_at HRL.out hx
      have hc := HF.out x (List.mem_of_getElem? hx) wr HB.out
      obtain ⟨X, hX⟩ : ∃ X, str x = X := ⟨_, rfl⟩
      rw [hX] at c0 hc
      have HXX := Lib.hid hx
      clear hx hX
      cases hp : p x <;> rw [hp] at hc
      · have HPX := Lib.hid hp
        have HP2 : Hid (∀ j y, j < k + 1 → l[j]? = some y → p y = false) := fun j y hj hy => by
          rcases Nat.lt_or_ge j k with h | h
          · exact HP.out j y h hy
          · obtain rfl : j = k := by omega
            have := HXX.out
            rw [hy] at this; cases this
            exact HPX.out
        clear hp
        go_wp2_with fail
        refine hc.mono ?_
        rintro e w1 ⟨rfl, hb⟩
        have HB1 := Lib.hid (HB.out.trans (hb.mono HB.out.size))
        clear hb
        go_wp2
        go_roundw
        case rel => exact ⟨k + 1, by omega, by go_num, HP2, HB1⟩
        case measure => simp [intOf]; omega
      · have HPX := Lib.hid hp
        clear hp
        go_wp2_with fail
        refine hc.mono ?_
        rintro e w1 ⟨rfl, hb⟩
        have HB1 := Lib.hid (HB.out.trans (hb.mono HB.out.size))
        clear hb
        go_wp2
        go_ret
        exact ⟨_, rfl, ⟨fun _ => List.any_eq_true.2 ⟨x, List.mem_of_getElem? HXX.out, HPX.out⟩, fun _ => by omega⟩, by omega, HB1.out⟩
    · obtain rfl : k = n := by omega
      go_wp2
      go_ret
      refine ⟨_, rfl, ⟨fun h => absurd h (by decide), fun h => ?_⟩, by decide, HB.out⟩
      obtain ⟨x, hx, he⟩ := List.any_eq_true.1 h
      obtain ⟨j, hj⟩ := List.mem_iff_getElem?.1 hx
      have := HP.out j x (by have := (List.getElem?_eq_some_iff.1 hj).1; have := HN.out; omega) hj
      rw [he] at this; cases this
theorem contains_any (F : Nat) (cb : Array Value) (p : List UInt8 → Bool) (l : List (List UInt8)) (A : Option Addr) (n c : Nat) (w : World) (hE : ∀ args (wx : World), (callFunc F args).run Try.prog wx = .ok (.enter F args) wx)
    (hL : StrW w l (.slice A n c)) (hn : n ≤ 1000000)
    (hf : ∀ x ∈ l, ∀ w', Below w.heap.size w w' → Calls Try.prog F (#[.string (str x)] ++ cb) w' fun e w'' => e = .returned (.bool (p x)) ∧ Below w'.heap.size w' w'') :
    Calls Try.prog 26 #[.slice A n c, .func (.func F) #[] cb] w fun e w' => e = .returned (.bool (l.any p)) ∧ Below w.heap.size w w' := by
  have HX := Lib.hid (ixfunc_any F cb p l A n c w hE hL hn hf)
  obtain ⟨t, ht⟩ : ∃ t, l.any p = t := ⟨_, rfl⟩
  rw [ht] at HX ⊢
  clear hE hL hf ht
  go_enter Try.func26, Try.ntmps26
  go_wp2_with fail
  refine HX.out.mono ?_
  rintro e w1 ⟨i, rfl, hi, hi1, hb⟩
  have HB := Lib.hid hb
  have HI := Lib.hid hi
  clear hb hi
  go_wp2
  go_ret
  refine ⟨ret_bool ?_, HB.out⟩
  rw [Bool.eq_iff_iff, decide_eq_true_eq]; exact HI.out
set_option maxHeartbeats 4000000 in
theorem sequal_any (l l' : List (List UInt8)) (A A' : Option Addr) (n c n' c' : Nat) (w : World) (hE : StrW w l (.slice A n c)) (hE' : StrW w l' (.slice A' n' c')) (hn : n ≤ 100000) (hn' : n' ≤ 100000) :
    Calls Try.prog 29 #[.slice A n c, .slice A' n' c'] w fun e w' => e = .returned (.bool (decide (l = l'))) ∧ Below w.heap.size w w' := by
  have E0 := Lib.hid hE
  have E0' := Lib.hid hE'
  have HN := Lib.hid hE.parts.1
  have HN' := Lib.hid hE'.parts.1
  obtain ⟨t, ht⟩ : ∃ t, decide (l = l') = t := ⟨_, rfl⟩
  have HT := Lib.hid ht
  rw [ht]
  clear hE hE' ht
  by_cases hnn : n = n'
  · subst hnn
    go_enter Try.func29, Try.ntmps29
    go_wp2
    go_loopw [13] (fun a wr => ∃ k : Nat, k ≤ n ∧ a = .int .i64 (k : Int) ∧ Hid (∀ j, j < k → l[j]? = l'[j]?) ∧ Hid (Below w.heap.size w wr)) (fun a _ => n - (intOf a).toNat)
    case atStart => exact ⟨0, Nat.zero_le _, rfl, fun j h => absurd h (by omega), Below.refl _ _⟩
    case round =>
      obtain ⟨k, hk, rfl, HK, HB⟩ := hrel
      have E1 := Lib.hid (E0.out.up HB.out)
      have E1' := Lib.hid (E0'.out.up HB.out)
      by_cases hlt : k < n
      · obtain ⟨y, hy⟩ : ∃ y, l'[k]? = some y := ⟨_, List.getElem?_eq_getElem (by rw [HN'.out]; exact hlt)⟩
        have HRL' := Lib.hid E1'.out.parts.2.2.2
        obtain ⟨b', o', rfl, -, -⟩ := HRL'.out.plain (by rw [strsV_len, HN'.out]; omega)
        have d0 := strs_at HRL'.out hy
        have e2 : (str y).toList = y := str_toList _
        obtain ⟨x, hx⟩ : ∃ x, l[k]? = some x := ⟨_, List.getElem?_eq_getElem (by rw [HN.out]; exact hlt)⟩
        have HRL := Lib.hid E1.out.parts.2.2.2
        obtain ⟨b, o, rfl, -, -⟩ := HRL.out.plain (by rw [strsV_len, HN.out]; omega)
        have c0 := strs_at HRL.out hx
        have e1 : (str x).toList = x := str_toList _
        by_cases he : x = y
        · subst he
          have HN2 : Hid (∀ j, j < k + 1 → l[j]? = l'[j]?) := fun j hj => by
            rcases Nat.lt_or_ge j k with h | h
            · exact HK.out j h
            · obtain rfl : j = k := by omega
              rw [hx, hy]
          clear hx hy
          go_wp2_with fail
          go_quiet (fail)
          go_wp2
          go_roundw
          case rel => exact ⟨k + 1, by omega, by go_num, HN2, HB.out.drewN' _⟩
          case measure => simp [intOf]; omega
        · obtain rfl : t = false := by
            rw [← HT.out, decide_eq_false_iff_not]
            intro e
            rw [e, hy] at hx
            exact he (Option.some.inj hx).symm
          have hq : (x == y) = false := beq_false_of_ne he
          clear hx hy he
          go_wp2_with fail
          go_quiet (fail)
          go_wp2
          go_ret
          exact ⟨rfl, HB.out.drewN' _⟩
      · obtain rfl : k = n := by omega
        obtain rfl : t = true := by
          rw [← HT.out, decide_eq_true_eq]
          apply List.ext_getElem?
          intro j
          rcases Nat.lt_or_ge j k with h | h
          · exact HK.out j h
          · rw [List.getElem?_eq_none (by rw [HN.out]; exact h), List.getElem?_eq_none (by rw [HN'.out]; exact h)]
        go_wp2
        go_ret
        exact ⟨rfl, HB.out⟩
  · obtain rfl : t = false := by
      rw [← HT.out, decide_eq_false_iff_not]
      intro e
      have h1 := HN.out
      have h2 := HN'.out
      rw [e] at h1
      omega
    have hnq : ((n : Int) == (n' : Int)) = false := beq_false_of_ne (by omega)
    go_enter Try.func29, Try.ntmps29
    go_wp2
    go_ret
    exact ⟨rfl, Below.refl _ _⟩
theorem join_any (l : List (List UInt8)) (A : Option Addr) (n c : Nat) (w : World) (hE : StrW w l (.slice A n c)) (hn : n ≤ 1000000) (hs : ∀ x ∈ l, x.length ≤ 1000000) :
    Calls Try.prog 28 #[.slice A n c, .string ⟨#[47]⟩] w fun e w' => e = .returned (.string (str (Lib.join l [47]))) ∧ Below w.heap.size w w' := by
  obtain ⟨p1, p2, p3, p4⟩ := hE.parts
  by_cases h0 : n = 0
  · subst h0
    obtain rfl := List.length_eq_zero_iff.1 p1
    exact (Any.strings_Join_none lay156 extra156 A c (str [47]) w).mono fun e w' h => ⟨h.1, h.2 ▸ Below.refl _ _⟩
  · obtain ⟨b, o, rfl, hb, -⟩ := p4.plain (by rw [strsV_len]; omega)
    have hlm : ∀ m : List (List UInt8), (∀ x ∈ m, x.length ≤ 1000000) → Lib.lens m ≤ 1000000 * m.length := fun m => by
      induction m with
      | nil => intro _; exact Nat.le_refl _
      | cons x m ih =>
        intro h
        have h1 := ih fun y hy => h y (by simp [hy])
        have h2 := h x (by simp)
        have h3 : Lib.lens (x :: m) = x.length + Lib.lens m := by simp [Lib.lens]
        rw [h3, List.length_cons]
        omega
    have hll := hlm l hs
    have hmap : (l.map str).map (·.data.toList) = l := by
      rw [List.map_map]
      have : ((fun x : ByteArray => x.data.toList) ∘ str) = id := by funext x; rfl
      rw [this, List.map_id]
    have hlen : (Lib.join l [47]).length ≤ 140737488355328 := by
      cases l with
      | nil => exact absurd p1 (by simp; omega)
      | cons x r =>
        rw [Lib.join_length]
        simp only [List.length_cons, List.length_nil] at p1 hll ⊢
        have : 1000000 * (r.length + 1) ≤ 1000000 * 1000000 := Nat.mul_le_mul_left _ (by omega)
        omega
    have h := Any.strings_Join lay156 extra156 b o c (l.map str) (str [47]) w
      (fun j x hx => by
        rw [List.getElem?_map] at hx
        obtain ⟨y, hy, rfl⟩ := Option.map_eq_some_iff.1 hx
        exact strs_at p4 hy)
      hb (by rw [List.length_map]; omega) (by rw [List.length_map]; omega) (by rw [hmap]; exact hlen)
    rw [hmap, List.length_map, p1] at h
    exact h.mono fun e w' h' => ⟨h'.1.trans rfl, h'.2⟩
end Go.Proofs.Ytlenfocdhchphaa

