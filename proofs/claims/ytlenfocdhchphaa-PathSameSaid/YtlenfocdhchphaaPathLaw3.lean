/-
  PathSame: what is put between the pieces plays no part; the walk, from the properties.
-/
import Derived.Test.YtlenfocdhchphaaPathC
namespace Go.Proofs.Ytlenfocdhchphaa
open Go.RowKit
set_option maxRecDepth 100000
set_option linter.unusedVariables false

theorem isT_q : isT [113] = true := by unfold isT; rw [toks_oneP 113 (by decide)]; decide
/-- what is put between, by the octet's rest by 5 -/
def fillP (k : Nat) : List (List UInt8) := if k % 5 = 1 then [[]] else if k % 5 = 2 then [[46]] else if k % 5 = 3 then [[113], [46, 46]] else if k % 5 = 4 then [[46], [113], [46, 46], []] else []
theorem fillP_cases (k : Nat) : (k % 5 = 0 ∧ fillP k = []) ∨ (k % 5 = 1 ∧ fillP k = [[]]) ∨ (k % 5 = 2 ∧ fillP k = [[46]]) ∨ (k % 5 = 3 ∧ fillP k = [[113], [46, 46]]) ∨ (k % 5 = 4 ∧ fillP k = [[46], [113], [46, 46], []]) := by
  unfold fillP
  rcases (show k % 5 = 0 ∨ k % 5 = 1 ∨ k % 5 = 2 ∨ k % 5 = 3 ∨ k % 5 = 4 by omega) with h | h | h | h | h <;> rw [h] <;> simp
theorem goP_fill (k : Nat) (rest out : List (List UInt8)) (h : out.length ≤ 7) : goP (fillP k ++ rest) out = goP rest out := by
  have h8 : ¬ 8 ≤ out.length := by omega
  rcases fillP_cases k with ⟨_, e⟩ | ⟨_, e⟩ | ⟨_, e⟩ | ⟨_, e⟩ | ⟨_, e⟩ <;> rw [e] <;> simp [goP, isT_q, h8]
theorem fillP_no47 (k : Nat) : ∀ x ∈ fillP k, ∀ c ∈ x, c ≠ 47 := by
  rcases fillP_cases k with ⟨_, e⟩ | ⟨_, e⟩ | ⟨_, e⟩ | ⟨_, e⟩ | ⟨_, e⟩ <;> rw [e] <;> decide
def preP (F : List UInt8) (L : List (List UInt8)) : Nat → List (List UInt8)
  | 0 => []
  | i + 1 => preP F L i ++ (fillP (octN F i) ++ (L[i]?).toList)
theorem preP_no47 {F : List UInt8} {L : List (List UInt8)} (h : ∀ x ∈ L, ∀ c ∈ x, c ≠ 47) : ∀ i, ∀ x ∈ preP F L i, ∀ c ∈ x, c ≠ 47
  | 0, x, hx => by cases hx
  | i + 1, x, hx => by
    rcases List.mem_append.1 hx with hx | hx
    · exact preP_no47 h i x hx
    · rcases List.mem_append.1 hx with hx | hx
      · exact fillP_no47 _ x hx
      · exact h x (List.mem_of_getElem? (Option.mem_toList.1 hx))
theorem preP_go {F : List UInt8} {L : List (List UInt8)} (h : ∀ x ∈ L, isT x = true) (hl : L.length ≤ 7) : ∀ i, goP (preP F L i) [] = (L.take i, 0)
  | 0 => by simp [preP, goP]
  | i + 1 => by
    have ih := preP_go (F := F) h hl i
    rw [preP, goP_append _ _ _ (by rw [ih]), ih, goP_fill _ _ _ (by rw [List.length_take]; omega)]
    cases hx : L[i]? with
    | none =>
      have : L.length ≤ i := List.getElem?_eq_none_iff.1 hx
      rw [List.take_of_length_le this, List.take_of_length_le (by omega)]; rfl
    | some x =>
      rw [Option.toList_some, goP_names [x] _ (fun y hy => by rw [List.mem_singleton.1 hy]; exact h x (List.mem_of_getElem? hx)) (by rw [List.length_take, List.length_singleton]; omega), List.take_add_one, hx]; rfl
theorem preP_len {F : List UInt8} {L : List (List UInt8)} (h : ∀ x ∈ L, x.length ≤ 24) : ∀ i, (slashed (preP F L i)).length ≤ 33 * i
  | 0 => Nat.le_refl _
  | i + 1 => by
    have ih := preP_len (F := F) h i
    rw [preP, slashed_append, slashed_append, List.length_append, List.length_append]
    have h1 : (slashed (fillP (octN F i))).length ≤ 8 := by
      rcases fillP_cases (octN F i) with ⟨_, e⟩ | ⟨_, e⟩ | ⟨_, e⟩ | ⟨_, e⟩ | ⟨_, e⟩ <;> rw [e] <;> decide
    have h2 : (slashed (L[i]?).toList).length ≤ 25 := by
      cases hx : L[i]? with
      | none => exact Nat.zero_le _
      | some x =>
        have := h x (List.mem_of_getElem? hx)
        rw [Option.toList_some, slashed_cons]
        simp only [List.length_cons, List.length_append, slashed, List.flatMap_nil, List.length_nil]; omega
    omega
/-- the text with everything put between leads where its names lead -/
theorem parse_pre {F : List UInt8} {L : List (List UInt8)} (h : ∀ x ∈ L, isT x = true) (hl : L.length ≤ 4) : parseP (if slashed (preP F L (L.length + 1)) = [] then [47] else slashed (preP F L (L.length + 1))) = (L, 0) := by
  have hg := preP_go (F := F) h (by omega) (L.length + 1)
  rw [List.take_of_length_le (by omega)] at hg
  by_cases h0 : preP F L (L.length + 1) = []
  · rw [h0] at hg ⊢
    rw [show slashed [] = [] from rfl, if_pos rfl, parse_root]; exact hg
  · have hn : slashed (preP F L (L.length + 1)) ≠ [] := by
      have := slashed_head _ h0
      intro e
      rw [e] at this; cases this
    rw [if_neg hn, parse_slashed h0 (preP_no47 (fun x hx => (name_is (h x hx)).1) _) (by have := preP_len (F := F) (fun x hx => (name_is (h x hx)).2.2.2.2) (L.length + 1); omega)]
    exact hg
theorem joinR_len {L : List (List UInt8)} (h : ∀ x ∈ L, isT x = true) (hl : L.length ≤ 4) : (joinR L).length ≤ 200 := by
  unfold joinR
  split
  · split
    · decide
    · have := slashed_len fun x hx => (name_is (h x hx)).2.2.2.2
      omega
  · exact Nat.zero_le _

set_option maxHeartbeats 8000000 in
theorem pathSame_walk (W : World) (HP : ParsePC W) (HR : ParentPC W) (HJ : JoinPC W) (l : List (List UInt8)) (v : Value) (F : List UInt8) (AF : Option Addr) (m cf : Nat)
    (hE : StrW W l v) (hs : ∀ x ∈ l, x.length ≤ 9223372036854775807) (hF : F.length = m) (hmc : m ≤ cf) (hcf : cf ≤ maxLen) (hFr : Rd W W.heap.size AF (F.map bv)) :
    Calls Try.prog 5 #[v, .slice AF m cf] W fun e w' => e = .returned (.bool true) ∧ Below W.heap.size W w' := by
  have HAW := Lib.hid (awakeP_any HP HR)
  have HP := Lib.hid HP
  have HN1 := Lib.hid (names11_any l v W hE hs)
  have HJ := Lib.hid HJ
  have HLL := Lib.hid (namesP_len l)
  have HSL := Lib.hid (namesP_short (l := l))
  have HF := Lib.hid hF
  have HFR := Lib.hid hFr
  have hm63 : (m : Int) ≤ 9223372036854775807 := by unfold maxLen at hcf; omega
  obtain ⟨L, hL⟩ : ∃ L, namesP l = L := ⟨_, rfl⟩
  rw [hL] at HN1 HLL HSL
  obtain ⟨R, hR⟩ : ∃ R, joinR L = R := ⟨_, rfl⟩
  obtain ⟨q, hq⟩ : ∃ q, joinQ L = q := ⟨_, rfl⟩
  obtain ⟨S, hS⟩ : ∃ S, str R = S := ⟨_, rfl⟩
  have HS := Lib.hid hS
  have HJR := Lib.hid hR
  have HJQ := Lib.hid hq
  clear hE hs hL hR hq hS HR hF hFr hmc hcf
  go_enter Try.func5, Try.ntmps5
  go_wp2_with fail
  refine HN1.out.mono ?_
  rintro e w1 ⟨v1, rfl, hE, hb⟩
  have B1 := Lib.hid hb
  have E1 := Lib.hid hE
  clear hE hb HN1
  obtain ⟨A1, n, c, rfl, hn1, hnc, -⟩ := id E1.out
  have hn10 : n ≤ 10 := by have := HLL.out; omega
  have HLN := Lib.hid hn1
  clear hn1 hnc
  go_wp2_with fail
  have h := HJ.out.call L _ _ _ w1 E1.out (by omega) (fun x hx => by have := HSL.out x hx; omega) B1.out
  rw [HJR.out, HJQ.out, HS.out] at h
  refine h.mono ?_
  clear h
  rintro e w2 ⟨rfl, hb⟩
  have B2 := Lib.hid (B1.out.trans (hb.mono B1.out.size))
  have E2 := Lib.hid (E1.out.up hb)
  clear hb E1 B1
  by_cases h0 : q = 0
  · subst h0
    by_cases h4 : n ≤ 4
    · have h4' : ¬ (4 : Int) < (n : Int) := by omega
      have HT : Hid (∀ x ∈ L, isT x = true) := (joinQ_zero.1 HJQ.out).1
      have HPR : Hid (parseP R = (L, 0)) := by
        show _ = _
        have h := parse_join HJQ.out (joinR_len HT.out (by have := HLN.out; omega))
        rw [HJR.out] at h
        exact h
      have HRL : Hid (R.length ≤ 200) := by
        have h := joinR_len HT.out (by have := HLN.out; omega)
        rw [HJR.out] at h
        exact h
      have HPP : Hid (parseP (if slashed (preP F L (n + 1)) = [] then [47] else slashed (preP F L (n + 1))) = (L, 0)) := by
        have h := parse_pre (F := F) HT.out (by have := HLN.out; omega)
        rw [HLN.out] at h
        exact h
      have HPB : Hid (∀ i, (slashed (preP F L i)).length ≤ 33 * i) := fun i => preP_len (fun x hx => (name_is (HT.out x hx)).2.2.2.2) i
      have HF2 : Hid (Rd w2 w2.heap.size AF (F.map bv)) := (HFR.out.below B2.out).mono B2.out.size
      go_wp2_with fail
      go_loopw [7, 8] (fun t i wr => ∃ (k : Nat) (O : ByteArray), k ≤ n + 1 ∧ i = .int .i64 (k : Int) ∧ t = .string O ∧ Hid (str (slashed (preP F L k)) = O) ∧ w2 = wr) (fun _ i _ => n + 1 - (intOf i).toNat)
      case atStart => exact ⟨0, ⟨#[]⟩, Nat.zero_le _, rfl, rfl, rfl, rfl⟩
      case round =>
        obtain ⟨k, O, hk, rfl, rfl, HO, rfl⟩ := hrel
        by_cases hkn : k ≤ n
        · obtain ⟨y, hy⟩ : ∃ y, octN F k = y := ⟨_, rfl⟩
          go_upto_if 38 with fail
          go_cut [9] from 29 to 71 (fun s wc => w2 = wc ∧ s = .int .u8 (y : Int))
          case first =>
            by_cases hkm : k < m
            · obtain ⟨ch, hch⟩ : ∃ ch, F[k]? = some ch := ⟨_, List.getElem?_eq_getElem (by rw [HF.out]; exact hkm)⟩
              obtain rfl : y = ch.toNat := by rw [← hy]; exact octP_some hch
              obtain ⟨b, o, rfl, -, hcc⟩ := HF2.out.plain (by rw [List.length_map, HF.out]; omega)
              have c0 := hcc k (bv ch) (by rw [List.getElem?_map, hch]; rfl)
              unfold bv at c0
              clear hcc hch hy
              go_wp2_with fail
              go_meet
              exact ⟨rfl, rfl⟩
            · obtain rfl : y = 0 := by
                rw [← hy]; unfold octN
                rw [List.getD_eq_getElem?_getD, List.getElem?_eq_none (by rw [HF.out]; omega)]; rfl
              clear hy
              go_wp2_with fail
              go_meet
              exact ⟨rfl, rfl⟩
          case rest =>
            obtain ⟨rfl, rfl⟩ := hcut
            have hoB : O.size ≤ 33 * k := by rw [← HO.out, str_size]; exact HPB.out k
            have HY := Lib.hid hy
            clear hy
            rcases fillP_cases y with ⟨hr, hf⟩ | ⟨hr, hf⟩ | ⟨hr, hf⟩ | ⟨hr, hf⟩ | ⟨hr, hf⟩
            · have HFI := Lib.hid hf
              have e1 : (((y : Nat) : Int) % 5 == 1) = false := beq_false_of_ne (by omega)
              have e2 : (((y : Nat) : Int) % 5 == 2) = false := beq_false_of_ne (by omega)
              have e3 : (((y : Nat) : Int) % 5 == 3) = false := beq_false_of_ne (by omega)
              have e4 : (((y : Nat) : Int) % 5 == 4) = false := beq_false_of_ne (by omega)
              have hos0 : ¬ 9223372036854775807 < O.size + 0 := by omega
              clear hf hr
              by_cases hlt : k < n
              · obtain ⟨x, hx⟩ : ∃ x, L[k]? = some x := ⟨_, List.getElem?_eq_getElem (by rw [HLN.out]; exact hlt)⟩
                obtain ⟨b, o, rfl, -, -⟩ := E2.out.parts.2.2.2.plain (by rw [strsV_len, HLN.out]; omega)
                have c0 := strs_at E2.out.parts.2.2.2 hx
                have hxl := (name_is (HT.out x (List.mem_of_getElem? hx))).2.2.2.2
                obtain ⟨X, hX⟩ : ∃ X, str x = X := ⟨_, rfl⟩
                have hXs : X.size ≤ 24 := by rw [← hX, str_size]; exact hxl
                rw [hX] at c0
                have HO1 : Hid (str (slashed (preP F L (k + 1))) = O ++ ((⟨#[47]⟩ : ByteArray) ++ X)) := by
                  show _ = _
                  rw [preP, HY.out, HFI.out, hx, slashed_append, slashed_append, ← str_append, ← str_append, HO.out, Option.toList_some, show slashed [x] = [47] ++ x by simp [slashed], ← str_append, hX, show str (slashed []) = (⟨#[]⟩ : ByteArray) from rfl, show (⟨#[]⟩ : ByteArray) ++ ((str [47]) ++ X) = (str [47]) ++ X from ByteArray.empty_append]
                  rfl
                clear hx hxl hX
                have hos1 : ¬ 9223372036854775807 < 1 + X.size := by omega
                have hos2 : ¬ 9223372036854775807 < O.size + 0 + (1 + X.size) := by omega
                have hos3 : ¬ 9223372036854775807 < O.size + (1 + X.size) := by omega
                go_wp2
                all_goals first | (exfalso; omega; done) | skip
                go_roundw
                case rel => exact ⟨k + 1, O ++ ((⟨#[47]⟩ : ByteArray) ++ X), by omega, by go_num, rfl, HO1, trivial⟩
                case measure => simp [intOf]; omega
              · have HO1 : Hid (str (slashed (preP F L (k + 1))) = O) := by
                  show _ = _
                  rw [preP, HY.out, HFI.out, List.getElem?_eq_none (by rw [HLN.out]; omega), slashed_append, Option.toList_none, List.append_nil, ← str_append, HO.out]
                  exact ByteArray.append_empty
                  --rfl
                go_wp2
                all_goals first | (exfalso; omega; done) | skip
                go_roundw
                case rel => exact ⟨k + 1, O, by omega, by go_num, rfl, HO1, trivial⟩
                case measure => simp [intOf]; omega
            · have HFI := Lib.hid hf
              have e1 : (((y : Nat) : Int) % 5 == 1) = true := beq_iff_eq.2 (by omega)
              have hos0 : ¬ 9223372036854775807 < O.size + 1 := by omega
              clear hf hr
              by_cases hlt : k < n
              · obtain ⟨x, hx⟩ : ∃ x, L[k]? = some x := ⟨_, List.getElem?_eq_getElem (by rw [HLN.out]; exact hlt)⟩
                obtain ⟨b, o, rfl, -, -⟩ := E2.out.parts.2.2.2.plain (by rw [strsV_len, HLN.out]; omega)
                have c0 := strs_at E2.out.parts.2.2.2 hx
                have hxl := (name_is (HT.out x (List.mem_of_getElem? hx))).2.2.2.2
                obtain ⟨X, hX⟩ : ∃ X, str x = X := ⟨_, rfl⟩
                have hXs : X.size ≤ 24 := by rw [← hX, str_size]; exact hxl
                rw [hX] at c0
                have HO1 : Hid (str (slashed (preP F L (k + 1))) = (O ++ (⟨#[47]⟩ : ByteArray)) ++ ((⟨#[47]⟩ : ByteArray) ++ X)) := by
                  show _ = _
                  rw [preP, HY.out, HFI.out, hx, slashed_append, slashed_append, ← str_append, ← str_append, HO.out, Option.toList_some, show slashed [x] = [47] ++ x by simp [slashed], ← str_append, hX, ← ByteArray.append_assoc]
                  rfl
                clear hx hxl hX
                have hos1 : ¬ 9223372036854775807 < 1 + X.size := by omega
                have hos2 : ¬ 9223372036854775807 < O.size + 1 + (1 + X.size) := by omega
                have hos3 : ¬ 9223372036854775807 < O.size + (1 + X.size) := by omega
                go_wp2
                all_goals first | (exfalso; omega; done) | skip
                go_roundw
                case rel => exact ⟨k + 1, (O ++ (⟨#[47]⟩ : ByteArray)) ++ ((⟨#[47]⟩ : ByteArray) ++ X), by omega, by go_num, rfl, HO1, trivial⟩
                case measure => simp [intOf]; omega
              · have HO1 : Hid (str (slashed (preP F L (k + 1))) = (O ++ (⟨#[47]⟩ : ByteArray))) := by
                  show _ = _
                  rw [preP, HY.out, HFI.out, List.getElem?_eq_none (by rw [HLN.out]; omega), slashed_append, Option.toList_none, List.append_nil, ← str_append, HO.out]
                  rfl
                go_wp2
                all_goals first | (exfalso; omega; done) | skip
                go_roundw
                case rel => exact ⟨k + 1, (O ++ (⟨#[47]⟩ : ByteArray)), by omega, by go_num, rfl, HO1, trivial⟩
                case measure => simp [intOf]; omega
            · have HFI := Lib.hid hf
              have e1 : (((y : Nat) : Int) % 5 == 1) = false := beq_false_of_ne (by omega)
              have e2 : (((y : Nat) : Int) % 5 == 2) = true := beq_iff_eq.2 (by omega)
              have hos0 : ¬ 9223372036854775807 < O.size + 2 := by omega
              clear hf hr
              by_cases hlt : k < n
              · obtain ⟨x, hx⟩ : ∃ x, L[k]? = some x := ⟨_, List.getElem?_eq_getElem (by rw [HLN.out]; exact hlt)⟩
                obtain ⟨b, o, rfl, -, -⟩ := E2.out.parts.2.2.2.plain (by rw [strsV_len, HLN.out]; omega)
                have c0 := strs_at E2.out.parts.2.2.2 hx
                have hxl := (name_is (HT.out x (List.mem_of_getElem? hx))).2.2.2.2
                obtain ⟨X, hX⟩ : ∃ X, str x = X := ⟨_, rfl⟩
                have hXs : X.size ≤ 24 := by rw [← hX, str_size]; exact hxl
                rw [hX] at c0
                have HO1 : Hid (str (slashed (preP F L (k + 1))) = (O ++ (⟨#[47, 46]⟩ : ByteArray)) ++ ((⟨#[47]⟩ : ByteArray) ++ X)) := by
                  show _ = _
                  rw [preP, HY.out, HFI.out, hx, slashed_append, slashed_append, ← str_append, ← str_append, HO.out, Option.toList_some, show slashed [x] = [47] ++ x by simp [slashed], ← str_append, hX, ← ByteArray.append_assoc]
                  rfl
                clear hx hxl hX
                have hos1 : ¬ 9223372036854775807 < 1 + X.size := by omega
                have hos2 : ¬ 9223372036854775807 < O.size + 2 + (1 + X.size) := by omega
                have hos3 : ¬ 9223372036854775807 < O.size + (1 + X.size) := by omega
                go_wp2
                all_goals first | (exfalso; omega; done) | skip
                go_roundw
                case rel => exact ⟨k + 1, (O ++ (⟨#[47, 46]⟩ : ByteArray)) ++ ((⟨#[47]⟩ : ByteArray) ++ X), by omega, by go_num, rfl, HO1, trivial⟩
                case measure => simp [intOf]; omega
              · have HO1 : Hid (str (slashed (preP F L (k + 1))) = (O ++ (⟨#[47, 46]⟩ : ByteArray))) := by
                  show _ = _
                  rw [preP, HY.out, HFI.out, List.getElem?_eq_none (by rw [HLN.out]; omega), slashed_append, Option.toList_none, List.append_nil, ← str_append, HO.out]
                  rfl
                go_wp2
                all_goals first | (exfalso; omega; done) | skip
                go_roundw
                case rel => exact ⟨k + 1, (O ++ (⟨#[47, 46]⟩ : ByteArray)), by omega, by go_num, rfl, HO1, trivial⟩
                case measure => simp [intOf]; omega
            · have HFI := Lib.hid hf
              have e1 : (((y : Nat) : Int) % 5 == 1) = false := beq_false_of_ne (by omega)
              have e2 : (((y : Nat) : Int) % 5 == 2) = false := beq_false_of_ne (by omega)
              have e3 : (((y : Nat) : Int) % 5 == 3) = true := beq_iff_eq.2 (by omega)
              have hos0 : ¬ 9223372036854775807 < O.size + 5 := by omega
              clear hf hr
              by_cases hlt : k < n
              · obtain ⟨x, hx⟩ : ∃ x, L[k]? = some x := ⟨_, List.getElem?_eq_getElem (by rw [HLN.out]; exact hlt)⟩
                obtain ⟨b, o, rfl, -, -⟩ := E2.out.parts.2.2.2.plain (by rw [strsV_len, HLN.out]; omega)
                have c0 := strs_at E2.out.parts.2.2.2 hx
                have hxl := (name_is (HT.out x (List.mem_of_getElem? hx))).2.2.2.2
                obtain ⟨X, hX⟩ : ∃ X, str x = X := ⟨_, rfl⟩
                have hXs : X.size ≤ 24 := by rw [← hX, str_size]; exact hxl
                rw [hX] at c0
                have HO1 : Hid (str (slashed (preP F L (k + 1))) = (O ++ (⟨#[47, 113, 47, 46, 46]⟩ : ByteArray)) ++ ((⟨#[47]⟩ : ByteArray) ++ X)) := by
                  show _ = _
                  rw [preP, HY.out, HFI.out, hx, slashed_append, slashed_append, ← str_append, ← str_append, HO.out, Option.toList_some, show slashed [x] = [47] ++ x by simp [slashed], ← str_append, hX, ← ByteArray.append_assoc]
                  rfl
                clear hx hxl hX
                have hos1 : ¬ 9223372036854775807 < 1 + X.size := by omega
                have hos2 : ¬ 9223372036854775807 < O.size + 5 + (1 + X.size) := by omega
                have hos3 : ¬ 9223372036854775807 < O.size + (1 + X.size) := by omega
                go_wp2
                all_goals first | (exfalso; omega; done) | skip
                go_roundw
                case rel => exact ⟨k + 1, (O ++ (⟨#[47, 113, 47, 46, 46]⟩ : ByteArray)) ++ ((⟨#[47]⟩ : ByteArray) ++ X), by omega, by go_num, rfl, HO1, trivial⟩
                case measure => simp [intOf]; omega
              · have HO1 : Hid (str (slashed (preP F L (k + 1))) = (O ++ (⟨#[47, 113, 47, 46, 46]⟩ : ByteArray))) := by
                  show _ = _
                  rw [preP, HY.out, HFI.out, List.getElem?_eq_none (by rw [HLN.out]; omega), slashed_append, Option.toList_none, List.append_nil, ← str_append, HO.out]
                  rfl
                go_wp2
                all_goals first | (exfalso; omega; done) | skip
                go_roundw
                case rel => exact ⟨k + 1, (O ++ (⟨#[47, 113, 47, 46, 46]⟩ : ByteArray)), by omega, by go_num, rfl, HO1, trivial⟩
                case measure => simp [intOf]; omega
            · have HFI := Lib.hid hf
              have e1 : (((y : Nat) : Int) % 5 == 1) = false := beq_false_of_ne (by omega)
              have e2 : (((y : Nat) : Int) % 5 == 2) = false := beq_false_of_ne (by omega)
              have e3 : (((y : Nat) : Int) % 5 == 3) = false := beq_false_of_ne (by omega)
              have e4 : (((y : Nat) : Int) % 5 == 4) = true := beq_iff_eq.2 (by omega)
              have hos0 : ¬ 9223372036854775807 < O.size + 8 := by omega
              clear hf hr
              by_cases hlt : k < n
              · obtain ⟨x, hx⟩ : ∃ x, L[k]? = some x := ⟨_, List.getElem?_eq_getElem (by rw [HLN.out]; exact hlt)⟩
                obtain ⟨b, o, rfl, -, -⟩ := E2.out.parts.2.2.2.plain (by rw [strsV_len, HLN.out]; omega)
                have c0 := strs_at E2.out.parts.2.2.2 hx
                have hxl := (name_is (HT.out x (List.mem_of_getElem? hx))).2.2.2.2
                obtain ⟨X, hX⟩ : ∃ X, str x = X := ⟨_, rfl⟩
                have hXs : X.size ≤ 24 := by rw [← hX, str_size]; exact hxl
                rw [hX] at c0
                have HO1 : Hid (str (slashed (preP F L (k + 1))) = (O ++ (⟨#[47, 46, 47, 113, 47, 46, 46, 47]⟩ : ByteArray)) ++ ((⟨#[47]⟩ : ByteArray) ++ X)) := by
                  show _ = _
                  rw [preP, HY.out, HFI.out, hx, slashed_append, slashed_append, ← str_append, ← str_append, HO.out, Option.toList_some, show slashed [x] = [47] ++ x by simp [slashed], ← str_append, hX, ← ByteArray.append_assoc]
                  rfl
                clear hx hxl hX
                have hos1 : ¬ 9223372036854775807 < 1 + X.size := by omega
                have hos2 : ¬ 9223372036854775807 < O.size + 8 + (1 + X.size) := by omega
                have hos3 : ¬ 9223372036854775807 < O.size + (1 + X.size) := by omega
                go_wp2
                all_goals first | (exfalso; omega; done) | skip
                go_roundw
                case rel => exact ⟨k + 1, (O ++ (⟨#[47, 46, 47, 113, 47, 46, 46, 47]⟩ : ByteArray)) ++ ((⟨#[47]⟩ : ByteArray) ++ X), by omega, by go_num, rfl, HO1, trivial⟩
                case measure => simp [intOf]; omega
              · have HO1 : Hid (str (slashed (preP F L (k + 1))) = (O ++ (⟨#[47, 46, 47, 113, 47, 46, 46, 47]⟩ : ByteArray))) := by
                  show _ = _
                  rw [preP, HY.out, HFI.out, List.getElem?_eq_none (by rw [HLN.out]; omega), slashed_append, Option.toList_none, List.append_nil, ← str_append, HO.out]
                  rfl
                go_wp2
                all_goals first | (exfalso; omega; done) | skip
                go_roundw
                case rel => exact ⟨k + 1, (O ++ (⟨#[47, 46, 47, 113, 47, 46, 46, 47]⟩ : ByteArray)), by omega, by go_num, rfl, HO1, trivial⟩
                case measure => simp [intOf]; omega
        · obtain rfl : k = n + 1 := by omega
          have hkn' : ¬ ((n + 1 : Nat) : Int) ≤ (n : Int) := by omega
          by_cases hz : slashed (preP F L (n + 1)) = []
          · have HTP : Hid (parseP [47] = (L, 0)) := by
              have h := HPP.out
              rw [if_pos hz] at h
              exact h
            have hOt : O.toList = [] := by rw [← HO.out, str_toList, hz]
            clear hz
            go_wp2_with fail
            have h := HP.out.call R w2 (by have := HRL.out; omega) B2.out
            rw [HPR.out, HS.out] at h
            refine h.mono ?_
            clear h
            rintro e w3 ⟨v3, rfl, hE, hb⟩
            have B3 := Lib.hid (B2.out.trans (hb.mono B2.out.size))
            have E3 := Lib.hid (E2.out.up hb)
            have F3 := Lib.hid hE
            clear hE hb
            go_wp2_with fail
            have h := HP.out.call [47] w3 (by decide) B3.out
            rw [HTP.out] at h
            refine h.mono ?_
            clear h
            rintro e w4 ⟨v4, rfl, hE, hb⟩
            have B4 := Lib.hid (B3.out.trans (hb.mono B3.out.size))
            have E4 := Lib.hid (E3.out.up hb)
            have F4 := Lib.hid (F3.out.up hb)
            have G4 := Lib.hid hE
            clear hE hb
            go_wp2_with fail
            refine (rSameP F4.out G4.out (by have := HLL.out; omega) (by have := HLL.out; omega)).mono ?_
            rintro e w5 ⟨rfl, hb⟩
            have B5 := Lib.hid (B4.out.trans (hb.mono B4.out.size))
            have E5 := Lib.hid (E4.out.up hb)
            have F5 := Lib.hid (F4.out.up hb)
            rw [decide_eq_true (rfl : L = L)]
            clear hb
            go_wp2_with fail
            refine (rSameP F5.out E5.out (by have := HLL.out; omega) (by have := HLL.out; omega)).mono ?_
            rintro e w6 ⟨rfl, hb⟩
            have B6 := Lib.hid (B5.out.trans (hb.mono B5.out.size))
            rw [decide_eq_true (rfl : L = L)]
            clear hb
            go_wp2_with fail
            refine (HAW.out.call _ B6.out).mono ?_
            rintro e w7 ⟨rfl, hb⟩
            have B7 := Lib.hid (B6.out.trans (hb.mono B6.out.size))
            clear hb
            go_wp2
            go_ret
            exact ⟨rfl, B7.out⟩
          · have HTP : Hid (parseP (slashed (preP F L (n + 1))) = (L, 0)) := by
              have h := HPP.out
              rw [if_neg hz] at h
              exact h
            obtain ⟨Z, hZ⟩ : ∃ Z, slashed (preP F L (n + 1)) = Z := ⟨_, rfl⟩
            have hRt : O.toList = Z := by rw [← HO.out, str_toList, hZ]
            have hZe : Z.isEmpty = false := by
              rw [hZ] at hz
              cases Z with
              | nil => exact absurd rfl hz
              | cons x l => rfl
            clear hz hZ
            go_wp2_with fail
            have h := HP.out.call R w2 (by have := HRL.out; omega) B2.out
            rw [HPR.out, HS.out] at h
            refine h.mono ?_
            clear h
            rintro e w3 ⟨v3, rfl, hE, hb⟩
            have B3 := Lib.hid (B2.out.trans (hb.mono B2.out.size))
            have E3 := Lib.hid (E2.out.up hb)
            have F3 := Lib.hid hE
            clear hE hb
            go_wp2_with fail
            have h := HP.out.call (slashed (preP F L (n + 1))) w3 (by have := HPB.out (n + 1); omega) B3.out
            rw [HTP.out, HO.out] at h
            refine h.mono ?_
            clear h
            rintro e w4 ⟨v4, rfl, hE, hb⟩
            have B4 := Lib.hid (B3.out.trans (hb.mono B3.out.size))
            have E4 := Lib.hid (E3.out.up hb)
            have F4 := Lib.hid (F3.out.up hb)
            have G4 := Lib.hid hE
            clear hE hb
            go_wp2_with fail
            refine (rSameP F4.out G4.out (by have := HLL.out; omega) (by have := HLL.out; omega)).mono ?_
            rintro e w5 ⟨rfl, hb⟩
            have B5 := Lib.hid (B4.out.trans (hb.mono B4.out.size))
            have E5 := Lib.hid (E4.out.up hb)
            have F5 := Lib.hid (F4.out.up hb)
            rw [decide_eq_true (rfl : L = L)]
            clear hb
            go_wp2_with fail
            refine (rSameP F5.out E5.out (by have := HLL.out; omega) (by have := HLL.out; omega)).mono ?_
            rintro e w6 ⟨rfl, hb⟩
            have B6 := Lib.hid (B5.out.trans (hb.mono B5.out.size))
            rw [decide_eq_true (rfl : L = L)]
            clear hb
            go_wp2_with fail
            refine (HAW.out.call _ B6.out).mono ?_
            rintro e w7 ⟨rfl, hb⟩
            have B7 := Lib.hid (B6.out.trans (hb.mono B6.out.size))
            clear hb
            go_wp2
            go_ret
            exact ⟨rfl, B7.out⟩
    · have h4q : True := trivial
      have h4q2 : (4 : Int) < (n : Int) := by omega
      go_wp2_with fail
      refine (HAW.out.call _ B2.out).mono ?_
      rintro e w9 ⟨rfl, hb⟩
      have B9 := Lib.hid (B2.out.trans (hb.mono B2.out.size))
      clear hb
      go_wp2
      go_ret
      exact ⟨rfl, B9.out⟩
  · have hqn : (q == 0) = false := beq_false_of_ne h0
    have hqn2 : (q != 0) = true := by rw [bne, hqn]; rfl
    go_wp2_with fail
    refine (HAW.out.call _ B2.out).mono ?_
    rintro e w9 ⟨rfl, hb⟩
    have B9 := Lib.hid (B2.out.trans (hb.mono B2.out.size))
    clear hb
    go_wp2
    go_ret
    exact ⟨rfl, B9.out⟩
end Go.Proofs.Ytlenfocdhchphaa
