/-
  Fit and Fold.
-/
import Derived.Test.YtopjajfkncnihaaTitP4
import Derived.Laws.IdiomStrings
namespace Go.Proofs.Ytopjajfkncnihaa
open Go.RowKit
set_option maxRecDepth 100000
set_option linter.unusedVariables false

set_option maxHeartbeats 1000000 in
theorem fit_any (l : List UInt8) (w : World) (hl : l.length ≤ 90000) :
    Calls Try.prog 22 #[.string (str l)] w fun e w' => e = .returned (.string (str (fitT l))) ∧ Below w.heap.size w w' := by
  have HC := Lib.hid (kept_any l w (by omega))
  have hcl : (cutT l).length ≤ 24 := (cutT_is l).2.2
  have HI := Lib.hid fun w' => is_any (cutT l) w' (by omega)
  have HC2 := Lib.hid fun w' => kept_any (120 :: cutT l) w' (by simp; omega)
  have hx : (⟨#[120]⟩ : ByteArray) ++ str (cutT l) = str (120 :: cutT l) := str_append [120] (cutT l)
  have hsz := str_size (cutT l)
  obtain ⟨F, hF⟩ : ∃ F, fitT l = F := ⟨_, rfl⟩
  have HF : Hid ((if isT (cutT l) = true then cutT l else cutT (120 :: cutT l)) = F) := hF
  rw [hF]
  obtain ⟨t, ht⟩ : ∃ t, isT (cutT l) = t := ⟨_, rfl⟩
  rw [ht] at HI HF
  obtain ⟨s, hs⟩ : ∃ s, str l = s := ⟨_, rfl⟩
  rw [hs] at HC ⊢
  obtain ⟨c, hc⟩ : ∃ c, cutT l = c := ⟨_, rfl⟩
  rw [hc] at HC HC2 HF HI hx hsz hcl
  obtain ⟨u, hu⟩ : ∃ u, str c = u := ⟨_, rfl⟩
  rw [hu] at HC HI hx hsz
  have HU := Lib.hid hu
  obtain ⟨v, hv⟩ : ∃ v, str (120 :: c) = v := ⟨_, rfl⟩
  rw [hv] at HC2 hx
  have hz24 : u.size ≤ 24 := by omega
  clear hF ht hs hc hu hv hsz
  go_enter Try.func22, Try.ntmps22
  go_wp2_with fail
  refine HC.out.mono ?_
  rintro e w1 ⟨rfl, hb1⟩
  have HB1 := Lib.hid hb1
  clear hb1
  go_wp2_with fail
  refine (HI.out _).mono ?_
  rintro e w2 ⟨rfl, hb2⟩
  have HB2 := Lib.hid (HB1.out.trans (hb2.mono HB1.out.size))
  clear hb2
  cases t with
  | true =>
    rw [if_pos rfl] at HF
    go_wp2
    go_ret
    exact ⟨ret_str (by rw [← HU.out, HF.out]), HB2.out⟩
  | false =>
    rw [if_neg (by decide)] at HF
    go_wp2_with fail
    all_goals first | (exfalso; omega; done) | skip
    refine (HC2.out _).mono ?_
    rintro e w3 ⟨rfl, hb3⟩
    have HB3 := Lib.hid (HB2.out.trans (hb3.mono HB2.out.size))
    clear hb3
    go_wp2
    go_ret
    exact ⟨ret_str (by rw [HF.out]), HB3.out⟩

/-- a block that begins with these octets, none of them frozen -/
def Rw (w : World) (g : Nat) (bs : List UInt8) (Z : List Value) : Prop := ∃ f : Nat × Nat, w.heap[g]? = some (.cells (bs.map bv ++ Z).toArray 5 f) ∧ (bs.map bv ++ Z).length ≤ f.1
theorem conv_row (w : World) (l : List UInt8) (n : Nat) (hn : l.length = n) :
    ∃ c w' Z, (convert 9 41 (.string (str l))).run Try.prog w = .ok (.slice (some ⟨w.heap.size, 0, none⟩) n c) w' ∧ Below w.heap.size w w' ∧ Rw w' w.heap.size l Z := by
  subst hn
  refine ⟨_, _, List.replicate (grownCap w (str l).size 0 5 - (str l).size) (Value.int .u8 0), by rw [run_bytes_of_string w 9 41 5 (str l) Try.underlying9 Try.underlying41 Try.underlying5, str_size], ((Below.refl _ _).drew).alloc (Nat.le_refl _) _, ?_⟩
  have e1 : bytesRow (str l) (grownCap w (str l).size 0 5) = (l.map bv ++ List.replicate (grownCap w (str l).size 0 5 - (str l).size) (Value.int .u8 0)).toArray := by
    simp [bytesRow, str, bv]
  rw [str_size] at e1
  rw [str_size, e1]
  refine ⟨_, heap_alloc_new w.drew _, ?_⟩
  simp
section
variable {w w' : World} {g k : Nat} {bs : List UInt8} {Z : List Value} {c : UInt8}
theorem Rw.cell (h : Rw w g bs Z) (hk : bs[k]? = some c) : w.cell? ⟨g, k, none⟩ = some (.int .u8 (c.toNat : Int)) := by
  obtain ⟨f, hf, _⟩ := h
  have hlt : k < bs.length := (List.getElem?_eq_some_iff.1 hk).1
  rw [cell_of_row w g k _ _ _ hf, List.getElem?_toArray, List.getElem?_append_left (by simpa using hlt), List.getElem?_map, hk]; rfl
theorem Rw.free (h : Rw w g bs Z) (hk : k < bs.length) : w.frozen? ⟨g, k, none⟩ = false := by
  obtain ⟨f, hf, hl⟩ := h
  have : ¬ f.1 ≤ k := by simp at hl; omega
  simp [World.frozen?, hf, this]
theorem Rw.set_ (h : Rw w g bs Z) (hk : k < bs.length) (c : UInt8) : Rw (w.setCell ⟨g, k, none⟩ (.int .u8 (c.toNat : Int))) g (bs.set k c) Z := by
  obtain ⟨f, hf, hl⟩ := h
  refine ⟨f, ?_, by simpa using hl⟩
  have e : ((bs.set k c).map bv ++ Z).toArray = (bs.map bv ++ Z).toArray.setIfInBounds k (.int .u8 (c.toNat : Int)) := by
    rw [List.setIfInBounds_toArray, List.set_append_left _ _ (by simpa using hk), List.map_set]; rfl
  rw [e]
  simp [World.setCell, Array.getElem?_modify, hf]
theorem Rw.rd (h : Rw w g bs Z) : Rd w w.heap.size (some ⟨g, 0, none⟩) (bs.map bv) := by
  obtain ⟨f, hf, _⟩ := h
  have := (Rd.row hf).take (bs.map bv).length
  rwa [List.toList_toArray, List.take_left] at this
end
theorem fold_step {l : List UInt8} {k : Nat} {c : UInt8} (h : l[k]? = some c) : (foldT (l.take k) ++ l.drop k)[k]? = some c ∧ k < (foldT (l.take k) ++ l.drop k).length ∧
    (foldT (l.take k) ++ l.drop k).set k (foldO c) = foldT (l.take (k + 1)) ++ l.drop (k + 1) := by
  have hk : k < l.length := (List.getElem?_eq_some_iff.1 h).1
  have hm : (foldT (l.take k)).length = k := by rw [foldT_len, List.length_take]; omega
  have hd : l.drop k = c :: l.drop (k + 1) := by rw [List.drop_eq_getElem_cons hk]; rw [List.getElem?_eq_getElem hk] at h; injection h with h; rw [h]
  refine ⟨?_, ?_, ?_⟩
  · rw [List.getElem?_append_right (by omega), hm, Nat.sub_self, hd]; rfl
  · rw [List.length_append, hm, List.length_drop]; omega
  · rw [List.set_append_right _ _ (by omega), hm, Nat.sub_self, hd, List.set_cons_zero, List.take_add_one, h]
    simp [foldT]
set_option maxHeartbeats 2000000 in
theorem fold_any (l : List UInt8) (w : World) (hl : l.length ≤ 100000) :
    Calls Try.prog 20 #[.string (str l)] w fun e w' => e = .returned (.string (str (foldT l))) ∧ Below w.heap.size w w' := by
  obtain ⟨n, hn⟩ : ∃ n, l.length = n := ⟨_, rfl⟩
  obtain ⟨c, w0, Z, hcv, hb0, hr0⟩ := conv_row w l n hn
  obtain ⟨g, hg⟩ : ∃ g, w.heap.size = g := ⟨_, rfl⟩
  rw [hg] at hcv hb0 hr0 ⊢
  have HB0 := Lib.hid hb0
  have HR0 := Lib.hid hr0
  have HN := Lib.hid hn
  rw [hn] at hl
  obtain ⟨s, hs⟩ : ∃ s, str l = s := ⟨_, rfl⟩
  rw [hs] at hcv ⊢
  clear hb0 hr0 hn hg hs
  go_enter Try.func20, Try.ntmps20
  go_wp2
  go_loopw [10] (fun i wr => ∃ k : Nat, k ≤ n ∧ i = .int .i64 (k : Int) ∧ Hid (Rw wr g (foldT (l.take k) ++ l.drop k) Z) ∧ Hid (Below g w wr)) (fun i _ => n - (intOf i).toNat)
  case atStart => exact ⟨0, Nat.zero_le _, rfl, HR0, HB0⟩
  case round =>
    obtain ⟨k, hk, rfl, HR, HB⟩ := hrel
    by_cases hlt : k < n
    · obtain ⟨x, hx⟩ : ∃ x, l[k]? = some x := ⟨_, List.getElem?_eq_getElem (by rw [HN.out]; exact hlt)⟩
      obtain ⟨e1, e2, e3⟩ := fold_step hx
      have c0 := HR.out.cell e1
      have f0 := HR.out.free e2
      have HS := Lib.hid (HR.out.set_ e2 (foldO x))
      rw [e3] at HS
      have HL := Lib.hid (HB.out.setCell (p := ⟨g, k, none⟩) (Nat.le_refl _) (.int .u8 ((foldO x).toNat : Int)))
      have hfn := foldO_nat x
      have hx256 := x.toNat_lt
      by_cases hq : 65 ≤ x.toNat ∧ x.toNat ≤ 90
      · rw [if_pos hq] at hfn
        obtain ⟨a, ha⟩ : ∃ a, x.toNat = a := ⟨_, rfl⟩
        rw [ha] at hfn hq c0
        rw [show ((foldO x).toNat : Int) = (a : Int) - 65 + 97 by omega] at HS HL
        have q1 : (65 : Int) ≤ (a : Int) := by omega
        have q2 : (a : Int) ≤ 90 := by omega
        clear hx e1 e2 e3 hfn hx256 hq ha
        go_wp2
        go_roundw
        case rel => exact ⟨k + 1, by omega, by go_num, HS, HL⟩
        case measure => simp [intOf]; omega
      · have HE : Hid (Rw wr g (foldT (l.take (k + 1)) ++ l.drop (k + 1)) Z) := by
          show Rw _ _ _ _
          have hfo : foldO x = x := by unfold foldO; rw [if_neg hq]
          rw [← e3, hfo]
          have : (foldT (l.take k) ++ l.drop k).set k x = foldT (l.take k) ++ l.drop k := by
            obtain ⟨h1, h2⟩ := List.getElem?_eq_some_iff.1 e1
            rw [← h2, List.set_getElem_self]
          rw [this]
          exact HR.out
        obtain ⟨a, ha⟩ : ∃ a, x.toNat = a := ⟨_, rfl⟩
        rw [ha] at hq c0 hx256
        rcases (show (a : Int) < 65 ∨ (65 ≤ (a : Int) ∧ ¬ (a : Int) ≤ 90) by omega) with g1 | ⟨g1, g2⟩
        · have g1' : ¬ (65 : Int) ≤ (a : Int) := by omega
          clear hx e1 e2 e3 hfn hq ha HS HL
          go_wp2
          go_roundw
          case rel => exact ⟨k + 1, by omega, by go_num, HE, HB⟩
          case measure => simp [intOf]; omega
        · clear hx e1 e2 e3 hfn hq ha HS HL
          go_wp2
          go_roundw
          case rel => exact ⟨k + 1, by omega, by go_num, HE, HB⟩
          case measure => simp [intOf]; omega
    · obtain rfl : k = n := by omega
      have hE : foldT (l.take k) ++ l.drop k = foldT l := by rw [List.take_of_length_le (by rw [HN.out]; exact Nat.le_refl _), List.drop_eq_nil_of_le (by rw [HN.out]; exact Nat.le_refl _), List.append_nil]
      rw [hE] at HR
      have hcv2 : (convert 41 9 (.slice (some ⟨g, 0, none⟩) k c)).run Try.prog wr = .ok (.string (str (foldT l))) wr :=
        run_conv 41 5 9 Try.underlying41 Try.underlying5 Try.underlying9 k c (by rw [foldT_len]; exact HN.out) HR.out.rd
      clear hE
      go_wp2
      go_ret
      exact ⟨rfl, HB.out⟩
end Go.Proofs.Ytopjajfkncnihaa
