/-
  What bytes.Equal, inode.widths, inode.set do, one contract each.
-/
import Derived.Test.YtnipfonglheofaaDoorIno3
import Derived.Test.YtnipfonglheofaaDoorUnpack
import Derived.BigQuiet
import Derived.BigRegion
namespace Go.Proofs.YtnipfonglheofaaDoor
open Go.RowKit
set_option maxRecDepth 100000
set_option linter.unusedVariables false

theorem under_strI : Tryd.prog.underlying 9 = some .string := by kernel_rfl
theorem inoEqual_any (B B' : Nat) (A A' : Option Addr) (n n' c c' : Nat) (a b : List UInt8) (t : Bool) (w : World) (ha : a.length = n) (hb : b.length = n') (ra : Rd w B A (a.map bv)) (rb : Rd w B' A' (b.map bv)) (ht : (a == b) = t) :
    Calls Tryd.prog 25 #[.slice A n c, .slice A' n' c'] w fun e w' => e = .returned (.bool t) ∧ w = w' := by
  have h1 := run_conv (P := Tryd.prog) 38 5 9 Tryd.underlying38 Tryd.underlying5 under_strI n c ha ra
  have h2 := run_conv (P := Tryd.prog) 38 5 9 Tryd.underlying38 Tryd.underlying5 under_strI n' c' hb rb
  have HE : Hid (((str a).toList == (str b).toList) = t) := by rw [str_toList, str_toList]; exact ht
  clear ra rb ha hb ht
  go_enter Tryd.func25, Tryd.ntmps25
  go_wp2
  go_ret
  exact ⟨ret_bool HE.out, rfl⟩

theorem inoUnpack_new (B : Nat) (A A' : Option Addr) (n c n' c' : Nat) (bs : List UInt8) (ws : List Int) (vs : List Nat) (w : World) (hl : bs.length = n) (hl' : ws.length = n') (h0 : unpCode ws n = 0) (hvs : nums bs ws = vs) (hr : Rd w B A (bs.map bv)) (hr' : Rd w B A' (ws.map iv)) (hB : B ≤ w.heap.size) (hc : n ≤ c) (hcm : c ≤ maxLen) (hn : n' ≤ 4096) :
    Calls Tryd.prog 22 #[.slice A n c, .slice A' n' c'] w fun e w' => ∃ A' c', e = .returned (.tuple #[.slice A' n' c', .int .i64 0]) ∧ n' ≤ c' ∧ c' ≤ maxLen ∧ Rd w' w'.heap.size A' (vs.map uv) ∧ (∀ ad, A' = some ad → w.heap.size ≤ ad.block) ∧ Below w.heap.size w w' := by
  subst hl hl' hvs
  refine (Unpack_any B A A' c c' bs ws w hr hr' hB hc hcm hn).mono ?_
  rintro e w' ⟨r, rfl, hok, _, hb⟩
  have hown := hok h0
  obtain ⟨A', c', rfl, h1, h2⟩ := own_len hown
  refine ⟨A', c', by rw [h0], h1, h2, Rd.own hown, fun ad e => ?_, hb⟩
  subst e
  rcases hown.2 with ⟨hv, _⟩ | ⟨g, cap, cur, hv, hg, _⟩
  · cases hv
  · cases hv
    exact hg

theorem info_intI : (Tryd.prog.info? 3).map (fun i => (i.zero, i.size, i.bytes)) = some (some (.int .i64 0), 1, 8) := by kernel_rfl
theorem iv_one (l : List Int) : ∀ u ∈ l.map iv, u.oneCell' = true := by
  intro u hu
  obtain ⟨x, _, rfl⟩ := List.mem_map.1 hu
  rfl
theorem fours_succ (ws : List Int) (k : Nat) : ws ++ List.replicate (2 * (k + 1)) 4 = ws ++ List.replicate (2 * k) 4 ++ [4, 4] := by
  rw [List.append_assoc]
  congr 1
  rw [show 2 * (k + 1) = 2 * k + 1 + 1 from by omega, List.replicate_succ', List.replicate_succ', List.append_assoc]
  rfl
set_option maxHeartbeats 2000000 in
theorem inoWidths_any (n B : Nat) (A : Option Addr) (m c : Nat) (ws : List Int) (w : World) (hl : ws.length = m) (hn : n ≤ 100) (hm : m ≤ 100) (hr : Rd w B A (ws.map iv)) (hB : B ≤ w.heap.size) :
    Calls Tryd.prog 23 #[.int .i64 n, .slice A m c] w fun e w' => ∃ A' c', e = .returned (.slice A' (m + 2 * n) c') ∧ Rd w' w'.heap.size A' ((ws ++ List.replicate (2 * n) 4).map iv) ∧ Below w.heap.size w w' := by
  obtain ⟨i0, hi, hz0, hz1, hz2⟩ := info_parts info_intI
  have hi := Lib.hid hi
  have hz0 := Lib.hid hz0
  have hz1 := Lib.hid hz1
  have hz2 := Lib.hid hz2
  have HR := Lib.hid hr
  have HL := Lib.hid hl
  have HB0 := Lib.hid ((Below.refl w.heap.size w).alloc (Nat.le_refl _) (.cells #[] 3))
  have HOWN0 : Hid ((w.alloc (.cells #[] 3)).ownsRow w.heap.size 3 1 (.slice (some ⟨w.heap.size, 0, none⟩) 0 0) 0 []) := own_of_bk (xs := []) (Bk.new w 3 #[]) (Nat.le_refl _) rfl (Nat.zero_le _)
  clear hr hl
  go_enter Tryd.func23, Tryd.ntmps23
  go_wp2_with (at_builtin; refine wpList_append_rd _ rfl _ _ 26 rfl w.heap.size 3 i0 (.int .i64 0) 1 8 Tryd.underlying26 hi.out hz0.out hz1.out hz2.out rfl (by decide) _ _ _ rfl HOWN0.out B A m c (ws.map iv) rfl ?c1 (HR.out.below (HB0.out.mono hB)) ?c2 ?c3 ?c4 ?c5 ?_)
  case c1 => rw [List.length_map, HL.out, Nat.mul_one]
  case c2 => exact iv_one _
  case c3 => unfold maxLen; omega
  case c4 => omega
  case c5 => exact HB0.out.size
  intro r1 w1 hown1 hgrow1
  have HB1 := Lib.hid (HB0.out.grown hgrow1 HB0.out.size (fun g hg => (HOWN0.out.lt g hg).1))
  have HOWN1 : Hid (w1.ownsRow w.heap.size 3 1 r1 (m + 2 * 0) ((ws ++ List.replicate (2 * 0) 4).map iv)) := by
    simpa [Hid] using hown1
  clear hown1 hgrow1 HOWN0 HB0
  go_wp2
  go_loopw [5, 10] (fun r i wr => ∃ k : Nat, k ≤ n ∧ i = .int .i64 k ∧ Hid (wr.ownsRow w.heap.size 3 1 r (m + 2 * k) ((ws ++ List.replicate (2 * k) 4).map iv)) ∧ Hid (Below w.heap.size w wr)) (fun _ i _ => n - (intOf i).toNat)
  case atStart => exact ⟨0, Nat.zero_le _, rfl, HOWN1.out, HB1.out⟩
  case round =>
    obtain ⟨k, hk, rfl, HOWN, HB⟩ := hrel
    clear HOWN1 HB1
    obtain ⟨Ar, cr, hre, hcr, hcm⟩ := own_len HOWN.out
    subst hre
    by_cases hlt : k < n
    · have HN := Rd.new wr 3 #[.int .i64 4, .int .i64 4] (0, 0)
      have HOWN2 := Lib.hid (HOWN.out.alloc (.cells #[.int .i64 4, .int .i64 4] 3))
      have HB2 := Lib.hid (HB.out.alloc HB.out.size (.cells #[.int .i64 4, .int .i64 4] 3))
      have HN := Lib.hid HN
      go_wp2_with (at_builtin; refine wpList_append_rd _ rfl _ _ 26 rfl w.heap.size 3 i0 (.int .i64 0) 1 8 Tryd.underlying26 hi.out hz0.out hz1.out hz2.out rfl (by decide) _ _ _ rfl HOWN2.out (wr.heap.size + 1) (some ⟨wr.heap.size, 0, none⟩) 2 2 ([4, 4].map iv) rfl rfl HN.out ?c2 ?c3 ?c4 ?c5 ?_)
      case c2 => first | exact iv_one _ | rfl
      case c3 => unfold maxLen; omega
      case c4 => omega
      case c5 => have := HB.out.size; omega
      intro r' w6 hown6 hgrow
      have HB6 := Lib.hid (HB2.out.grown hgrow HB2.out.size (fun g hg => (HOWN2.out.lt g hg).1))
      have HOWN6 : Hid (w6.ownsRow w.heap.size 3 1 r' (m + 2 * (k + 1)) ((ws ++ List.replicate (2 * (k + 1)) 4).map iv)) := by
        rw [fours_succ, List.map_append, List.map_append, List.map_replicate, List.append_assoc]
        exact hown6
      clear hown6 hgrow HOWN2 HB2 HN HOWN HB
      go_wp2
      go_roundw
      case rel => exact ⟨k + 1, by omega, by go_num, HOWN6.out, HB6.out⟩
      case measure => simp [intOf]; omega
    · obtain rfl : k = n := by omega
      have HRD := Lib.hid (Rd.own HOWN.out)
      go_wp2
      go_ret
      exact ⟨Ar, cr, rfl, HRD.out, HB.out⟩

/-- only block g is another one -/
def Oth (g : Nat) (w w' : World) : Prop := Below g w w' ∧ (∀ h, h ≠ g → w'.heap[h]? = w.heap[h]?) ∧ w'.heap.size = w.heap.size
theorem Oth.refl (g : Nat) (w : World) : Oth g w w := ⟨Below.refl _ _, fun _ _ => rfl, rfl⟩
theorem Oth.bk {g h : Nat} {w w' : World} {t : TypeId} {cs : Array Value} (o : Oth g w w') (hk : Bk w h t cs) (hne : h ≠ g) : Bk w' h t cs := (o.2.1 h hne).trans hk
theorem Oth.cell {g : Nat} {w w' : World} (o : Oth g w w') {p : Addr} (hne : p.block ≠ g) : w'.cell? p = w.cell? p := by
  unfold World.cell?
  rw [o.2.1 _ hne]
theorem Oth.rd {g B : Nat} {w w' : World} {A : Option Addr} {vs : List Value} (o : Oth g w w') (h : Rd w B A vs) (hne : ∀ ad, A = some ad → ad.block ≠ g) : Rd w' B A vs := fun j u hu => by
  obtain ⟨ad, e, hb, hc⟩ := h j u hu
  exact ⟨ad, e, hb, (o.cell (by rw [block_add]; exact hne ad e)).trans hc⟩
theorem Oth.set2 {g : Nat} {w w' : World} (o : Oth g w w') (i j : Nat) (u v : Value) : Oth g w ((w'.setCell ⟨g, i, none⟩ u).setCell ⟨g, j, none⟩ v) :=
  ⟨(o.1.setCell (p := ⟨g, i, none⟩) (Nat.le_refl _) u).setCell (p := ⟨g, j, none⟩) (Nat.le_refl _) v,
    fun h hne => (Below.heap_setCell _ ⟨g, j, none⟩ v h hne).trans ((Below.heap_setCell _ ⟨g, i, none⟩ u h hne).trans (o.2.1 h hne)),
    by rw [World.setCell_size', World.setCell_size']; exact o.2.2⟩
theorem Oth.drew {g : Nat} {w w' : World} (o : Oth g w w') : Oth g w w'.drew := ⟨o.1.drew, o.2.1, o.2.2⟩

theorem prsC_of {cur : Array Value} {L : List Pr} {k : Nat} (hs : cur.size = 2 * k) (hl : L.length = k) (h : ∀ j, j < 2 * k → cur[j]? = (prsV L)[j]?) : cur = prsC L := by
  apply Array.ext_getElem?
  intro j
  rw [show (prsC L)[j]? = (prsV L)[j]? from by simp [prsC]]
  by_cases hj : j < 2 * k
  · exact h j hj
  · rw [Array.getElem?_eq_none (by omega), List.getElem?_eq_none (by rw [prsV_length]; omega)]
theorem next_cell {cur : Array Value} {L : List Pr} {k i : Nat} {q : Pr} (hs : cur.size = 2 * k) (hi : i < k) (hq : L[i]? = some q) (h : ∀ j, j < 2 * i → cur[j]? = (prsV L)[j]?) :
    ∀ j, j < 2 * (i + 1) → ((cur.setIfInBounds (i * 2) (.int .i64 q.at_)).setIfInBounds (i * 2 + 1) (.int .u32 (q.sum : Int)))[j]? = (prsV L)[j]? := by
  intro j hj
  obtain ⟨n0, n1⟩ := prsV_get L i q hq
  by_cases h1 : j = i * 2 + 1
  · subst h1
    rw [n1, Array.getElem?_setIfInBounds_self_of_lt (by simp; omega)]
  · rw [Array.getElem?_setIfInBounds_ne (by omega)]
    by_cases h0 : j = i * 2
    · subst h0
      rw [n0, Array.getElem?_setIfInBounds_self_of_lt (by omega)]
    · rw [Array.getElem?_setIfInBounds_ne (by omega)]
      exact h j (by omega)

set_option maxHeartbeats 4000000 in
theorem inoSet_any (g : Nat) (t : TypeId) (cs : Array Value) (k B : Nat) (A : Option Addr) (c : Nat) (L : List Pr) (w : World) (hl : L.length = k) (hk : k ≤ 100) (hbk : Bk w g t cs) (hs : cs.size = 2 * k) (hr : Rd w B A ((prsN L).map uv)) (hne : ∀ ad, A = some ad → ad.block ≠ g) (hw : ∀ q ∈ L, prW q) :
    Calls Tryd.prog 24 #[.slice (some ⟨g, 0, none⟩) k k, .slice A (2 * k) c] w fun e w' => e = .returned (.tuple #[]) ∧ Bk w' g t (prsC L) ∧ Oth g w w' := by
  have HL := Lib.hid hl
  have HR := Lib.hid hr
  have HNE := Lib.hid hne
  have HW := Lib.hid hw
  have HK := Lib.hid hbk
  have HS := Lib.hid hs
  clear hl hr hne hw hbk hs
  go_enter Tryd.func24, Tryd.ntmps24
  go_wp2
  go_loopw [7] (fun v wr => ∃ (i : Nat) (cur : Array Value), i ≤ k ∧ v = .int .i64 i ∧ Hid (Bk wr g t cur) ∧ Hid (cur.size = 2 * k) ∧ Hid (∀ j, j < 2 * i → cur[j]? = (prsV L)[j]?) ∧ Hid (Oth g w wr)) (fun v _ => k - (intOf v).toNat)
  case atStart => exact ⟨0, cs, Nat.zero_le _, rfl, HK.out, HS.out, fun j h => absurd h (by omega), Oth.refl _ _⟩
  case round =>
    obtain ⟨i, cur, hi, rfl, HKC, HSC, HJ, HO⟩ := hrel
    clear HK HS
    by_cases hlt : i < k
    · obtain ⟨q, hq⟩ : ∃ q, L[i]? = some q := ⟨_, List.getElem?_eq_getElem (by have := HL.out; omega)⟩
      obtain ⟨b, o, rfl, hbB, -⟩ := HR.out.plain (by rw [List.length_map, prsN_length]; have := HL.out; omega)
      have hbg : b ≠ g := HNE.out _ rfl
      have hrw := HO.out.rd HR.out (fun ad e => HNE.out ad e)
      obtain ⟨n0, n1⟩ := prsN_get L i q hq
      obtain ⟨u1, u2, u3⟩ := HW.out q (List.mem_of_getElem? hq)
      have HQ := Lib.hid hq
      obtain ⟨x, s⟩ := q
      obtain ⟨u, rfl⟩ := Int.eq_ofNat_of_zero_le u1
      simp only [Int.toNat_natCast] at n0 n1 u2 u3
      have c0 : wr.cell? ⟨b, o + 2 * i, none⟩ = some (.int .u64 (u : Int)) := by
        obtain ⟨ad, e, _, hc⟩ := hrw (2 * i) (uv u) (by rw [List.getElem?_map, n0]; rfl)
        cases e; rwa [add_plain] at hc
      have c1 : wr.cell? ⟨b, o + (2 * i + 1), none⟩ = some (.int .u64 (s : Int)) := by
        obtain ⟨ad, e, _, hc⟩ := hrw (2 * i + 1) (uv s) (by rw [List.getElem?_map, n1]; rfl)
        cases e; rwa [add_plain] at hc
      have hf0 := HKC.out.free (i * 2)
      have hf1 := HKC.out.free (i * 2 + 1)
      obtain ⟨z0, hz0⟩ : ∃ z, cur[i * 2]? = some z := ⟨_, Array.getElem?_eq_getElem (by have := HSC.out; omega)⟩
      obtain ⟨z1, hz1⟩ : ∃ z, cur[i * 2 + 1]? = some z := ⟨_, Array.getElem?_eq_getElem (by have := HSC.out; omega)⟩
      have k0 := (HKC.out.cell (i * 2)).trans hz0
      have k1 := (HKC.out.cell (i * 2 + 1)).trans hz1
      have hne1 : (⟨g, i * 2, none⟩ : Addr) ≠ ⟨g, i * 2 + 1, none⟩ := by simp
      have k1' : (wr.setCell ⟨g, i * 2, none⟩ (.int .i64 (u : Int))).cell? ⟨g, i * 2 + 1, none⟩ = some z1 := by rw [World.cell?_setCell_other _ _ _ _ hne1]; exact k1
      have hf1' : (wr.setCell ⟨g, i * 2, none⟩ (.int .i64 (u : Int))).frozen? ⟨g, i * 2 + 1, none⟩ = false := (HKC.out.set_ (i * 2) (.int .i64 (u : Int))).free _
      clear hrw n0 n1 hq hz0 hz1 u1 hne1
      go_wp2_with fail
      go_region
      have HO2 := Lib.hid (HO.out.set2 (i * 2) (i * 2 + 1) (.int .i64 (u : Int)) (.int .u32 (s : Int))).drew
      have HK2 := Lib.hid (((HKC.out.set_ (i * 2) (.int .i64 (u : Int))).set_ (i * 2 + 1) (.int .u32 (s : Int))).drew)
      have HJ2 := Lib.hid (next_cell HSC.out hlt HQ.out HJ.out)
      have HS2 : Hid (((cur.setIfInBounds (i * 2) (.int .i64 (u : Int))).setIfInBounds (i * 2 + 1) (.int .u32 (s : Int))).size = 2 * k) := by
        show _ = _
        rw [Array.size_setIfInBounds, Array.size_setIfInBounds]; exact HSC.out
      obtain ⟨w8, hw8⟩ : ∃ w8, ((wr.setCell ⟨g, i * 2, none⟩ (.int .i64 (u : Int))).setCell ⟨g, i * 2 + 1, none⟩ (.int .u32 (s : Int))).drew = w8 := ⟨_, rfl⟩
      rw [hw8] at HO2 HK2 ⊢
      clear hw8 c0 c1 hf0 hf1 k0 k1 k1' hf1'
      go_wp2
      go_roundw
      case rel => exact ⟨i + 1, _, by omega, by go_num, HK2.out, HS2.out, HJ2.out, HO2.out⟩
      case measure => simp [intOf]; omega
    · obtain rfl : i = k := by omega
      have HE : Hid (cur = prsC L) := prsC_of HSC.out HL.out HJ.out
      go_wp2
      refine bodyPost_end (results_none rfl _ _ _) rfl ?_
      exact ⟨rfl, by rw [← HE.out]; exact HKC.out, HO.out⟩
end Go.Proofs.YtnipfonglheofaaDoor
