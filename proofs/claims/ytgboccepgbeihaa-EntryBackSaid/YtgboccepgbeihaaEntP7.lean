/-
  What the landed entry's Encode answers. (Printed by wip/tools/entp7.py.)
-/
import Derived.Test.YtgboccepgbeihaaEntP3
import Derived.Test.YtgboccepgbeihaaEntC
import Derived.Test.YtgboccepgbeihaaPack2
import Derived.Test.YtgboccepgbeihaaRegTail
import Derived.Lib.AppendStr
namespace Go.Proofs.Ytgboccepgbeihaa
open Go.RowKit
set_option maxRecDepth 100000
set_option linter.unusedVariables false

theorem num_cells2 {w : World} {g : Nat} {t : TypeId} {u v : Value} (h : Bk w g t #[u, v]) : w.cell? ⟨g, 0, none⟩ = some u ∧ w.cell? ⟨g, 1, none⟩ = some v ∧ w.frozen? ⟨g, 0, none⟩ = false ∧ w.frozen? ⟨g, 1, none⟩ = false := ⟨h.cell 0, h.cell 1, h.free 0, h.free 1⟩
theorem num_puts2 {w : World} {g : Nat} {t : TypeId} {x y : Value} (h : Bk w g t #[x, y]) (u v : Value) : (w.setCell ⟨g, 0, none⟩ u).cell? ⟨g, 0, none⟩ = some u ∧ ((w.setCell ⟨g, 0, none⟩ u).setCell ⟨g, 1, none⟩ v).cell? ⟨g, 0, none⟩ = some u ∧ ((w.setCell ⟨g, 0, none⟩ u).setCell ⟨g, 1, none⟩ v).cell? ⟨g, 1, none⟩ = some v
    ∧ Bk ((w.setCell ⟨g, 0, none⟩ u).setCell ⟨g, 1, none⟩ v) g t #[u, v] :=
  ⟨(h.set_ 0 u).cell 0, ((h.set_ 0 u).set_ 1 v).cell 0, ((h.set_ 0 u).set_ 1 v).cell 1, (h.set_ 0 u).set_ 1 v⟩
theorem eNumber_any (n v : Int) (w : World) (h0 : 0 ≤ v) (h1 : v ≤ 9223372036854775807) :
    Calls Try.prog 31 #[.int .i64 n, .int .i64 v] w fun e w' => e = .returned (.agg #[.int .i64 n, .int .u64 v]) ∧ Below w.heap.size w w' := by
  have K0 := Bk.new w 60 #[.int .i64 0, .int .u64 0]
  obtain ⟨k0, k1, f0, f1⟩ := num_cells2 K0
  obtain ⟨p0, p1, p2, _⟩ := num_puts2 K0 (.int .i64 n) (.int .u64 v)
  go_enter Try.func31, Try.ntmps31
  go_wp2
  refine bodyPost_ret (v := .agg #[.int .i64 n, .int .u64 v]) (by simp [results, Try.results31, go_sem]) rfl ⟨rfl, ?_⟩
  exact (Below.refl _ _).alloc (Nat.le_refl _) _
theorem be_one (v : Nat) : be 1 v = [UInt8.ofNat v] := by
  show [UInt8.ofNat (v / 256 ^ 0)] = _
  rw [Nat.pow_zero, Nat.div_one]
/-- the three octets ahead of a name -/
def head3 (I Y z : Nat) : List UInt8 := [UInt8.ofNat I, UInt8.ofNat Y, UInt8.ofNat z]
theorem head3_recs {I Y z : Nat} (h1 : I < 256) (h2 : Y < 256) (h3 : z < 256) : recs [(1, I), (1, Y), (1, z)] = head3 I Y z ∧ codeL [(1, I), (1, Y), (1, z)] = 0 := by
  constructor
  · show be 1 I ++ (be 1 Y ++ (be 1 z ++ [])) = _
    rw [be_one, be_one, be_one]; rfl
  · rw [codeL_zero]
    intro p hp
    rw [okN_iff]
    simp only [List.mem_cons, List.not_mem_nil, or_false] at hp
    rcases hp with rfl | rfl | rfl <;> simp <;> omega
theorem strCells_str (l : List UInt8) : Lib.strCells (str l) = l.map bv := rfl

def slotEK (i : Nat) : Nat := if i = 12 then 18 else if i = 13 then 31 else if i = 14 then 32 else if i = 15 then 7 else 19 + i
def waitEK : Nat → List Nat
  | 1 => [0]
  | 2 => [1]
  | 4 => [3]
  | 5 => [4]
  | 7 => [6]
  | 8 => [7]
  | 9 => [8]
  | 10 => [2, 5, 9]
  | 11 => [10]
  | 12 => [11]
  | 13 => [12]
  | 14 => [12]
  | 15 => [13]
  | 16 => [14, 15]
  | _ => []
def leaveEK (g I Y z : Nat) (X : ByteArray) : Nat → Value → World → Prop
  | 0, v, _ => v = .pointer (some ⟨g, 1, none⟩)
  | 1, v, _ => v = .int .i64 (I : Int)
  | 2, v, _ => v = .agg #[.int .i64 1, .int .u64 (I : Int)]
  | 3, v, _ => v = .pointer (some ⟨g, 2, none⟩)
  | 4, v, _ => v = .int .i64 (Y : Int)
  | 5, v, _ => v = .agg #[.int .i64 1, .int .u64 (Y : Int)]
  | 6, v, _ => v = .pointer (some ⟨g, 0, none⟩)
  | 7, v, _ => v = .string X
  | 8, v, _ => v = .int .i64 (z : Int)
  | 9, v, _ => v = .agg #[.int .i64 1, .int .u64 (z : Int)]
  | 10, v, w => ∃ g', v = .slice (some ⟨g', 0, none⟩) 3 3 ∧ Bk w g' 60 #[.int .i64 1, .int .u64 (I : Int), .int .i64 1, .int .u64 (Y : Int), .int .i64 1, .int .u64 (z : Int)]
  | 11, v, w => ∃ A' c', v = .tuple #[.slice A' 3 c', .int .i64 0] ∧ 3 ≤ c' ∧ c' ≤ maxLen ∧ Rd w w.heap.size A' ((head3 I Y z).map bv)
  | 12, v, w => ∃ A' c', v = .tuple #[.slice A' 3 c', .int .i64 0] ∧ 3 ≤ c' ∧ c' ≤ maxLen ∧ Rd w w.heap.size A' ((head3 I Y z).map bv)
  | 13, v, w => ∃ A' c', v = .slice A' 3 c' ∧ 3 ≤ c' ∧ c' ≤ maxLen ∧ Rd w w.heap.size A' ((head3 I Y z).map bv)
  | 14, v, _ => v = .int .i64 0
  | 15, v, w => ∃ A' c', v = .slice A' 3 c' ∧ 3 ≤ c' ∧ c' ≤ maxLen ∧ Rd w w.heap.size A' ((head3 I Y z).map bv)
  | _, _, _ => True
theorem encE_take {l : List Et} {k : Nat} {x : Et} (hx : l[k]? = some x) : encE (l.take (k + 1)) = encE (l.take k) ++ ent1 x := by
  rw [List.take_add_one, hx]; simp [encE]
set_option maxHeartbeats 8000000 in
theorem eEncode_any (B : Nat) (A : Option Addr) (n c : Nat) (l : List Et) (w : World) (hl : l.length = n) (hn : n ≤ 1000000) (hr : Rd w B A (etsV l)) (hB : B ≤ w.heap.size) (hs : ∀ x ∈ l, x.name.length ≤ 100000) :
    Calls Try.prog 13 #[.slice A n c] w fun e w' => ∃ v, e = .returned (.tuple #[v, .int .i64 (if mayE l then 0 else 1)]) ∧ BytW w' (if mayE l then encE l else []) v ∧ Below w.heap.size w w' := by
  obtain ⟨i0, hi, hz0, hz1, hz2⟩ := info_parts info_u8
  have hi := Lib.hid hi
  have hz0 := Lib.hid hz0
  have hz1 := Lib.hid hz1
  have hz2 := Lib.hid hz2
  have HL := Lib.hid hl
  have HR0 := Lib.hid hr
  have HM := Lib.hid (may_any B A n c l w hl hn hr hB hs)
  obtain ⟨m, hm⟩ : ∃ m, mayE l = m := ⟨_, rfl⟩
  have HMM := Lib.hid hm
  rw [hm] at HM ⊢
  clear hl hr hs hm
  go_enter Try.func13, Try.ntmps13
  go_wp2_with fail
  refine HM.out.mono ?_
  rintro e w1 ⟨rfl, hb⟩
  have HB1 := Lib.hid hb
  clear hb HM
  cases m with
  | false =>
    go_wp2
    go_ret2
    exact ⟨_, rfl, ⟨none, 0, 0, rfl, rfl, Nat.le_refl _, by simp, Rd.nil_⟩, HB1.out⟩
  | true =>
    obtain ⟨hok, -, hle⟩ := (mayE_iff l).1 HMM.out
    have HOK := Lib.hid hok
    have HNM : Hid (∀ x ∈ l, x.name.length ≤ 24) := fun x hx => (isT_len (ok_name (hok x hx)).1).2
    have hn30 : n ≤ 30 := by rw [← HL.out]; exact hle
    clear hok hle
    go_wp2
    go_loopw [4, 14] (fun r i wr => ∃ k m : Nat, k ≤ n ∧ i = .int .i64 (k : Int) ∧ m ≤ 27 * k ∧ Hid (wr.ownsRow w.heap.size 5 1 r m ((encE (l.take k)).map bv)) ∧ Hid (Below w.heap.size w wr)) (fun _ i _ => n - (intOf i).toNat)
    case atStart => exact ⟨0, 0, Nat.zero_le _, rfl, Nat.le_refl _, ⟨rfl, .inl ⟨rfl, rfl⟩⟩, HB1.out⟩
    case round =>
      obtain ⟨k, m, hk, rfl, hmk, HOWN, HBB⟩ := hrel
      obtain ⟨Ar, cr, hre, hcr, hcm⟩ := own_len HOWN.out
      subst hre
      by_cases hlt : k < n
      · obtain ⟨x, hx⟩ : ∃ x, l[k]? = some x := ⟨_, List.getElem?_eq_getElem (by rw [HL.out]; exact hlt)⟩
        obtain ⟨b, o, rfl, -, -⟩ := HR0.out.plain (by rw [etsV_length, HL.out]; omega)
        obtain ⟨c0, c1, c2⟩ := ets_at (HR0.out.below (HBB.out.mono hB)) hx
        have hmem := List.mem_of_getElem? hx
        have hxr := (right_iff x).1 (ok_name (HOK.out x hmem)).2
        have hxl := HNM.out x hmem
        obtain ⟨I, hI⟩ : ∃ I : Nat, x.ino = (I : Int) := ⟨x.ino.toNat, by omega⟩
        obtain ⟨Y, hY⟩ : ∃ Y : Nat, x.ty = (Y : Int) := ⟨x.ty.toNat, by omega⟩
        obtain ⟨z, hz⟩ : ∃ z, x.name.length = z := ⟨_, rfl⟩
        have hent : ent1 x = head3 I Y z ++ x.name := by
          unfold ent1 head3
          rw [hI, hY, hz]; simp
        have HE : Hid ((encE (l.take (k + 1))).map bv = ((encE (l.take k)).map bv ++ (head3 I Y z).map bv) ++ x.name.map bv) := by
          show _ = _
          rw [encE_take hx, hent]; simp
        have HZS : Hid ((str x.name).size = z) := by show _ = _; rw [str_size, hz]
        have HSC : Hid (Lib.strCells (str x.name) = x.name.map bv) := strCells_str _
        rw [hI] at c1
        rw [hY] at c2
        have hI39 : I ≤ 39 := by omega
        have hY2 : Y ≤ 2 := by omega
        have hz24 : z ≤ 24 := by omega
        obtain ⟨NB, hNB⟩ : ∃ NB, x.name.map bv = NB := ⟨_, rfl⟩
        obtain ⟨X, hX⟩ : ∃ X, str x.name = X := ⟨_, rfl⟩
        rw [hX] at c0 HZS HSC
        rw [hNB] at HE HSC
        have HN1 : Hid (∀ w', Calls Try.prog 31 #[.int .i64 1, .int .i64 (I : Int)] w' fun e w'' => e = .returned (.agg #[.int .i64 1, .int .u64 (I : Int)]) ∧ Below w'.heap.size w' w'') := fun w' => eNumber_any _ _ _ (by omega) (by omega)
        have HN2 : Hid (∀ w', Calls Try.prog 31 #[.int .i64 1, .int .i64 (Y : Int)] w' fun e w'' => e = .returned (.agg #[.int .i64 1, .int .u64 (Y : Int)]) ∧ Below w'.heap.size w' w'') := fun w' => eNumber_any _ _ _ (by omega) (by omega)
        have HN3 : Hid (∀ w', Calls Try.prog 31 #[.int .i64 1, .int .i64 (z : Int)] w' fun e w'' => e = .returned (.agg #[.int .i64 1, .int .u64 (z : Int)]) ∧ Below w'.heap.size w' w'') := fun w' => eNumber_any _ _ _ (by omega) (by omega)
        have hK0 : Bk (wr.alloc (.cells #[.string X, .int .i64 (I : Int), .int .i64 (Y : Int)] 38)) wr.heap.size 38 #[.string X, .int .i64 (I : Int), .int .i64 (Y : Int)] := Bk.new wr _ _
        have HX : Hid (∀ w', Below (wr.alloc (.cells #[.string X, .int .i64 (I : Int), .int .i64 (Y : Int)] 38)).heap.size (wr.alloc (.cells #[.string X, .int .i64 (I : Int), .int .i64 (Y : Int)] 38)) w' → Bk w' wr.heap.size 38 #[.string X, .int .i64 (I : Int), .int .i64 (Y : Int)]) := fun w' hb => hK0.below hb hK0.lt
        have HB0 := Lib.hid (HBB.out.alloc HBB.out.size (.cells #[.string X, .int .i64 (I : Int), .int .i64 (Y : Int)] 38))
        have HO0 := Lib.hid (HOWN.out.alloc (.cells #[.string X, .int .i64 (I : Int), .int .i64 (Y : Int)] 38))
        have HVS : Hid (∀ p ∈ ([(1, I), (1, Y), (1, z)] : List Num'), p.2 < 18446744073709551616) := fun p hp => by
          simp only [List.mem_cons, List.not_mem_nil, or_false] at hp
          rcases hp with rfl | rfl | rfl <;> simp <;> omega
        have HRC := Lib.hid (head3_recs (I := I) (Y := Y) (z := z) (by omega) (by omega) (by omega))
        clear hx hmem hxr hxl hI hY hz hent hNB hX hK0
        go_wp2_with fail
        refine wp_region_tail (by kernel_rfl) 16 45 slotEK waitEK (leaveEK wr.heap.size I Y z X) rfl
          (by kernel_rfl) (fun i v w w' _ hb h => by unfold leaveEK at *; split at h <;> first | exact h | (obtain ⟨g', h1, h2⟩ := h; exact ⟨g', h1, h2.below hb h2.lt⟩) | (obtain ⟨A', c', h1, h2, h3, h4⟩ := h; exact ⟨A', c', h1, h2, h3, (h4.below hb).mono hb.size⟩)) ?_ ?_
        · intro i hi
          match i, hi with
          | 0, _ =>
            intro o ho a wc hk hb hd K hK
            cases ho
            have e0 := hk.rest 6 (.pointer (some ⟨wr.heap.size, 0, none⟩)) (by omega) (by kernel_rfl) rfl
            rw [Array.getD_eq_getD_getElem?] at e0
            go_simp
            exact hK _ _ (Below.refl _ _) rfl
          | 1, _ =>
            intro o ho a wc hk hb hd K hK
            cases ho
            have e0 := hd 0 (by simp [waitEK])
            simp only [leaveEK, slotEK, if_false, Nat.reduceEqDiff, Nat.reduceAdd, Array.getD_eq_getD_getElem?] at e0
            obtain ⟨c0, c1, c2, -⟩ := et_cells (HX.out _ hb)
            go_simp
            exact hK _ _ (Below.refl _ _) rfl
          | 2, _ =>
            intro o ho a wc hk hb hd K hK
            cases ho
            have e0 := hd 1 (by simp [waitEK])
            simp only [leaveEK, slotEK, if_false, Nat.reduceEqDiff, Nat.reduceAdd, Array.getD_eq_getD_getElem?] at e0
            go_simp
            refine (HN1.out wc).mono ?_
            rintro e w9 ⟨rfl, hb9⟩
            exact hK _ _ hb9 rfl
          | 3, _ =>
            intro o ho a wc hk hb hd K hK
            cases ho
            have e0 := hk.rest 6 (.pointer (some ⟨wr.heap.size, 0, none⟩)) (by omega) (by kernel_rfl) rfl
            rw [Array.getD_eq_getD_getElem?] at e0
            go_simp
            exact hK _ _ (Below.refl _ _) rfl
          | 4, _ =>
            intro o ho a wc hk hb hd K hK
            cases ho
            have e0 := hd 3 (by simp [waitEK])
            simp only [leaveEK, slotEK, if_false, Nat.reduceEqDiff, Nat.reduceAdd, Array.getD_eq_getD_getElem?] at e0
            obtain ⟨c0, c1, c2, -⟩ := et_cells (HX.out _ hb)
            go_simp
            exact hK _ _ (Below.refl _ _) rfl
          | 5, _ =>
            intro o ho a wc hk hb hd K hK
            cases ho
            have e0 := hd 4 (by simp [waitEK])
            simp only [leaveEK, slotEK, if_false, Nat.reduceEqDiff, Nat.reduceAdd, Array.getD_eq_getD_getElem?] at e0
            go_simp
            refine (HN2.out wc).mono ?_
            rintro e w9 ⟨rfl, hb9⟩
            exact hK _ _ hb9 rfl
          | 6, _ =>
            intro o ho a wc hk hb hd K hK
            cases ho
            have e0 := hk.rest 6 (.pointer (some ⟨wr.heap.size, 0, none⟩)) (by omega) (by kernel_rfl) rfl
            rw [Array.getD_eq_getD_getElem?] at e0
            go_simp
            exact hK _ _ (Below.refl _ _) rfl
          | 7, _ =>
            intro o ho a wc hk hb hd K hK
            cases ho
            have e0 := hd 6 (by simp [waitEK])
            simp only [leaveEK, slotEK, if_false, Nat.reduceEqDiff, Nat.reduceAdd, Array.getD_eq_getD_getElem?] at e0
            obtain ⟨c0, c1, c2, -⟩ := et_cells (HX.out _ hb)
            go_simp
            exact hK _ _ (Below.refl _ _) rfl
          | 8, _ =>
            intro o ho a wc hk hb hd K hK
            cases ho
            have e0 := hd 7 (by simp [waitEK])
            simp only [leaveEK, slotEK, if_false, Nat.reduceEqDiff, Nat.reduceAdd, Array.getD_eq_getD_getElem?] at e0
            have zs := HZS.out
            go_simp
            exact hK _ _ (Below.refl _ _) rfl
          | 9, _ =>
            intro o ho a wc hk hb hd K hK
            cases ho
            have e0 := hd 8 (by simp [waitEK])
            simp only [leaveEK, slotEK, if_false, Nat.reduceEqDiff, Nat.reduceAdd, Array.getD_eq_getD_getElem?] at e0
            go_simp
            refine (HN3.out wc).mono ?_
            rintro e w9 ⟨rfl, hb9⟩
            exact hK _ _ hb9 rfl
          | 10, _ =>
            intro o ho a wc hk hb hd K hK
            cases ho
            have e0 := hd 2 (by simp [waitEK])
            have e1 := hd 5 (by simp [waitEK])
            have e2 := hd 9 (by simp [waitEK])
            simp only [leaveEK, slotEK, if_false, Nat.reduceEqDiff, Nat.reduceAdd, Array.getD_eq_getD_getElem?] at e0 e1 e2
            go_simp
            exact hK _ _ ((Below.refl _ _).alloc (Nat.le_refl _) _) ⟨_, rfl, Bk.new _ _ _⟩
          | 11, _ =>
            intro o ho a wc hk hb hd K hK
            cases ho
            have e0 := hd 10 (by simp [waitEK])
            simp only [leaveEK, slotEK, if_false, Nat.reduceEqDiff, Nat.reduceAdd, Array.getD_eq_getD_getElem?] at e0
            obtain ⟨g', e0, hbk⟩ := e0
            have HPK := Lib.hid (Pack_ok wc.heap.size (some ⟨g', 0, none⟩) 3 3 [(1, I), (1, Y), (1, z)] (head3 I Y z) 3 wc rfl HRC.out.2 HRC.out.1 rfl (Rd.bk hbk) (Nat.le_refl _) (by decide) HVS.out)
            clear hbk
            go_simp
            refine HPK.out.mono ?_
            rintro e w9 ⟨A', c', rfl, h1, h2, h3, -, hb9⟩
            exact hK _ _ hb9 ⟨A', c', rfl, h1, h2, h3⟩
          | 12, _ =>
            intro o ho a wc hk hb hd K hK
            cases ho
            have e0 := hd 11 (by simp [waitEK])
            simp only [leaveEK, slotEK, if_false, Nat.reduceEqDiff, Nat.reduceAdd, Array.getD_eq_getD_getElem?] at e0
            obtain ⟨A', c', e0, h1, h2, h3⟩ := e0
            go_simp
            exact hK _ _ (Below.refl _ _) ⟨_, _, rfl, h1, h2, h3⟩
          | 13, _ =>
            intro o ho a wc hk hb hd K hK
            cases ho
            have e0 := hd 12 (by simp [waitEK])
            simp only [leaveEK, slotEK, if_false, Nat.reduceEqDiff, if_true, Nat.reduceAdd, Array.getD_eq_getD_getElem?] at e0
            obtain ⟨A', c', e0, h1, h2, h3⟩ := e0
            go_simp
            exact hK _ _ (Below.refl _ _) ⟨_, _, rfl, h1, h2, h3⟩
          | 14, _ =>
            intro o ho a wc hk hb hd K hK
            cases ho
            have e0 := hd 12 (by simp [waitEK])
            simp only [leaveEK, slotEK, if_false, Nat.reduceEqDiff, if_true, Nat.reduceAdd, Array.getD_eq_getD_getElem?] at e0
            obtain ⟨A', c', e0, h1, h2, h3⟩ := e0
            go_simp
            exact hK _ _ (Below.refl _ _) rfl
          | 15, _ =>
            intro o ho a wc hk hb hd K hK
            cases ho
            have e0 := hd 13 (by simp [waitEK])
            simp only [leaveEK, slotEK, if_false, Nat.reduceEqDiff, if_true, Nat.reduceAdd, Array.getD_eq_getD_getElem?] at e0
            obtain ⟨A', c', e0, h1, h2, h3⟩ := e0
            go_simp
            exact hK _ _ (Below.refl _ _) ⟨_, _, rfl, h1, h2, h3⟩
          | _ + 16, h => exact absurd h (by omega)
        · intro vals w5 hb hR
          have v0 := hR 0 (by omega)
          have v1 := hR 1 (by omega)
          have v2 := hR 2 (by omega)
          have v3 := hR 3 (by omega)
          have v4 := hR 4 (by omega)
          have v5 := hR 5 (by omega)
          have v6 := hR 6 (by omega)
          have v7 := hR 7 (by omega)
          have v8 := hR 8 (by omega)
          have v9 := hR 9 (by omega)
          have v10 := hR 10 (by omega)
          have v11 := hR 11 (by omega)
          have v12 := hR 12 (by omega)
          have v13 := hR 13 (by omega)
          have v14 := hR 14 (by omega)
          have v15 := hR 15 (by omega)
          simp only [leaveEK] at v0 v1 v2 v3 v4 v5 v6 v7 v8 v9 v10 v11 v12 v13 v14 v15
          clear hR
          simp only [putAll, slotEK, if_true, if_false, Nat.reduceEqDiff, Nat.reduceAdd, List.setIfInBounds_toArray, List.set_cons_zero, List.set_cons_succ, List.drop_succ_cons, List.drop_zero, v0, v1, v2, v3, v4, v5, v6, v7, v8, v9, v14]
          clear v0 v1 v2 v3 v4 v5 v6 v7 v8 v9 v14
          have HB5 := Lib.hid (HB0.out.trans (hb.mono HB0.out.size))
          have HX5 := Lib.hid (HX.out _ hb)
          have HO5 := Lib.hid (own_upE HO0.out hb)
          have HO7 := HO5
          have HB7 := HB5
          have HX7 := HX5
          obtain ⟨A', c', hA', hc1, hc2, hrd⟩ := v15
          rw [hA']
          have HRD := Lib.hid hrd
          have HGE : Hid (w.heap.size ≤ w5.heap.size) := HB7.out.size
          clear hb hrd HO5 HB5 HX5
          obtain ⟨k0, k1, k2, -⟩ := et_cells HX7.out
          go_wp2_with (at_builtin; refine wpList_append_rd _ rfl _ _ 23 rfl w.heap.size 5 i0 (.int .u8 0) 1 1 Try.underlying23 hi.out hz0.out hz1.out hz2.out rfl (by decide) _ _ _ rfl HO7.out w5.heap.size A' 3 c' ((head3 I Y z).map bv) rfl rfl HRD.out ?c2 ?c3 ?c4 ?c5 ?_)
          case c2 => first | exact ⟨rfl, rfl, rfl⟩ | (intro u hu; obtain ⟨y, _, rfl⟩ := List.mem_map.1 hu; rfl)
          case c3 => unfold maxLen; omega
          case c4 => omega
          case c5 => have := HGE.out; simp; omega
          intro r' w7 hown7 hgrow
          have HX8 := Lib.hid (HX7.out.grown hgrow (fun e => by have h1 := (HO7.out.lt _ e).1; exact (HX7.out.ne_own HO7.out (by decide)) e))
          have HB8 := Lib.hid (HB7.out.grown hgrow HB7.out.size (fun g hg => (HO7.out.lt g hg).1))
          have HO8 := Lib.hid hown7
          have HG8 : Hid (w.heap.size ≤ w7.heap.size) := HB8.out.size
          clear hown7 hgrow k0 k1 k2 HO7 HX7 HB7 HRD
          obtain ⟨k0, k1, k2, -⟩ := et_cells HX8.out
          have hzs := HZS.out
          go_wp2_with (at_builtin; refine Lib.wpList_append_own_string _ rfl _ _ 23 9 rfl w.heap.size 5 i0 Try.underlying23 Try.underlying9 hi.out hz0.out hz1.out hz2.out _ _ _ rfl HO8.out X rfl ?d1 ?d2 ?d3 ?_)
          case d1 => unfold maxLen; omega
          case d2 => omega
          case d3 => exact HG8.out
          intro r'' w8 hown8 hgrow8 _
          have HB9 := Lib.hid (HB8.out.grown hgrow8 HB8.out.size (fun g hg => (HO8.out.lt g hg).1))
          have HO9 : Hid (w8.ownsRow w.heap.size 5 1 r'' (m + 3 + z) ((encE (l.take (k + 1))).map bv)) := by
            show World.ownsRow _ _ _ _ _ _ _
            rw [HE.out, ← HSC.out, List.append_assoc]; exact hown8
          clear hown8 hgrow8 HO8 HB8 HX8 k0 k1 k2 hzs
          go_wp2
          go_roundw
          case rel => exact ⟨k + 1, m + 3 + z, by omega, by go_num, by omega, HO9, HB9⟩
          case measure => simp [intOf]; omega
      · obtain rfl : k = n := by omega
        have HE : Hid (wr.ownsRow w.heap.size 5 1 (.slice Ar m cr) m ((encE l).map bv)) := by
          have h := HOWN.out
          rw [List.take_of_length_le (by rw [HL.out]; exact Nat.le_refl _)] at h
          exact h
        go_wp2
        go_ret2
        exact ⟨_, rfl, ⟨Ar, m, cr, rfl, by have := HE.out.1; rw [List.length_map] at this; omega, hcr, hcm, Rd.own HE.out⟩, HBB.out⟩
end Go.Proofs.Ytgboccepgbeihaa
