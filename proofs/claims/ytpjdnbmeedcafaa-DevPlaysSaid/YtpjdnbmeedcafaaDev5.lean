/-
  Spoil, Write and Erase.
-/
import Derived.Test.YtpjdnbmeedcafaaDev4
import Derived.Deep.WholeRow
import Derived.Test.YtpjdnbmeedcafaaRegSt
namespace Go.Proofs.Ytpjdnbmeedcafaa
open Go.RowKit Go.Maps
set_option linter.unusedVariables false

/-- a store of many cells into a block known whole, as one row -/
theorem setCells_row {P : Program} {w : World} {g : Nat} {t : TypeId} {C : Array Value} (h : Bk w g t C) (o : Nat) (vs : List Value) (hf : o + vs.length ≤ C.size) (h1 : ∀ v ∈ vs, v.oneCell' = true) :
    w.setCells g o vs = w.setRow g (splice C.toList o vs).toArray := by
  have e1 := run_storeCells_at P g o t vs 0 C w h (by simpa using hf) h1
  have e2 := run_storeCells_cells (P := P) g o vs 0 w (fun j hj => by rw [Nat.add_zero, h.cell, Array.getElem?_eq_getElem (by omega)]; rfl) (fun j hj => h.free _) h1
  rw [e1] at e2
  injection e2 with _ e2
  rw [Nat.add_zero] at e2
  rw [← e2, splice, List.append_assoc]
theorem bv_one {b : List UInt8} : ∀ v ∈ b.map bv, v.oneCell' = true := fun v hv => by
  obtain ⟨x, _, rfl⟩ := List.mem_map.1 hv; rfl
theorem DevAt.there {w : World} {base sb bb mb : Nat} {pv : Value} {D : Dv} (h : DevAt w base sb bb mb pv D) (k : Nat) (hk : k < D.n) : w.there bb (k * 128) 128 := by
  obtain ⟨C, hC, hC'⟩ := h.blk
  exact fun j hj => ⟨by rw [hC.cell, Array.getElem?_eq_getElem (by rw [hC'.1]; omega)]; rfl, hC.free _⟩
theorem Dv.Ok.hass {D : Dv} (h : D.Ok) {f : Nat → List UInt8} (hf : ∀ i, (f i).length = 128) : ({ D with has := f } : Dv).Ok := ⟨h.n1, h.n2, hf, h.pend, h.flt, h.bud⟩
/-- octets go into a block, from its first one on -/
theorem DevAt.putBlock {w : World} {base sb bb mb : Nat} {pv : Value} {D : Dv} (h : DevAt w base sb bb mb pv D) (k : Nat) (hk : k < D.n) (vs : List UInt8) (hv : vs.length ≤ 128) :
    Turn base sb bb mb w pv (w.setCells bb (k * 128) (vs.map bv)) pv { D with has := upd D.has k vs } := by
  obtain ⟨a1, a2, a3, a4, a5, a6⟩ := h.apart
  obtain ⟨C, hC, hC'⟩ := h.blk
  obtain ⟨E, hE, hE'⟩ := h.flt
  rw [setCells_row (P := Try.prog) hC _ _ (by rw [List.length_map, hC'.1]; omega) bv_one]
  refine ⟨⟨h.ok.hass (upd_length h.ok.has k vs hv), (setRow_other w bb sb _ a1).trans h.str, ⟨_, hC.row _, hC'.set h.ok.has hk vs hv⟩, own_keep h.pen fun j hj => setRow_other w bb j _ (fun e => by subst e; exact a5 hj), ⟨E, map_keep hE (setRow_other w bb mb _ (Ne.symm a3)), hE'⟩, h.bsb, h.bbb, h.bmb⟩, (Fr.refl _ _).setRow (.inl (.inr (.inl rfl))) _, fun j hj => .inl hj⟩

theorem range_rd {w : World} {B b o : Nat} {vs : List Value} (h : Rd w B (some ⟨b, o, none⟩) vs) : w.rangeAt b o vs := fun j v hv => by
  obtain ⟨ad, e, _, hc⟩ := h j v hv
  injection e with e
  subst e
  rwa [add_plain] at hc
theorem array_at (w : World) (b o c : Nat) : (Instr.arrayAt 67 (.slice (some ⟨b, o, none⟩) 128 c)).run Try.prog w = .ok (.pointer (some ⟨b, o, none⟩)) w := by
  simp [Instr.arrayAt, run_underlying under_block]

theorem Spoil_no {base sb bb mb : Nat} {pv : Value} {D : Dv} (i : Int) (A : Option Addr) (n c : Nat) (t : Bool) (w : World) (h : DevAt w base sb bb mb pv D) (hi : inN D.n i = t) (hn : n ≤ 1000) (hbad : t = false ∨ n ≠ 128) :
    Calls Try.prog 25 #[.pointer (some ⟨sb, 0, none⟩), .int .i64 i, .slice A n c] w fun e w' => e = .returned (.int .i64 (if t = false then 4 else 1)) ∧ w = w' := by
  have HD := Lib.hid h
  have HT := Lib.hid hi
  have HN := Lib.hid hn
  have he : (if t = false then (4 : Int) else if n = 128 then 0 else 1) = if t = false then 4 else 1 := by
    rcases hbad with rfl | h
    · rfl
    · rw [if_neg h]
  obtain ⟨x, hx⟩ : ∃ x : Int, (if t = false then 4 else 1) = x := ⟨_, rfl⟩
  have hx0 : x = 4 ∨ x = 1 := by rw [← hx]; cases t <;> simp
  rw [hx] at he ⊢
  have HE := Lib.hid he
  clear h hi hn he hbad hx
  rcases hx0 with rfl | rfl
  all_goals
    go_enter Try.func25, Try.ntmps25
    go_wp2_with fail
    refine (takes_any i A n c t _ HD.out HT.out HN.out).mono ?_
    rintro e w1 ⟨rfl, rfl⟩
    rw [HE.out]
    go_wp2
    go_ret
    exact ⟨rfl, rfl⟩

set_option maxRecDepth 100000 in
set_option maxHeartbeats 1000000 in
theorem Spoil_yes {base sb bb mb : Nat} {pv : Value} {D : Dv} (k : Nat) (g o c B : Nat) (b : List UInt8) (w : World) (h : DevAt w base sb bb mb pv D) (hk : k < D.n) (hb : b.length = 128) (hr : Rd w B (some ⟨g, o, none⟩) (b.map bv)) (hg0 : ¬ Foot sb bb mb pv g) :
    Calls Try.prog 25 #[.pointer (some ⟨sb, 0, none⟩), .int .i64 k, .slice (some ⟨g, o, none⟩) 128 c] w fun e w' => e = .returned (.int .i64 0) ∧ Turn base sb bb mb w pv w' pv { D with has := upd D.has k b } := by
  have HD := Lib.hid h
  have HT := Lib.hid (show inN D.n k = true by simp [inN]; omega)
  have HK := Lib.hid hk
  have HBL := Lib.hid hb
  have h0 := h.c0
  have hn := h.ok.n2
  have hR := range_rd hr
  have hT := h.there k hk
  have hA := fun w' => array_at w' g o c
  have hu := under_block
  have hs := size_block (cs := b.map bv) (by rw [List.length_map, hb])
  have h1 : ∀ v ∈ b.map bv, v.oneCell' = true := bv_one
  have hlen : (b.map bv).toArray.size = 128 := by simp [hb]
  have hlen2 : (b.map bv).length = 128 := by simp [hb]
  have hsb := h.apart.1
  have hg : g ≠ bb := fun e => hg0 (.inr (.inl e))
  have KS : Hid (∀ w' : World, (w'.rangeAt g o (b.map bv) ∧ w'.cell? ⟨sb, 0, none⟩ = some (.slice (some ⟨bb, 0, none⟩) D.n D.n) ∧ w'.there bb (k * 128) 128) → ((w'.setCells bb (k * 128) (b.map bv)).rangeAt g o (b.map bv) ∧ (w'.setCells bb (k * 128) (b.map bv)).cell? ⟨sb, 0, none⟩ = some (.slice (some ⟨bb, 0, none⟩) D.n D.n) ∧ (w'.setCells bb (k * 128) (b.map bv)).there bb (k * 128) 128)) :=
    Lib.hid fun w' ⟨k1, k2, k3⟩ => ⟨World.rangeAt_setCells_apart k1 _ _ _ (.inl hg), by rw [World.cell?_setCells_out bb _ _ w' ⟨sb, 0, none⟩ (fun e _ => absurd e hsb)]; exact k2, World.there_setCells k3 _ _ _⟩
  clear h hb hr hg hsb hg0
  go_enter Try.func25, Try.ntmps25
  go_wp2_with fail
  refine (takes_any _ _ 128 c true _ HD.out HT.out (by omega)).mono ?_
  rintro e w1 ⟨rfl, rfl⟩
  go_wp2
  go_region_held3 (fun w' => w'.rangeAt g o (b.map bv) ∧ w'.cell? ⟨sb, 0, none⟩ = some (.slice (some ⟨bb, 0, none⟩) D.n D.n) ∧ w'.there bb (k * 128) 128) (first | go_keep_ranges | exact KS.out _ ⟨by assumption, by assumption, by assumption⟩) (fail)
  go_wp2
  go_ret
  exact ⟨rfl, Turn.pre ((Below.refl _ _).drew) (HD.out.drew.putBlock k HK.out b (by rw [HBL.out]; omega))⟩

def writeE (D : Dv) (k : Nat) : Int := if startE D ≠ 0 then startE D else if incl (D.flt k) 2 = true then 9 else 0
def writeD (D : Dv) (k : Nat) (b : List UInt8) : Dv := if writeE D k = 0 then { startD D with pend := (startD D).pend ++ [(k, b)] } else startD D
theorem startD_n (D : Dv) : (startD D).n = D.n := by unfold startD; split; rfl; split <;> rfl
theorem startD_has (D : Dv) : (startD D).has = D.has := by unfold startD; split; rfl; split <;> rfl
theorem startD_pend (D : Dv) : (startD D).pend = D.pend := by unfold startD; split; rfl; split <;> rfl
theorem startD_flt (D : Dv) : (startD D).flt = D.flt := by unfold startD; split; rfl; split <;> rfl
theorem startD_cnt (D : Dv) : (startD D).cnt = D.cnt := by unfold startD; split; rfl; split <;> rfl
theorem startD_mnt (D : Dv) : (startD D).mnt = D.mnt := by unfold startD; split; rfl; split <;> rfl
theorem zero_write : (Try.prog.info? 69).map (fun i => (i.zero, i.size, i.bytes)) = some (some (.agg (.int .i64 0 :: List.replicate 128 (.int .u8 0)).toArray), 129, 136) := by kernel_rfl
theorem Fr.range {S : Nat → Prop} {w w' : World} (h : Fr S w w') {g o : Nat} {vs : List Value} (hr : w.rangeAt g o vs) (hn : ¬ S g) : w'.rangeAt g o vs := fun j v hv => by
  have hc := hr j v hv
  have hlt := World.block_lt_of_cell? w _ hc
  exact (World.cell?_of_block (w := w) (w' := w') (a := ⟨g, o + j, none⟩) (h.kept g hlt hn)).trans hc
theorem range_alloc_one (w : World) (t : TypeId) (cs : List Value) : ∀ j u, cs[j]? = some u → (w.alloc (.cells cs.toArray t)).cell? ((⟨w.heap.size, 0, none⟩ : Addr).add j) = some u := fun j u hu => by
  rw [add_plain, Nat.zero_add, cell_of_row _ _ _ _ _ _ (heap_alloc_new w _)]
  simpa using hu
/-- behind an append, and the store of what it made -/
theorem DevAt.appended {w w1 w2 : World} {base sb bb mb : Nat} {pv v' : Value} {D : Dv} (h : DevAt w base sb bb mb pv D) (hb : Below w.heap.size w w1) (hg : w1.grownBy w2 pv.ownBlock) (k : Nat) (b : List UInt8) (hk : k < D.n) (hl : b.length = 128)
    (hown : w2.ownsRow base 69 129 v' (D.pend.length + 1) (pcells D.pend ++ pcell (k, b))) (hloc : v'.ownBlock = pv.ownBlock ∨ v'.ownBlock = some w1.heap.size) :
    Turn base sb bb mb w pv (w2.setCell ⟨sb, 1, none⟩ v') v' { D with pend := D.pend ++ [(k, b)] } := by
  have h1 := h.up hb
  obtain ⟨a1, a2, a3, a4, a5, a6⟩ := h1.apart
  obtain ⟨C, hC, hC'⟩ := h1.blk
  obtain ⟨E, hE, hE'⟩ := h1.flt
  have hs2 : Bk w2 sb 62 (dcells bb mb pv D) := (hg.block sb h1.str.lt (fun e => a4 e.symm)).trans h1.str
  have hb2 : Bk w2 bb 67 C := (hg.block bb hC.lt (fun e => a5 e.symm)).trans hC
  have hm2 := map_keep hE (hg.block mb hE.lt (fun e => a6 e.symm))
  have hvs : v'.ownBlock ≠ some sb := fun e => by obtain ⟨_, _, cs', h'⟩ := own_lt hown e; exact h'.ne hs2 (by decide) rfl
  refine ⟨⟨h.ok.pends fun p hp => ?_, hs2.set_ 1 v', ⟨C, hb2.far (Ne.symm a1) _, hC'⟩, ?_, ⟨E, map_keep hm2 (Below.heap_setCell _ _ _ _ (Ne.symm a2)), hE'⟩, h.bsb, h.bbb, h.bmb⟩, ?_, fun j hj => ?_⟩
  · rcases List.mem_append.1 hp with hp | hp
    · exact h.ok.pend p hp
    · rw [List.mem_singleton] at hp; subst hp; exact ⟨hk, hl⟩
  · show World.ownsRow _ base _ 129 v' (D.pend ++ [(k, b)]).length (pcells (D.pend ++ [(k, b)]))
    rw [pcells_append, List.length_append, List.length_singleton, show pcells [(k, b)] = pcell (k, b) by simp [pcells]]
    exact own_keep hown fun j hj => Below.heap_setCell _ _ _ _ (fun e => by subst e; exact hvs hj)
  · exact ((Fr.of_below (S := Foot sb bb mb pv) hb).grown hg fun j hj => .inl (.inr (.inr (.inr hj)))).setCell (.inl (.inl rfl)) _
  · rcases hloc with e | e
    · rw [e] at hj; exact .inl hj
    · rw [e] at hj; injection hj with hj; subst hj; exact .inr hb.size

/-! ### a struct that holds an array is built -/
theorem fold_get : ∀ (l : List Value) (o s : Nat) (A : Array Value) (j : Nat), o + s + l.length ≤ A.size →
    ((l.zipIdx s).foldl (fun cs x => cs.setIfInBounds (o + x.2) x.1) A)[j]? = if o + s ≤ j ∧ j < o + s + l.length then l[j - (o + s)]? else A[j]?
  | [], o, s, A, j, h => by rw [if_neg (by simp)]; rfl
  | v :: l, o, s, A, j, h => by
    rw [List.zipIdx_cons, List.foldl_cons, fold_get l o (s + 1) _ j (by simp at h ⊢; omega)]
    simp only [List.length_cons] at h ⊢
    by_cases h1 : o + s = j
    · subst h1
      rw [if_neg (by omega), if_pos (by omega), Array.getElem?_setIfInBounds_self_of_lt (by omega), Nat.sub_self]
      rfl
    · rw [Array.getElem?_setIfInBounds_ne h1]
      by_cases h2 : o + s ≤ j ∧ j < o + s + (l.length + 1)
      · rw [if_pos (by omega), if_pos h2, show j - (o + s) = (j - (o + (s + 1))) + 1 by omega, List.getElem?_cons_succ]
      · rw [if_neg (by omega), if_neg h2]
theorem fold_build (k : Value) (cs : List Value) (Z : Array Value) (hZ : Z.size = 129) (hc : cs.length = 128) :
    List.foldl (fun cs x => cs.setIfInBounds (1 + x.snd) x.fst) (Z.setIfInBounds 0 k) cs.zipIdx = (k :: cs).toArray := by
  apply Array.ext_getElem?
  intro j
  rw [fold_get cs 1 0 _ j (by simp; omega)]
  by_cases h : 1 + 0 ≤ j ∧ j < 1 + 0 + cs.length
  · rw [if_pos h, List.getElem?_toArray, show j = (j - (1 + 0)) + 1 by omega, List.getElem?_cons_succ]; simp
  · rw [if_neg h]
    by_cases h0 : j = 0
    · subst h0; rw [Array.getElem?_setIfInBounds_self_of_lt (by omega)]; simp
    · rw [Array.getElem?_eq_none (by simp; omega), List.getElem?_toArray, List.getElem?_eq_none (by simp; omega)]
theorem fold_all (M A : Array Value) (h : A.size = 129) (hM : M.size = 129) : Array.foldl (fun cs x => cs.setIfInBounds x.snd x.fst) A M.zipIdx 0 129 = M := by
  have hs : M.zipIdx.size = 129 := by simp [hM]
  have e : Array.foldl (fun cs x => cs.setIfInBounds x.snd x.fst) A M.zipIdx 0 129 = (M.toList.zipIdx 0).foldl (fun cs x => cs.setIfInBounds (0 + x.2) x.1) A := by
    rw [← hs, ← Array.foldl_toList, Array.toList_zipIdx]
    simp only [Nat.zero_add]
  rw [e]
  apply Array.ext_getElem?
  intro j
  have hl : M.toList.length = 129 := by simpa using hM
  rw [fold_get M.toList 0 0 A j (by omega)]
  by_cases h1 : j < 129
  · rw [if_pos (by omega)]; simp
  · rw [if_neg (by omega), Array.getElem?_eq_none (by omega), Array.getElem?_eq_none (by omega)]
theorem zero_write2 : (Try.prog.info? 69).map (fun i => (i.zero, i.size)) = some (some (.agg (.int .i64 0 :: List.replicate 128 (.int .u8 0)).toArray), 129) := by kernel_rfl
def waits9 : Nat → List Nat
  | 2 => [1]
  | 3 => [2]
  | 4 => [3]
  | 7 => [6]
  | 8 => [7]
  | 9 => [5, 8]
  | 10 => [9]
  | 11 => [4, 10]
  | 12 => [0]
  | 13 => [12]
  | 14 => [11, 13]
  | _ => []
set_option maxRecDepth 100000 in
set_option maxHeartbeats 1000000 in
theorem Write_try {base sb bb mb : Nat} {pv : Value} {D : Dv} (k : Nat) (g o c : Nat) (b : List UInt8) (w : World) (h : DevAt w base sb bb mb pv D) (hbase : base ≤ w.heap.size) (hk : k < D.n) (hb : b.length = 128) (hr : w.rangeAt g o (b.map bv)) (hg0 : ¬ Foot sb bb mb pv g)
    (h1 : startE D = 0) (h2 : incl (D.flt k) 2 = false) (hpl : D.pend.length ≤ 1000) :
    Calls Try.prog 14 #[.pointer (some ⟨sb, 0, none⟩), .int .i64 k, .slice (some ⟨g, o, none⟩) 128 c] w fun e w' => e = .returned (.int .i64 0) ∧ ∃ pv', Turn base sb bb mb w pv w' pv' { startD D with pend := (startD D).pend ++ [(k, b)] } := by
  have HD := Lib.hid h
  have HT := Lib.hid (show inN D.n k = true by simp [inN]; omega)
  have HK := Lib.hid hk
  have HBL := Lib.hid hb
  have HBASE := Lib.hid hbase
  have hn := h.ok.n2
  have HS := Lib.hid h1
  have HF := Lib.hid h2
  have HR := Lib.hid hr
  have HG := Lib.hid hg0
  have HPL := Lib.hid hpl
  obtain ⟨i0, hi0, hib⟩ := Option.map_eq_some_iff.1 zero_write
  simp only [Prod.mk.injEq] at hib
  have HI := Lib.hid hi0
  have HIB := Lib.hid hib
  obtain ⟨D1, hD1⟩ : ∃ D1, startD D = D1 := ⟨_, rfl⟩
  have HD1 := Lib.hid hD1
  have en : D1.n = D.n := by rw [← hD1]; exact startD_n D
  have ef : D1.flt = D.flt := by rw [← hD1]; exact startD_flt D
  have ep : D1.pend = D.pend := by rw [← hD1]; exact startD_pend D
  have HF1 : Hid (incl (D1.flt k) 2 = false) := by rw [ef]; exact HF.out
  have HL1 : Hid (D1.pend.length ≤ 1000) := by rw [ep]; exact HPL.out
  have HK1 : Hid (k < D1.n) := by rw [en]; exact hk
  rw [hD1]
  clear h hb hr hg0 h1 h2 hpl hi0 hib hD1 en ef ep hbase
  go_enter Try.func14, Try.ntmps14
  go_wp2_with fail
  refine (takes_any _ _ 128 c true _ HD.out HT.out (by omega)).mono ?_
  rintro e w1 ⟨rfl, rfl⟩
  go_wp2_with fail
  refine (start_any _ HD.out).mono ?_
  rintro e w1 ⟨rfl, ht⟩
  rw [HS.out]
  rw [HD1.out] at ht
  have HT1 := Lib.hid ht
  clear ht
  go_wp2_with fail
  refine (faulty_any _ _ _ HT1.out.dev (.inr rfl) (by omega) (by omega)).mono ?_
  rintro e w2 ⟨rfl, rfl⟩
  rw [HF1.out]
  have hd1 := HT1.out.dev
  have hb1 := Nat.le_trans HBASE.out HT1.out.fr.size
  have HB1 := Lib.hid hb1
  obtain ⟨A, cap, hpv, _, _⟩ := own_len hd1.pen
  have c1 := hd1.c1
  rw [hpv] at c1
  have f1 := hd1.fz 1
  have hRg := HT1.out.fr.range HR.out HG.out
  have hsb := hd1.str.lt
  have c1' : ∀ ob, (w1.drew.alloc ob).cell? ⟨sb, 1, none⟩ = some (.slice A D1.pend.length cap) := fun ob => by rw [World.cell?_alloc_lt _ _ _ hsb]; exact c1
  have HRG := Lib.hid hRg
  have HPV := Lib.hid hpv
  have hA := fun w' => array_at w' g o c
  have hu := under_block
  have hs8 := size_block (cs := b.map bv) (by rw [List.length_map, HBL.out])
  clear hd1 hpv hsb hb1
  obtain ⟨Z, hZe⟩ : ∃ Z : Array Value, Z = (.int .i64 0 :: List.replicate 128 (.int .u8 0)).toArray := ⟨_, rfl⟩
  have hZ : Z.size = 129 := by rw [hZe]; simp
  have hZ0 : ¬ Z = #[] := fun e => by rw [e] at hZ; cases hZ
  have hz : ∀ w, (zeroValue 69).run Try.prog w = .ok (.agg Z) w := by rw [hZe]; exact (zero_of_info zero_write2).1
  have hbl : b.length = 128 := HBL.out
  obtain ⟨M, hMe⟩ : ∃ M : Array Value, M = (pcell (k, b)).toArray := ⟨_, rfl⟩
  have hM : List.foldl (fun cs x => cs.setIfInBounds (1 + x.snd) x.fst) (Z.setIfInBounds 0 (.int .i64 (k : Int))) (List.map bv b).zipIdx = M := by
    rw [fold_build _ _ Z hZ (by simpa using hbl), hMe]; rfl
  have hMs : M.size = 129 := by rw [hMe]; simp [pcell, hbl]
  have hall : ∀ A : Array Value, A.size = 129 → Array.foldl (fun cs x => cs.setIfInBounds x.snd x.fst) A M.zipIdx 0 129 = M := fun A h => fold_all M A h hMs
  have HME := Lib.hid hMe
  have HOWN : Hid ((w1.drew.alloc (.cells M 69)).ownsRow base 69 129 (.slice A D1.pend.length cap) D1.pend.length (pcells D1.pend)) := by
    have := HT1.out.dev.pen
    rw [HPV.out] at this
    exact this.drew.alloc _
  have HNB : Hid (Value.ownBlock (.slice A D1.pend.length cap) ≠ some sb) := by rw [← HPV.out]; exact HT1.out.dev.apart.2.2.2.1
  have HNG : Hid (Value.ownBlock (.slice A D1.pend.length cap) ≠ some g) := by
    rw [← HPV.out]
    intro e
    rcases HT1.out.foot g (.inr (.inr (.inr e))) with h | h
    · exact HG.out h
    · have := World.block_lt_of_cell? w _ (HR.out 0 _ (by rw [List.getElem?_map, List.getElem?_eq_getElem (by rw [HBL.out]; omega)]; rfl))
      simp at this; omega
  have HSB := Lib.hid HT1.out.dev.str.lt
  have HC2 : Hid (∀ w2, (w1.drew.alloc (.cells M 69)).grownBy w2 (Value.ownBlock (.slice A D1.pend.length cap)) → w2.cell? ⟨sb, 1, none⟩ = some (.slice A D1.pend.length cap) ∧ w2.frozen? ⟨sb, 1, none⟩ = false) := Lib.hid fun w2 hg => by
    have hb := hg.block sb (by have := HSB.out; simp; omega) (fun e => HNB.out e.symm)
    have hb' : w2.heap[sb]? = w1.heap[sb]? := hb.trans (Below.heap_alloc w1.drew _ sb HSB.out)
    have hd := HT1.out.dev
    exact ⟨(World.cell?_of_block (w := w1) (a := ⟨sb, 1, none⟩) hb').trans (by rw [← HPV.out]; exact hd.c1), (World.frozen?_of_block (w := w1) (a := ⟨sb, 1, none⟩) hb').trans (hd.fz 1)⟩
  have HGS : Hid (g ≠ sb) := fun e => HG.out (.inl e)
  obtain ⟨v', w2, hrun, hown2, hgr2, _, hloc2⟩ := run_append_own_at (P := Try.prog) (w1.drew.alloc (.cells M 69)) base 60 60 69 i0 _ 129 136 Try.underlying60 HI.out HIB.out.1 HIB.out.2.1 HIB.out.2.2 (by kernel_rfl) (by decide) _ _ _ HOWN.out ⟨w1.heap.size, 0, none⟩ 1 1 (pcell (k, b)) (by simp [pcell, HBL.out]) (by rw [HME.out]; exact range_alloc_one w1.drew _ _) (by intro u hu; simp only [pcell, List.mem_cons] at hu; rcases hu with hu | hu; subst hu; rfl; exact bv_one u hu) (by have := HL1.out; unfold maxLen; omega) (by have := HL1.out; omega) (by have := HB1.out; simp; omega)
  obtain ⟨hc2, hf2⟩ := HC2.out _ hgr2
  obtain ⟨A2, cap2, hv2, _, _⟩ := own_len hown2
  have HV2 := Lib.hid hv2
  have HOWN2 := Lib.hid hown2
  have HGR2 := Lib.hid hgr2
  have HLOC2 := Lib.hid hloc2
  obtain ⟨m, hm⟩ : ∃ m, D1.pend.length = m := ⟨_, rfl⟩
  rw [hm] at hrun c1 hc2
  have HRUN := Lib.hid hrun
  have HM := Lib.hid hm
  clear hown2 hgr2 hloc2 hZe hMe hm hrun hv2
  obtain ⟨Wd, hWd⟩ : ∃ Wd : (Nat → Bool) → World, Wd = fun L => if L 14 then w2.setCell ⟨sb, 1, none⟩ v' else if L 11 then w2 else if L 10 then w1.drew.alloc (.cells M 69) else w1.drew := ⟨_, rfl⟩
  obtain ⟨V, hV⟩ : ∃ V : Nat → Value, V = fun i => ([.pointer (some ⟨sb, 0, none⟩), .pointer (some ⟨sb, 0, none⟩), .pointer (some ⟨sb, 0, none⟩), .pointer (some ⟨sb, 1, none⟩), .slice A m cap, .int .i64 (k : Int), .slice (some ⟨g, o, none⟩) 128 c, .pointer (some ⟨g, o, none⟩), .agg (b.map bv).toArray, .agg M, .slice (some ⟨w1.heap.size, 0, none⟩) 1 1, v', .pointer (some ⟨sb, 0, none⟩), .pointer (some ⟨sb, 1, none⟩), undef] : List Value).getD i undef := ⟨_, rfl⟩
  have HLL : Hid (∀ L : Nat → Bool, (∀ j, L j = true → ∀ d ∈ waits9 j, L d = true) → (L 10 = true → L 8 = true) ∧ (L 11 = true → L 10 = true ∧ L 4 = true) ∧ (L 14 = true → L 11 = true)) := Lib.hid fun L hcl =>
    ⟨fun h => hcl 9 (hcl 10 h 9 (by simp [waits9])) 8 (by simp [waits9]), fun h => ⟨hcl 11 h 10 (by simp [waits9]), hcl 11 h 4 (by simp [waits9])⟩, fun h => hcl 14 h 11 (by simp [waits9])⟩
  go_wp2
  refine wp_region_states (by kernel_rfl) 15 38 (fun i => 24 + i) waits9 (JV V Wd) (by kernel_rfl) rfl ⟨fun j hj => by (cases hj), by (rw [hWd]; rfl)⟩ ?_ ?_
  · intro i hi
    match i, hi with
    | 0, _ =>
      intro o ho L vals a w hs hi hcl hdl hJ K hK
      cases ho
      have e0 := hs.out 0 (.pointer (some ⟨sb, 0, none⟩)) (fun i hi => by omega) rfl
      go_simp
      exact hK _ _ (hJ.step (by rw [hV]; rfl) (by rw [hJ.world, hWd]; simp [setL]))
    | 1, _ =>
      intro o ho L vals a w hs hi hcl hdl hJ K hK
      cases ho
      have e0 := hs.out 0 (.pointer (some ⟨sb, 0, none⟩)) (fun i hi => by omega) rfl
      go_simp
      exact hK _ _ (hJ.step (by rw [hV]; rfl) (by rw [hJ.world, hWd]; simp [setL]))
    | 2, _ =>
      intro o ho L vals a w hs hi hcl hdl hJ K hK
      cases ho
      have e0 := hs.dep hJ 1 25 (.pointer (some ⟨sb, 0, none⟩)) (hdl 1 (by simp [waits9])) (by omega) rfl (by omega) (by rw [hV]; rfl)
      go_simp
      exact hK _ _ (hJ.step (by rw [hV]; rfl) (by rw [hJ.world, hWd]; simp [setL]))
    | 3, _ =>
      intro o ho L vals a w hs hi hcl hdl hJ K hK
      cases ho
      have e0 := hs.dep hJ 2 26 (.pointer (some ⟨sb, 0, none⟩)) (hdl 2 (by simp [waits9])) (by omega) rfl (by omega) (by rw [hV]; rfl)
      go_simp
      exact hK _ _ (hJ.step (by rw [hV]; rfl) (by rw [hJ.world, hWd]; simp [setL]))
    | 4, _ =>
      intro o ho L vals a w hs hi hcl hdl hJ K hK
      cases ho
      have e0 := hs.dep hJ 3 27 (.pointer (some ⟨sb, 1, none⟩)) (hdl 3 (by simp [waits9])) (by omega) rfl (by omega) (by rw [hV]; rfl)
      obtain ⟨q1, q2, q3⟩ := HLL.out L hcl
      have l11 : L 11 = false := by
        cases h : L 11 with
        | false => rfl
        | true => rw [(q2 h).2] at hi; cases hi
      have l14 : L 14 = false := by
        cases h : L 14 with
        | false => rfl
        | true => rw [q3 h] at l11; cases l11
      have hw4 : w.cell? ⟨sb, 1, none⟩ = some (.slice A m cap) := by
        rw [hJ.world, hWd]
        simp only [l14, l11]
        cases L 10
        · exact c1
        · exact (World.cell?_alloc_lt _ _ _ HSB.out).trans c1
      clear q1 q2 q3
      go_simp
      exact hK _ _ (hJ.step (by rw [hV]; rfl) (by rw [hJ.world, hWd]; simp [setL]))
    | 5, _ =>
      intro o ho L vals a w hs hi hcl hdl hJ K hK
      cases ho
      have e0 := hs.out 1 (.int .i64 (k : Int)) (fun i hi => by omega) rfl
      go_simp
      exact hK _ _ (hJ.step (by rw [hV]; rfl) (by rw [hJ.world, hWd]; simp [setL]))
    | 6, _ =>
      intro o ho L vals a w hs hi hcl hdl hJ K hK
      cases ho
      have e0 := hs.out 2 (.slice (some ⟨g, o, none⟩) 128 c) (fun i hi => by omega) rfl
      go_simp
      exact hK _ _ (hJ.step (by rw [hV]; rfl) (by rw [hJ.world, hWd]; simp [setL]))
    | 7, _ =>
      intro o ho L vals a w hs hi hcl hdl hJ K hK
      cases ho
      have e0 := hs.dep hJ 6 30 (.slice (some ⟨g, o, none⟩) 128 c) (hdl 6 (by simp [waits9])) (by omega) rfl (by omega) (by rw [hV]; rfl)
      go_simp
      exact hK _ _ (hJ.step (by rw [hV]; rfl) (by rw [hJ.world, hWd]; simp [setL]))
    | 8, _ =>
      intro o ho L vals a w hs hi hcl hdl hJ K hK
      cases ho
      have e0 := hs.dep hJ 7 31 (.pointer (some ⟨g, o, none⟩)) (hdl 7 (by simp [waits9])) (by omega) rfl (by omega) (by rw [hV]; rfl)
      obtain ⟨q1, q2, q3⟩ := HLL.out L hcl
      have l10 : L 10 = false := by
        cases h : L 10 with
        | false => rfl
        | true => rw [q1 h] at hi; cases hi
      have l11 : L 11 = false := by
        cases h : L 11 with
        | false => rfl
        | true => rw [(q2 h).1] at l10; cases l10
      have l14 : L 14 = false := by
        cases h : L 14 with
        | false => rfl
        | true => rw [q3 h] at l11; cases l11
      have hw8 : w = w1.drew := by rw [hJ.world, hWd]; simp [l10, l11, l14]
      rw [if_pos (by rfl)]
      refine wp_load_mid 67 (.tmp 31) rfl g o (by show a.tmps.getD 31 undef = _; rw [Array.getD_eq_getD_getElem?]; exact e0) (b.map bv) (.array 128 5) (by rw [hw8]; exact HRG.out) under_block rfl hs8 ?_
      exact hK _ _ (hJ.step (by rw [hV]; rfl) (by rw [hJ.world, hWd]; simp [setL]))
    | 9, _ =>
      intro o ho L vals a w hs hi hcl hdl hJ K hK
      cases ho
      have e0 := hs.dep hJ 5 29 (.int .i64 (k : Int)) (hdl 5 (by simp [waits9])) (by omega) rfl (by omega) (by rw [hV]; rfl)
      have e1 := hs.dep hJ 8 32 (.agg (b.map bv).toArray) (hdl 8 (by simp [waits9])) (by omega) rfl (by omega) (by rw [hV]; rfl)
      have hbl : b.length = 128 := HBL.out
      go_simp
      exact hK _ _ (hJ.step (by rw [hV]; rfl) (by rw [hJ.world, hWd]; simp [setL]))
    | 10, _ =>
      intro o ho L vals a w hs hi hcl hdl hJ K hK
      cases ho
      have e0 := hs.dep hJ 9 33 (.agg M) (hdl 9 (by simp [waits9])) (by omega) rfl (by omega) (by rw [hV]; rfl)
      obtain ⟨q1, q2, q3⟩ := HLL.out L hcl
      have l11 : L 11 = false := by
        cases h : L 11 with
        | false => rfl
        | true => rw [(q2 h).1] at hi; cases hi
      have l14 : L 14 = false := by
        cases h : L 14 with
        | false => rfl
        | true => rw [q3 h] at l11; cases l11
      have hw8 : w = w1.drew := by rw [hJ.world, hWd]; simp [hi, l11, l14]
      clear q1 q2 q3
      subst hw8
      go_simp
      exact hK _ _ (hJ.step (by rw [hV]; rfl) (by rw [hWd]; simp [setL, l11, l14]; rfl))
    | 11, _ =>
      intro o ho L vals a w hs hi hcl hdl hJ K hK
      cases ho
      have e0 := hs.dep hJ 4 28 (.slice A m cap) (hdl 4 (by simp [waits9])) (by omega) rfl (by omega) (by rw [hV]; rfl)
      have e1 := hs.dep hJ 10 34 (.slice (some ⟨w1.heap.size, 0, none⟩) 1 1) (hdl 10 (by simp [waits9])) (by omega) rfl (by omega) (by rw [hV]; rfl)
      obtain ⟨q1, q2, q3⟩ := HLL.out L hcl
      have l10 : L 10 = true := hdl 10 (by simp [waits9])
      have l14 : L 14 = false := by
        cases h : L 14 with
        | false => rfl
        | true => rw [q3 h] at hi; cases hi
      have hw8 : w = w1.drew.alloc (.cells M 69) := by rw [hJ.world, hWd]; simp [l10, hi, l14]
      clear q1 q2 q3
      subst hw8
      rw [if_pos (by rfl)]
      refine wp_append_run (.tmp 28) (.tmp 34) 60 rfl _ _ _ _ (by show a.tmps.getD 28 undef = _; rw [Array.getD_eq_getD_getElem?]; exact e0) (by show a.tmps.getD 34 undef = _; rw [Array.getD_eq_getD_getElem?]; exact e1) HRUN.out ?_
      exact hK _ _ (hJ.step (by rw [hV]; rfl) (by rw [hWd]; simp [setL, l14]))
    | 12, _ =>
      intro o ho L vals a w hs hi hcl hdl hJ K hK
      cases ho
      have e0 := hs.dep hJ 0 24 (.pointer (some ⟨sb, 0, none⟩)) (hdl 0 (by simp [waits9])) (by omega) rfl (by omega) (by rw [hV]; rfl)
      go_simp
      exact hK _ _ (hJ.step (by rw [hV]; rfl) (by rw [hJ.world, hWd]; simp [setL]))
    | 13, _ =>
      intro o ho L vals a w hs hi hcl hdl hJ K hK
      cases ho
      have e0 := hs.dep hJ 12 36 (.pointer (some ⟨sb, 0, none⟩)) (hdl 12 (by simp [waits9])) (by omega) rfl (by omega) (by rw [hV]; rfl)
      go_simp
      exact hK _ _ (hJ.step (by rw [hV]; rfl) (by rw [hJ.world, hWd]; simp [setL]))
    | 14, _ =>
      intro o ho L vals a w hs hi hcl hdl hJ K hK
      cases ho
      have e0 := hs.dep hJ 11 35 (v') (hdl 11 (by simp [waits9])) (by omega) rfl (by omega) (by rw [hV]; rfl)
      have e1 := hs.dep hJ 13 37 (.pointer (some ⟨sb, 1, none⟩)) (hdl 13 (by simp [waits9])) (by omega) rfl (by omega) (by rw [hV]; rfl)
      have l11 : L 11 = true := hdl 11 (by simp [waits9])
      have hw8 : w = w2 := by rw [hJ.world, hWd]; simp [l11, hi]
      subst hw8
      have hgo := hK undef (w.setCell ⟨sb, 1, none⟩ v') (hJ.step (by rw [hV]; rfl) (by rw [hWd]; simp [setL]))
      rw [HV2.out] at e0 hgo
      go_simp
      exact hgo
  · intro vals a w hs hJ
    obtain ⟨ha, hw⟩ := hs.done rfl rfl (fun i j _ _ h => by omega) hJ
    have hw' : w = w2.setCell ⟨sb, 1, none⟩ v' := by rw [hw, hWd]; rfl
    subst ha
    subst hw'
    clear hM hall hz hZ0 hZ hMs hA hu hs8 hWd c1' hbl hw hs hJ hc2 hf2 c1 f1
    rw [hV]
    clear hV
    simp only [putAll, List.setIfInBounds_toArray, List.set_cons_zero, List.set_cons_succ, List.getD_cons_zero, List.getD_cons_succ, Nat.reduceAdd]
    go_wp2
    go_ret
    refine ⟨rfl, v', ?_⟩
    have hd1 := HT1.out.dev.drew
    exact (HT1.out.up ((Below.refl _ _).drew)).trans (hd1.appended ((Below.refl _ _).alloc (Nat.le_refl _) _) (by rw [HPV.out]; exact HGR2.out) k b HK1.out HBL.out HOWN2.out (by rw [HPV.out]; exact HLOC2.out))
end Go.Proofs.Ytpjdnbmeedcafaa
