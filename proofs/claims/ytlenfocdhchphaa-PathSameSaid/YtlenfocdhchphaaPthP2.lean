/-
  path.Parse. (Printed by wip/tools/pthp2.py.)
-/
import Derived.Test.YtlenfocdhchphaaPthP1
import Derived.Test.YtlenfocdhchphaaRegTail
import Derived.Test.YtlenfocdhchphaaPathC
namespace Go.Proofs.Ytlenfocdhchphaa
open Go.RowKit Go.Shelf
set_option maxRecDepth 100000
set_option linter.unusedVariables false
attribute [local go_sem] Oper.semAt_some

theorem goP_none : ∀ (a out : List (List UInt8)), (goP a out).2 ≠ 0 → (goP a out).1 = []
  | [], out, h => absurd rfl h
  | x :: a, out, h => by
    rw [goP] at h ⊢
    split
    · rename_i c
      rw [if_pos c] at h; exact goP_none a _ h
    · rename_i c
      rw [if_neg c] at h
      split
      · rename_i c
        rw [if_pos c] at h; exact goP_none a _ h
      · rename_i c
        rw [if_neg c] at h
        split
        · rfl
        · rename_i c
          rw [if_neg c] at h
          split
          · rfl
          · rename_i c
            rw [if_neg c] at h; exact goP_none a _ h
/-- what a piece does -/
theorem goP_one (x : List UInt8) (out : List (List UInt8)) : goP [x] out = if x = [] ∨ x = [46] then (out, 0) else if x = [46, 46] then (out.dropLast, 0) else if isT x = false then ([], 11) else if 8 ≤ out.length then ([], 16) else (out ++ [x], 0) := by
  rw [goP]; rfl
theorem two_bks {w : World} {a b : Nat} {t t' : TypeId} {x y : Value} (h : Bk w a t #[x]) (h' : Bk w b t' #[y]) (hne : a ≠ b) (u v : Value) :
    Bk ((w.setCell ⟨a, 0, none⟩ u).setCell ⟨b, 0, none⟩ v) a t #[u] ∧ Bk ((w.setCell ⟨a, 0, none⟩ u).setCell ⟨b, 0, none⟩ v) b t' #[v] :=
  ⟨(h.set_ 0 u).far (fun e => hne e) v, (h'.far (fun e => hne e.symm) u).set_ 0 v⟩

/-- what lies where the range begins -/
theorem pt_start (w : World) (S : ByteArray) (G : Value) (tf : TypeId) (w6 : World) (h6 : w6 = ((((w.alloc (.cells #[.slice none 0 0] 23)).alloc (.cells #[.int .i64 0] 24)).alloc (.cells #[.slice none 0 0] 23)).alloc (.cells #[G] tf)).alloc (.cells #[.string S] 9)) :
    Bk w6 w.heap.size 23 #[.slice none 0 0] ∧ Bk w6 (w.heap.size + 1) 24 #[.int .i64 0] ∧ Bk w6 (w.heap.size + 1 + 1) 23 #[.slice none 0 0] ∧ Bk w6 (w.heap.size + 1 + 1 + 1) tf #[G] ∧ Bk w6 (w.heap.size + 1 + 1 + 1 + 1) 9 #[.string S] ∧ Below w.heap.size w w6 ∧ w6.heap.size = w.heap.size + 1 + 1 + 1 + 1 + 1 := by
  subst h6
  have K0 := (Bk.new w 23 #[.slice none 0 0])
  have K1 := Bk.new (w.alloc (.cells #[.slice none 0 0] 23)) 24 #[.int .i64 0]
  have K2 := Bk.new ((w.alloc (.cells #[.slice none 0 0] 23)).alloc (.cells #[.int .i64 0] 24)) 23 #[.slice none 0 0]
  have K3 := Bk.new (((w.alloc (.cells #[.slice none 0 0] 23)).alloc (.cells #[.int .i64 0] 24)).alloc (.cells #[.slice none 0 0] 23)) tf #[G]
  have K4 := Bk.new ((((w.alloc (.cells #[.slice none 0 0] 23)).alloc (.cells #[.int .i64 0] 24)).alloc (.cells #[.slice none 0 0] 23)).alloc (.cells #[G] tf)) 9 #[.string S]
  simp only [World.alloc_size'] at K1 K2 K3 K4
  exact ⟨(((K0.alloc _).alloc _).alloc _).alloc _, ((K1.alloc _).alloc _).alloc _, (K2.alloc _).alloc _, K3.alloc _, K4,
    (((((Below.refl w.heap.size w).alloc (Nat.le_refl _) _).alloc (by simp) _).alloc (by simp; omega) _).alloc (by simp; omega) _).alloc (by simp; omega) _, by simp⟩

/-- ahead of each piece: no error so far, the names so far, the results' cells -/
def PtI (w w6 : World) (G : Value) (L : List (List UInt8)) (pre : List (Fin L.length)) (W : World) : Prop :=
  (goP (pickL L pre) []).2 = 0 ∧ (∃ v, Bk W (w.heap.size + 1 + 1) 23 #[v] ∧ W.ownsRow w.heap.size 9 1 v (goP (pickL L pre) []).1.length (strsV (goP (pickL L pre) []).1))
    ∧ Bk W w.heap.size 23 #[.slice none 0 0] ∧ Bk W (w.heap.size + 1) 24 #[.int .i64 0] ∧ Bk W (w.heap.size + 1 + 1 + 1) 44 #[G] ∧ Below w.heap.size w W ∧ w6.heap.size ≤ W.heap.size
/-- where a piece is an error -/
def PtX (w : World) (L : List (List UInt8)) (co : Code) (pre : List (Fin L.length)) (W : World) : Prop :=
  (co = .ret ∧ (goP (pickL L pre) []).2 ≠ 0) ∧ Bk W w.heap.size 23 #[.slice none 0 0] ∧ Bk W (w.heap.size + 1) 24 #[.int .i64 (goP (pickL L pre) []).2] ∧ Below w.heap.size w W
theorem ptI_own {w w6 : World} (G : Value) (L : List (List UInt8)) (h6 : w.heap.size ≤ w6.heap.size) : OwnFrom w6.heap.size (fun pre W => PtI w w6 G L pre W) := by
  unfold PtI
  exact OwnFrom.and (ownFrom_pure _ _) (OwnFrom.and (Own.from (owns_held _ _ _ _ _ (fun v => #[v]) _ _) _) (OwnFrom.and (Own.from (owns_bk _ _ _) _) (OwnFrom.and (Own.from (owns_bk _ _ _) _) (OwnFrom.and (Own.from (owns_bk _ _ _) _) (OwnFrom.and (ownFrom_below (Nat.le_refl _) h6) (fun _ _ _ _ hs hg _ => Nat.le_trans hs hg.size))))))
theorem ptX_own {w w6 : World} (L : List (List UInt8)) (co : Code) (h6 : w.heap.size ≤ w6.heap.size) : OwnFrom w6.heap.size (fun pre W => PtX w L co pre W) := by
  unfold PtX
  exact OwnFrom.and (ownFrom_pure _ _) (OwnFrom.and (Own.from (owns_bk _ _ _) _) (OwnFrom.and (Own.from (owns_bk' _ _ (fun pre => #[.int .i64 (goP (pickL L pre) []).2])) _) (ownFrom_below (Nat.le_refl _) h6)))
theorem PtI.up {w w6 W W' : World} {G : Value} {L : List (List UInt8)} {pre : List (Fin L.length)} (h : PtI w w6 G L pre W) (hb : Below W.heap.size W W') : PtI w w6 G L pre W' := by
  obtain ⟨h1, ⟨v, h2, h3⟩, h4, h5, h6, h7, h8⟩ := h
  exact ⟨h1, ⟨v, h2.below hb h2.lt, own_upP h3 hb⟩, h4.below hb h4.lt, h5.below hb h5.lt, h6.below hb h6.lt, h7.trans (hb.mono h7.size), Nat.le_trans h8 hb.size⟩
theorem PtI.stay {w w6 W : World} {G : Value} {L : List (List UInt8)} {pre : List (Fin L.length)} {k : Fin L.length} {out : List (List UInt8)} (h : PtI w w6 G L pre W) (h0 : (goP (pickL L pre) []).1 = out) (hs : goP (pickL L (pre ++ [k])) [] = (out, 0)) : PtI w w6 G L (pre ++ [k]) W := by
  unfold PtI at h ⊢
  rw [hs]
  rw [h0] at h
  exact ⟨rfl, h.2⟩
theorem PtI.put {w w6 W : World} {G v' : Value} {L : List (List UInt8)} {pre : List (Fin L.length)} {k : Fin L.length} {out : List (List UInt8)} (h : PtI w w6 G L pre W) (hs : goP (pickL L (pre ++ [k])) [] = (out, 0)) (hr : W.ownsRow w.heap.size 9 1 v' out.length (strsV out)) :
    PtI w w6 G L (pre ++ [k]) (W.setCell ⟨w.heap.size + 1 + 1, 0, none⟩ v') := by
  obtain ⟨h1, ⟨v, h2, h3⟩, h4, h5, h6, h7, h8⟩ := h
  unfold PtI
  rw [hs]
  exact ⟨rfl, ⟨v', h2.set_ 0 v', own_apart h2 (by decide) hr⟩, h4.far (p := ⟨w.heap.size + 1 + 1, 0, none⟩) (by simp; omega) _, h5.far (p := ⟨w.heap.size + 1 + 1, 0, none⟩) (by simp) _, h6.far (p := ⟨w.heap.size + 1 + 1, 0, none⟩) (by simp) _, h7.setCell (p := ⟨w.heap.size + 1 + 1, 0, none⟩) (by simp; omega) _, by rw [World.setCell_size']; exact h8⟩
theorem PtI.add {w w6 W w7 : World} {G v v' : Value} {L : List (List UInt8)} {pre : List (Fin L.length)} {k : Fin L.length} {m : Nat} {xs : List Value} {out : List (List UInt8)} (h : PtI w w6 G L pre W) (hv : Bk W (w.heap.size + 1 + 1) 23 #[v]) (hrow : W.ownsRow w.heap.size 9 1 v m xs)
    (hs : goP (pickL L (pre ++ [k])) [] = (out, 0)) (hown' : w7.ownsRow w.heap.size 9 1 v' out.length (strsV out)) (hgrow : W.grownBy w7 v.ownBlock) :
    KeepsOthers W (w7.setCell ⟨w.heap.size + 1 + 1, 0, none⟩ v') ∧ Below w.heap.size W (w7.setCell ⟨w.heap.size + 1 + 1, 0, none⟩ v') ∧ PtI w w6 G L (pre ++ [k]) (w7.setCell ⟨w.heap.size + 1 + 1, 0, none⟩ v') ∧ Bk w7 (w.heap.size + 1 + 1) 23 #[v] := by
  obtain ⟨h1, -, h4, h5, h6, h7, h8⟩ := h
  obtain ⟨hq, hq', hown2, hko, hbl, hfar⟩ := app_stays (o := 0) (u := v') hv (by decide) hrow h7.size (by omega) hown' hgrow
  refine ⟨hko, hbl, ?_, hq⟩
  unfold PtI
  rw [hs]
  exact ⟨rfl, ⟨v', hq', hown2⟩, hfar _ _ _ h4 (by decide) (by omega), hfar _ _ _ h5 (by decide) (by omega), hfar _ _ _ h6 (by decide) (by omega), h7.trans hbl, Nat.le_trans h8 hbl.size⟩
theorem PtI.stop {w w6 W : World} {G : Value} {L : List (List UInt8)} {pre : List (Fin L.length)} {k : Fin L.length} {q : Int} (h : PtI w w6 G L pre W) (hs : goP (pickL L (pre ++ [k])) [] = ([], q)) (hq : q ≠ 0) :
    KeepsOthers W ((W.setCell ⟨w.heap.size, 0, none⟩ (.slice none 0 0)).setCell ⟨w.heap.size + 1, 0, none⟩ (.int .i64 q)) ∧ PtX w L .ret (pre ++ [k]) ((W.setCell ⟨w.heap.size, 0, none⟩ (.slice none 0 0)).setCell ⟨w.heap.size + 1, 0, none⟩ (.int .i64 q)) := by
  obtain ⟨h1, -, h4, h5, h6, h7, h8⟩ := h
  obtain ⟨k0, k1⟩ := two_bks h4 h5 (by omega) (.slice none 0 0) (.int .i64 q)
  refine ⟨(KeepsOthers.setCell _ _ _).trans (KeepsOthers.setCell _ _ _), ?_⟩
  unfold PtX
  rw [hs]
  exact ⟨⟨rfl, hq⟩, k0, k1, (h7.setCell (p := ⟨w.heap.size, 0, none⟩) (Nat.le_refl _) _).setCell (p := ⟨w.heap.size + 1, 0, none⟩) (by simp) _⟩

set_option maxHeartbeats 1000000 in
theorem parse_early (s : List UInt8) (w : World) (q : Int) (hl : s.length ≤ 10000) (h : (Lib.hasPrefix s [47] = false ∧ q = 11) ∨ (Lib.hasPrefix s [47] = true ∧ 200 < s.length ∧ q = 16)) :
    Calls Try.prog 8 #[.string (str s)] w fun e w' => e = .returned (.tuple #[.slice none 0 0, .int .i64 q]) ∧ Below w.heap.size w w' := by
  have HX : Hid (∀ w' : World, Calls Try.prog 19 #[.string (str s), .string ⟨#[47]⟩] w' fun e w'' => e = .returned (.bool (Lib.hasPrefix s [47])) ∧ w' = w'') := fun w' => prefix_any s [47] w'
  have hsz := str_size s
  have HB := Lib.hid (((Below.refl w.heap.size w).alloc (Nat.le_refl _) (.cells #[.slice none 0 0] 23)).alloc (by simp) (.cells #[.int .i64 q] 24))
  obtain ⟨S, hS⟩ : ∃ S, str s = S := ⟨_, rfl⟩
  obtain ⟨n, hn⟩ : ∃ n, s.length = n := ⟨_, rfl⟩
  rw [hS] at HX hsz
  rw [hn] at hsz h hl
  rw [hS]
  clear hS hn
  rcases h with ⟨h1, rfl⟩ | ⟨h1, h2, rfl⟩
  · rw [h1] at HX
    clear h1
    go_enter Try.func8, Try.ntmps8
    go_wp2_with fail
    refine (HX.out _).mono ?_
    rintro e w1 ⟨rfl, rfl⟩
    go_wp2
    refine bodyPost_ret (v := .tuple #[.slice none 0 0, .int .i64 11]) (by simp [results, Try.results8, go_sem]) rfl ⟨rfl, HB.out⟩
  · rw [h1] at HX
    have h2' : (200 : Int) < (n : Int) := by omega
    clear h1
    go_enter Try.func8, Try.ntmps8
    go_wp2_with fail
    refine (HX.out _).mono ?_
    rintro e w1 ⟨rfl, rfl⟩
    go_wp2
    refine bodyPost_ret (v := .tuple #[.slice none 0 0, .int .i64 16]) (by simp [results, Try.results8, go_sem]) rfl ⟨rfl, HB.out⟩

def slotPT (i : Nat) : Nat := 25 + i
def waitPT : Nat → List Nat
  | 2 => [1]
  | 3 => [2]
  | 4 => [0, 3]
  | _ => []
def leavePT (X : ByteArray) (V : Value) : Nat → Value → World → Prop
  | 0, v, _ => v = V
  | 1, v, _ => v = .string X
  | 2, v, _ => v = .string X
  | 3, v, w => ∃ g, v = .slice (some ⟨g, 0, none⟩) 1 1 ∧ Bk w g 9 #[.string X]
  | _, _, _ => True
set_option maxHeartbeats 8000000 in
theorem parse_walk (t : List UInt8) (w : World) (hl : t.length < 200) :
    Calls Try.prog 8 #[.string (str (47 :: t))] w fun e w' => ∃ v, e = .returned (.tuple #[v, .int .i64 (goP (cutS t) []).2]) ∧ StrW w' (goP (cutS t) []).1 v ∧ Below w.heap.size w w' := by
  obtain ⟨i0, hi, hz0, hz1, hz2⟩ := info_parts info_strP
  have hi := Lib.hid hi
  have hz0 := Lib.hid hz0
  have hz1 := Lib.hid hz1
  have hz2 := Lib.hid hz2
  have HX : Hid (∀ w' : World, Calls Try.prog 19 #[.string (str (47 :: t)), .string ⟨#[47]⟩] w' fun e w'' => e = .returned (.bool true) ∧ w' = w'') := fun w' => by
    have := prefix_any (47 :: t) [47] w'
    rwa [show Lib.hasPrefix (47 :: t) [47] = true by simp [Lib.hasPrefix]] at this
  have hsz : (str (47 :: t)).size = t.length + 1 := by rw [str_size]; rfl
  obtain ⟨L, hL⟩ : ∃ L, cutS t = L := ⟨_, rfl⟩
  have HST := Lib.hid fun (B1 : Nat) (wx : World) (h : Bk wx B1 9 #[.string (str (47 :: t))]) => comps_stops 4 B1 w.heap.size t L wx (by omega) (by omega) hL h
  have HLX : Hid (∀ x ∈ L, x.length ≤ 200) := fun x hx => by rw [← hL] at hx; have := cutS_len_le t.length t (Nat.le_refl _) x hx; omega
  obtain ⟨S, hS⟩ : ∃ S, str (47 :: t) = S := ⟨_, rfl⟩
  obtain ⟨n1, hn1⟩ : ∃ n1, t.length = n1 := ⟨_, rfl⟩
  rw [hL]
  rw [hS] at HX hsz HST ⊢
  rw [hn1] at hsz hl
  have hno : ¬ (200 : Int) < ((n1 + 1 : Nat) : Int) := by omega
  clear hL hS hn1
  have hf3 := (Bk.new (((w.alloc (.cells #[.slice none 0 0] 23)).alloc (.cells #[.int .i64 0] 24)).alloc (.cells #[.slice none 0 0] 23)) 44 #[.nilFunc])
  simp only [World.alloc_size'] at hf3
  have hst : ∀ G : Value, G.oneCell' = true → (store ⟨w.heap.size + 1 + 1 + 1, 0, none⟩ G).run Try.prog ((((w.alloc (.cells #[.slice none 0 0] 23)).alloc (.cells #[.int .i64 0] 24)).alloc (.cells #[.slice none 0 0] 23)).alloc (.cells #[.nilFunc] 44)) = .ok () (((((w.alloc (.cells #[.slice none 0 0] 23)).alloc (.cells #[.int .i64 0] 24)).alloc (.cells #[.slice none 0 0] 23)).alloc (.cells #[.nilFunc] 44)).setCell ⟨w.heap.size + 1 + 1 + 1, 0, none⟩ G) := fun G hG => by
    rw [run_store _ _ _ _ _ hG, hf3.cell 0]
    simp [hf3.free 0]
  have hst := hst (.func (.func 20) #[] #[.pointer (some ⟨w.heap.size + 1 + 1, 0, none⟩)]) rfl
  clear hf3
  refine (callsIn_wide (n := 5)).1 ?_
  refine callsIn_of_wp_marks Try.func8 rfl trivial ?_ rfl
  simp only [Try.ntmps8, List.size_toArray, List.length_cons, List.length_nil, Nat.reduceAdd, Nat.reduceSub, Array.replicate_succ, Array.replicate_zero, List.push_toArray, List.append_toArray, List.nil_append, List.cons_append]
  refine wpIn_wide.2 ?_
  go_wp2_with fail
  refine (HX.out _).mono ?_
  rintro e w1 ⟨rfl, rfl⟩
  go_wp2_with fail
  refine (comps_any S _).mono ?_
  rintro e w6 ⟨rfl, hw6⟩
  obtain ⟨k0, k1, k2, k3, k4, hb, hz6⟩ := pt_start w S _ _ w6 hw6
  have K0 := Lib.hid k0
  have K1 := Lib.hid k1
  have K2 := Lib.hid k2
  have K3 := Lib.hid k3
  have K4 := Lib.hid k4
  have HB6 := Lib.hid hb
  clear hw6 k0 k1 k2 k3 k4 hb hst
  simp only [World.alloc_size']
  have HHW : Hid (w.heap.size ≤ w6.heap.size) := HB6.out.size
  obtain ⟨G, hG⟩ : ∃ G, Value.func (.func 20) #[] #[.pointer (some ⟨w.heap.size + 1 + 1, 0, none⟩)] = G := ⟨_, rfl⟩
  have HG := Lib.hid hG
  rw [hG] at K3
  go_wp2_with fail
  refine (wpIn_wide (n := 5)).1 ?_
  refine wpIn_rangeFunc_ownH rfl (by omega) (gf := 32) (lb := #[.pointer (some ⟨w.heap.size + 1 + 1 + 1 + 1, 0, none⟩)]) rfl trivial (enters_of Try.func32 (by kernel_rfl) rfl)
    (HST.out _ w6 K4.out) belowK_t (belowK_b HHW.out) (Below.refl _ _) (fun _ => rfl)
    (fun pre W => PtI w w6 G L pre W) (fun co pre W => PtX w L co pre W) (ptI_own G L HHW.out) (fun co => ptX_own L co HHW.out)
    ⟨rfl, ⟨_, K2.out, World.ownsRow_nil _ _ _ _⟩, K0.out, K1.out, K3.out, HB6.out, Nat.le_refl _⟩
    (fun k a' _ => a' = { tmps := #[.string S, undef, .pointer (some ⟨w.heap.size, 0, none⟩), .pointer (some ⟨w.heap.size + 1, 0, none⟩), .pointer (some ⟨w.heap.size + 1 + 1, 0, none⟩), .pointer (some ⟨w.heap.size + 1 + 1 + 1, 0, none⟩), .string (str (L[k.1]'k.2)), undef, .string S, .bool true, .bool false, .string S, .int .i64 ((n1 : Int) + 1), .bool (decide (200 < (n1 : Int) + 1)), G, .string S,
      .func (.func 32) #[] #[.pointer (some ⟨w.heap.size + 1 + 1 + 1 + 1, 0, none⟩)], .string (str (L[k.1]'k.2)), undef, undef, undef, undef, undef, undef, undef, undef, undef, undef, undef, undef, undef, undef, undef, undef, undef, undef, undef, undef, undef, undef, undef, undef], defers := [] })
    (fun k a' => ownFrom_pure _ _) ?assign ?body ?done ?stop
  case assign =>
    intro l0 pre k W K hi hK
    obtain ⟨X, hX⟩ : ∃ X, str (L[k.1]'k.2) = X := ⟨_, rfl⟩
    simp only [ptF, hX] at hK ⊢
    gi_wp2
    exact hK _ _ (keeps_up (Below.refl _ _)) (Below.refl _ _) hi rfl
  case body =>
    rintro l0 pre k a' W hl0 - hI rfl hlt
    obtain ⟨x, hx⟩ : ∃ x, L[k.1]'k.2 = x := ⟨_, rfl⟩
    have hxl := HLX.out x (by rw [← hx]; exact List.getElem_mem _)
    have hsn : goP (pickL L (pre ++ [k])) [] = goP [x] (goP (pickL L pre) []).1 := by rw [pickL_snoc, hx]; exact goP_snoc _ _ hI.1
    have hbd := (goP_bd (pickL L pre) [] (by simp) (by simp)).1
    have HI := Lib.hid hI
    obtain ⟨hz, ⟨v, hv, hrow⟩, hk0, hk1, hk3, hbw, h6⟩ := hI
    obtain ⟨out, hout⟩ : ∃ out, (goP (pickL L pre) []).1 = out := ⟨_, rfl⟩
    obtain ⟨m, hm⟩ : ∃ m, out.length = m := ⟨_, rfl⟩
    rw [hout] at hsn hrow hbd
    rw [goP_one] at hsn
    rw [hm] at hrow hbd hsn
    obtain ⟨A, c, hve, hcv, hcm⟩ := own_len hrow
    subst hve
    simp only [hx]
    have hst : (str x).toList = x := str_toList _
    have HCK := Lib.hid fun (q : Int) (hq : q = if isT x = false then 11 else if 8 ≤ m then 16 else 0) => check_any x _ A m c q W (by omega) hbd hv hq
    have HCL := Lib.hid fun w' => clone_any x w' (by omega)
    have HSV : Hid (strsV (out ++ [x]) = strsV out ++ [.string (str x)]) := by show _ = _; rw [strsV_append]; rfl
    obtain ⟨X, hX⟩ : ∃ X, str x = X := ⟨_, rfl⟩
    rw [hX] at hst HCK HCL HSV
    simp only [hX]
    have c2 := hv.cell 0
    have f2 := hv.free 0
    have c3 := hk3.cell 0
    have HV := Lib.hid hv
    have HROW := Lib.hid hrow
    have HSN := Lib.hid hsn
    have HOUT := Lib.hid hout
    have HM := Lib.hid hm
    have HBW := Lib.hid hbw
    clear hv hrow hsn hout hm hbw hX hk0 hk1 hk3 hz h6 hx hxl
    by_cases a1 : x = []
    · have hs := HSN.out
      rw [if_pos (.inl a1)] at hs
      rw [a1] at hst
      have HP := Lib.hid (HI.out.stay HOUT.out hs)
      clear hs a1 HCK HCL HSV
      gi_wp2_with fail
      exact ⟨keeps_up (Below.refl _ _), Below.refl _ _, HP.out⟩
    · by_cases a2 : x = [46]
      · have hs := HSN.out
        rw [if_pos (.inr a2)] at hs
        rw [a2] at hst
        have HP := Lib.hid (HI.out.stay HOUT.out hs)
        clear hs a1 a2 HCK HCL HSV
        gi_wp2_with fail
        exact ⟨keeps_up (Below.refl _ _), Below.refl _ _, HP.out⟩
      · by_cases a3 : x = [46, 46]
        · have hs := HSN.out
          rw [if_neg (fun h => h.elim a1 a2), if_pos a3] at hs
          rw [a3] at hst
          have HS := Lib.hid hs
          clear hs a1 a2 a3 HCK HCL HSV
          rcases Nat.eq_zero_or_pos m with h0 | h0
          · have HD : Hid (out.dropLast = []) := by show _ = _; rw [List.length_eq_zero_iff.1 (HM.out.trans h0)]; rfl
            subst h0
            have hwn : A = none ∧ c = 0 ∨ ∃ g, A = some ⟨g, 0, none⟩ := by
              rcases HROW.out.2 with ⟨h, _⟩ | ⟨g, cap, cur, h, _⟩
              · injection h with h1 h2 h3; exact .inl ⟨h1, h3⟩
              · injection h with h1 h2 h3; exact .inr ⟨g, h1⟩
            rcases hwn with ⟨rfl, rfl⟩ | ⟨g, rfl⟩
            · have HP := Lib.hid (HI.out.put (v' := .slice none 0 0) HS.out (by rw [HD.out]; exact World.ownsRow_nil _ _ _ _))
              gi_wp2_with fail
              exact ⟨(KeepsOthers.setCell _ _ _).from _, (Below.refl _ _).setCell (p := ⟨w.heap.size + 1 + 1, 0, none⟩) (by simp; omega) _, HP.out⟩
            · have how := own_cut (m := 0) HROW.out (by omega)
              have HP := Lib.hid (HI.out.put (v' := .slice (some ⟨g, 0, none⟩) 0 c) HS.out (by rw [HD.out]; exact how))
              clear how
              gi_wp2_with fail
              exact ⟨(KeepsOthers.setCell _ _ _).from _, (Below.refl _ _).setCell (p := ⟨w.heap.size + 1 + 1, 0, none⟩) (by simp; omega) _, HP.out⟩
          · obtain ⟨j, rfl⟩ : ∃ j, m = j + 1 := ⟨m - 1, by omega⟩
            obtain ⟨g2, c3', hg2, -, -, -, -, -⟩ := own_some HROW.out (by omega)
            injection hg2 with hg2 _ hg3
            subst hg2 hg3
            have how := own_cut (m := j) HROW.out (by omega)
            have HDL : Hid (out.dropLast.length = j) := by show _ = _; rw [List.length_dropLast, HM.out]; rfl
            have HP := Lib.hid (HI.out.put (v' := .slice (some ⟨g2, 0, none⟩) j c) HS.out (by rw [HDL.out, List.dropLast_eq_take, strsV_take, HM.out]; exact how))
            have hkj : ((j + 1 : Nat) : Int) - 1 = (j : Int) := by omega
            have hmx : max (j : Int) 0 = (j : Int) := by omega
            have hjc : (j : Int) ≤ (c : Int) := by omega
            have hcz : (c : Int) ≤ 9223372036854775807 := by unfold maxLen at hcm; omega
            clear how h0
            gi_wp2_with fail
            exact ⟨(KeepsOthers.setCell _ _ _).from _, (Below.refl _ _).setCell (p := ⟨w.heap.size + 1 + 1, 0, none⟩) (by simp; omega) _, HP.out⟩
        · have hs := HSN.out
          rw [if_neg (fun h => h.elim a1 a2), if_neg a3] at hs
          have z1 : x.isEmpty = false := by cases x with | nil => exact absurd rfl a1 | cons => rfl
          have z2 : (x == [46]) = false := beq_false_of_ne a2
          have z3 : (x == [46, 46]) = false := beq_false_of_ne a3
          have hg := HG.out
          subst hg
          obtain ⟨b, hb'⟩ : ∃ b, isT x = b := ⟨_, rfl⟩
          rw [hb'] at hs HCK
          clear a1 a2 a3 hb'
          by_cases herr : b = false ∨ 8 ≤ m
          · obtain ⟨q, hq, hs', hqz⟩ : ∃ q : Int, (q = if b = false then 11 else if 8 ≤ m then 16 else 0) ∧ goP (pickL L (pre ++ [k])) [] = ([], q) ∧ q ≠ 0 := by
              by_cases hbf : b = false
              · rw [if_pos hbf] at hs; exact ⟨11, by rw [if_pos hbf], hs, by decide⟩
              · rw [if_neg hbf] at hs
                rw [if_pos (herr.resolve_left hbf)] at hs
                exact ⟨16, by rw [if_neg hbf, if_pos (herr.resolve_left hbf)], hs, by decide⟩
            have HC := Lib.hid (HCK.out q hq)
            have HS := Lib.hid hs'
            have HQ := Lib.hid hqz
            have hq0 : (q != 0) = true := by simpa using hqz
            clear hs hs' hq hqz herr HCK HCL HSV
            gi_wp2_with fail
            refine ⟨trivial, (callsIn_wide.2 HC.out).mono ?_⟩
            rintro e wq ⟨rfl, hb⟩
            have HIq := Lib.hid (HI.out.up hb)
            have HB := Lib.hid hb
            have HP := Lib.hid (HIq.out.stop HS.out HQ.out)
            have d0 := HIq.out.2.2.1.cell 0
            have e0 := HIq.out.2.2.1.free 0
            have d1 := (HIq.out.2.2.2.1.far (p := ⟨w.heap.size, 0, none⟩) (by simp) (.slice none 0 0)).cell 0
            have e1 := (HIq.out.2.2.2.1.far (p := ⟨w.heap.size, 0, none⟩) (by simp) (.slice none 0 0)).free 0
            clear hb c2 f2 c3
            gi_wp2_with fail
            exact ⟨(keeps_up HB.out).trans (HP.out.1.from _), HP.out.2⟩
          · have hbt : b = true := by cases b with | true => rfl | false => exact absurd (.inl rfl) herr
            subst hbt
            have h8 : ¬ 8 ≤ m := fun h => herr (.inr h)
            rw [if_neg (by decide), if_neg h8] at hs
            have HC := Lib.hid (HCK.out 0 (by rw [if_neg (by decide), if_neg h8]))
            have HS := Lib.hid hs
            clear hs herr HCK
            gi_wp2_with fail
            refine ⟨trivial, (callsIn_wide.2 HC.out).mono ?_⟩
            rintro e wq ⟨rfl, hb⟩
            have HIq := Lib.hid (HI.out.up hb)
            have HB := Lib.hid hb
            have HK2 := Lib.hid (HV.out.below hb HV.out.lt)
            have HRQ := Lib.hid (own_upP HROW.out hb)
            clear hb c2 f2 c3 HV HROW
            gi_wp2_with fail
            refine wpIn_region_tail (by kernel_rfl) 4 42 slotPT waitPT (leavePT X (.slice A m c)) rfl
              (by kernel_rfl) (fun i v w w' _ hb h => by unfold leavePT at *; split at h <;> first | exact h | (obtain ⟨g, h1, h2⟩ := h; exact ⟨g, h1, h2.below hb h2.lt⟩)) ?_ ?_
            · intro i hi
              match i, hi with
              | 0, _ =>
                intro o ho a wc hk hb hd K hK
                cases ho
                have e0 := hk.rest 4 (.pointer (some ⟨w.heap.size + 1 + 1, 0, none⟩)) (by omega) (by kernel_rfl) rfl
                rw [Array.getD_eq_getD_getElem?] at e0
                have hc := (HK2.out.below hb HK2.out.lt).cell 0
                go_simp
                exact hK _ _ (Below.refl _ _) rfl
              | 1, _ =>
                intro o ho a wc hk hb hd K hK
                cases ho
                have e0 := hk.rest 6 (.string X) (by omega) (by kernel_rfl) rfl
                rw [Array.getD_eq_getD_getElem?] at e0
                go_simp
                exact hK _ _ (Below.refl _ _) rfl
              | 2, _ =>
                intro o ho a wc hk hb hd K hK
                cases ho
                have e0 := hd 1 (by simp [waitPT])
                simp only [leavePT, slotPT, Nat.reduceAdd, Array.getD_eq_getD_getElem?] at e0
                go_simp
                refine ⟨trivial, (callsIn_wide.2 (HCL.out _)).mono ?_⟩
                rintro e w5 ⟨rfl, hb5⟩
                exact hK _ _ hb5 rfl
              | 3, _ =>
                intro o ho a wc hk hb hd K hK
                cases ho
                have e0 := hd 2 (by simp [waitPT])
                simp only [leavePT, slotPT, Nat.reduceAdd, Array.getD_eq_getD_getElem?] at e0
                go_simp
                exact hK _ _ ((Below.refl _ _).alloc (Nat.le_refl _) _) ⟨_, rfl, Bk.new _ _ _⟩
              | _ + 4, h => exact absurd h (by omega)
            · intro vals w5 hb hR
              have v0 := hR 0 (by omega)
              have v1 := hR 1 (by omega)
              have v2 := hR 2 (by omega)
              have v3 := hR 3 (by omega)
              simp only [leavePT] at v0 v1 v2 v3
              clear hR
              simp only [putAll, slotPT, Nat.reduceAdd, List.setIfInBounds_toArray, List.set_cons_zero, List.set_cons_succ, List.drop_succ_cons, List.drop_zero, v0, v1, v2]
              clear v0 v1 v2
              obtain ⟨gx, e3, hbk⟩ := v3
              rw [e3]
              have HI5 := Lib.hid (HIq.out.up hb)
              have HK5 := Lib.hid (HK2.out.below hb HK2.out.lt)
              have HR5 := Lib.hid (own_upP HRQ.out hb)
              have HB5 := Lib.hid hb
              have HC5 : Hid (∀ (j : Nat) (u : Value), [Value.string X][j]? = some u → w5.cell? (Addr.add ⟨gx, 0, none⟩ j) = some u) := fun j u hu => by
                obtain ⟨ad, e, _, hc⟩ := Rd.bk hbk j u (by simpa using hu); cases e; exact hc
              have HZ5 : Hid (w.heap.size ≤ w5.heap.size) := HI5.out.2.2.2.2.2.1.size
              clear hb hbk e3
              gi_wp2_with (gi_at_builtin; refine wpListIn_append_own _ rfl _ _ 23 rfl w.heap.size 9 i0 (.string ByteArray.empty) 1 16 Try.underlying23 hi.out hz0.out hz1.out hz2.out rfl (by decide) _ _ _ rfl HR5.out ⟨gx, 0, none⟩ 1 1 [.string X] rfl rfl HC5.out ?c2 ?c3 ?c4 ?c5 ?_)
              case c2 => first | exact rfl | (intro u hu; simp only [List.mem_cons, List.not_mem_nil, or_false] at hu; subst hu; rfl)
              case c3 => unfold maxLen; omega
              case c4 => omega
              case c5 => exact HZ5.out
              intro v' w7 hown' hgrow hne
              have hown7 : w7.ownsRow w.heap.size 9 1 v' (out ++ [x]).length (strsV (out ++ [x])) := by
                rw [HSV.out, List.length_append, HM.out]; exact hown'
              obtain ⟨hko, hbl, hpi, hbq⟩ := HI5.out.add HK5.out HR5.out HS.out hown7 hgrow
              have q2 := hbq.cell 0
              have qf := hbq.free 0
              have HP := Lib.hid (And.intro hko (And.intro hbl hpi))
              obtain ⟨g', cap', rfl⟩ := ownsRow_succ hown'
              clear hown' hown7 hgrow hne hko hbl hpi hbq
              gi_wp2_with fail
              exact ⟨((keeps_up HB.out).trans (keeps_up HB5.out)).trans (HP.out.1.from _), ((HB.out.mono HBW.out.size).trans (HB5.out.mono (Nat.le_trans HBW.out.size HB.out.size))).trans HP.out.2.1, HP.out.2.2⟩
  case done =>
    rintro D xs W hD rfl hI hK
    obtain ⟨hz, ⟨v, hv, hrow⟩, hk0, hk1, hk3, hbw, -⟩ := hI
    rw [pickL_all] at hz hrow
    obtain ⟨A, c, hve, hcv, hcm⟩ := own_len hrow
    subst hve
    obtain ⟨m, hm⟩ : ∃ m, (goP L []).1.length = m := ⟨_, rfl⟩
    rw [hm] at hv hrow hcv
    have c2 := hv.cell 0
    have d0 := hk0.cell 0
    have e0 := hk0.free 0
    have d1 := (hk1.far (p := ⟨w.heap.size, 0, none⟩) (by simp) (.slice A m c)).cell 0
    have e1 := (hk1.far (p := ⟨w.heap.size, 0, none⟩) (by simp) (.slice A m c)).free 0
    have HK' := Lib.hid (((KeepsOthers.setCell W ⟨w.heap.size, 0, none⟩ (.slice A m c)).trans (KeepsOthers.setCell _ ⟨w.heap.size + 1, 0, none⟩ (.int .i64 0))).same D _ hK rfl)
    have HKK := Lib.hid (two_bks hk0 hk1 (by omega) (.slice A m c) (.int .i64 0))
    have HOW := Lib.hid (own_apart (o := 0) (u := .int .i64 0) (hk1.far (p := ⟨w.heap.size, 0, none⟩) (by simp) (.slice A m c)) (by decide) (own_apart (o := 0) (u := .slice A m c) hk0 (by decide) hrow))
    have HBW := Lib.hid ((hbw.setCell (p := ⟨w.heap.size, 0, none⟩) (Nat.le_refl _) (.slice A m c)).setCell (p := ⟨w.heap.size + 1, 0, none⟩) (by simp) (.int .i64 0))
    have HZ := Lib.hid hz
    clear hz hv hrow hk0 hk1 hk3 hbw hm hK
    go_wp2
    refine ⟨by simp, .inl ⟨_, _, rfl, run_takeDeferred HK'.out, ?_⟩⟩
    have r0 := (bk_putObj HKK.out.1 HK'.out rfl (.deferred none)).cell 0
    have r1 := (bk_putObj HKK.out.2 HK'.out rfl (.deferred none)).cell 0
    refine ⟨.tuple #[.slice A m c, .int .i64 0], ?_, _, (by rw [HZ.out]), StrW.own (ownsRow_putObj HOW.out (.deferred none) HK'.out rfl), HBW.out.trans (belowK_b (w := w) (Nat.le_refl _) _ D _ _ (by have := HHW.out; omega) HK'.out rfl rfl)⟩
    simp [results, Try.f8, go_sem, r0, r1]
  case stop =>
    rintro D co pre W hD ⟨kk, rfl⟩ ⟨⟨rfl, hne⟩, hk0, hk1, hbw⟩ hK
    rw [pickL_take] at hne hk1
    have he := goP_err (L.take kk) (L.drop kk) [] hne
    rw [List.take_append_drop] at he
    have hn1 := goP_none _ _ hne
    rw [← he] at hn1 hk1
    obtain ⟨q, hq⟩ : ∃ q, (goP L []).2 = q := ⟨_, rfl⟩
    rw [hq] at hk1
    have HQ := Lib.hid hq
    have HN := Lib.hid hn1
    clear hq hn1 he hne
    refine wpIn_wide.2 ?_
    go_wp2
    refine ⟨by simp, .inl ⟨_, _, rfl, run_takeDeferred hK, ?_⟩⟩
    have r0 := (bk_putObj hk0 hK rfl (.deferred none)).cell 0
    have r1 := (bk_putObj hk1 hK rfl (.deferred none)).cell 0
    refine ⟨.tuple #[.slice none 0 0, .int .i64 q], ?_, _, (by rw [HQ.out]), (by rw [HN.out]; exact StrW.nil_ _), hbw.trans (belowK_b (w := w) (Nat.le_refl _) _ D _ _ (by have := HHW.out; omega) hK rfl rfl)⟩
    simp [results, Try.f8, go_sem, r0, r1]
end Go.Proofs.Ytlenfocdhchphaa
