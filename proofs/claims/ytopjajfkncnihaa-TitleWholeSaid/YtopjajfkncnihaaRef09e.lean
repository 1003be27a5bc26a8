/-
  What the document's answers of layer 9 are: Fit.
-/
import Derived.Test.YtopjajfkncnihaaRef09f
namespace Go.Proofs.Ytopjajfkncnihaa
open Go.RowKit
set_option maxRecDepth 100000
set_option linter.unusedVariables false

set_option maxHeartbeats 1000000 in
theorem refFit_any (l : List UInt8) (w : World) (hl : l.length ≤ 4398046511100) :
    Calls Try.prog 23 #[.string (str l)] w fun e w' => e = .returned (.string (str (fitT l))) ∧ Below w.heap.size w w' := by
  have HC := Lib.hid (refCut_any l w (by omega))
  have hcl : (cutT l).length ≤ 24 := (cutT_is l).2.2
  have HI := Lib.hid fun w' => refIs_any (cutT l) w' (by omega)
  have HC2 := Lib.hid fun w' => refCut_any (120 :: cutT l) w' (by simp; omega)
  have hx : (⟨#[120]⟩ : ByteArray) ++ str (cutT l) = str (120 :: cutT l) := str_append [120] (cutT l)
  have hsz := str_size (cutT l)
  obtain ⟨F, hF⟩ : ∃ F, fitT l = F := ⟨_, rfl⟩
  have HF : Hid ((if isT (cutT l) = true then cutT l else cutT (120 :: cutT l)) = F) := hF
  rw [hF]
  obtain ⟨t, ht⟩ : ∃ t, isT (cutT l) = t := ⟨_, rfl⟩
  rw [ht] at HI HF
  obtain ⟨s, hs⟩ : ∃ s, str l = s := ⟨_, rfl⟩
  rw [hs] at HC ⊢
  obtain ⟨c, hc⟩ : ∃ c, cutT l = c := ⟨_, rfl⟩
  rw [hc] at HC HC2 HF HI hx hsz hcl
  obtain ⟨u, hu⟩ : ∃ u, str c = u := ⟨_, rfl⟩
  rw [hu] at HC HI hx hsz
  have HU := Lib.hid hu
  obtain ⟨v, hv⟩ : ∃ v, str (120 :: c) = v := ⟨_, rfl⟩
  rw [hv] at HC2 hx
  have hz24 : u.size ≤ 24 := by omega
  clear hF ht hs hc hu hv hsz
  go_enter Try.func23, Try.ntmps23
  go_wp2_with fail
  refine HC.out.mono ?_
  rintro e w1 ⟨rfl, hb1⟩
  have HB1 := Lib.hid hb1
  clear hb1
  go_wp2_with fail
  refine (HI.out _).mono ?_
  rintro e w2 ⟨rfl, hb2⟩
  have HB2 := Lib.hid (HB1.out.trans (hb2.mono HB1.out.size))
  clear hb2
  cases t with
  | true =>
    rw [if_pos rfl] at HF
    go_wp2
    go_ret
    exact ⟨ret_str (by rw [← HU.out, HF.out]), HB2.out⟩
  | false =>
    rw [if_neg (by decide)] at HF
    go_wp2_with fail
    all_goals first | (exfalso; omega; done) | skip
    refine (HC2.out _).mono ?_
    rintro e w3 ⟨rfl, hb3⟩
    have HB3 := Lib.hid (HB2.out.trans (hb3.mono HB2.out.size))
    clear hb3
    go_wp2
    go_ret
    exact ⟨ret_str (by rw [HF.out]), HB3.out⟩
end Go.Proofs.Ytopjajfkncnihaa
