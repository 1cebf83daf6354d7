/-
  The statement TidySame: where a list changes a tree, the tidied one does so to the same.
-/
import Derived.Test.YteiidklmlelabaaTdAwake
import Derived.Test.YteiidklmlelabaaFlOpen
import Derived.Test.YteiidklmlelabaaFlLaw
import Derived.OpenShut
import Derived.ShutString
import Derived.BigQuiet
set_option maxRecDepth 100000
namespace Go.Proofs.Yteiidklmlelabaa
open Go.RowKit
set_option linter.unusedVariables false
open Tr Tx Hk Pr Fl
namespace TdLSame

set_option maxRecDepth 100000 in
set_option maxHeartbeats 8000000 in
theorem tidySame_walk (A_t : Option Addr) (n_t c_t : Nat) (t : TR) (A_l : Option Addr) (n_l c_l : Nat) (l : List Ch) (w : World) (h_t : TreeArg w A_t n_t c_t t) (hw_t : Wide t) (h_l : PrsArg w A_l n_l c_l l) :
    Calls Try.prog 6 #[.slice A_t n_t c_t, .slice A_l n_l c_l] w (LawEnd w) := by
  have HT_t := Lib.hid h_t.rd; have HN_t := Lib.hid h_t.len; have HF_t := Lib.hid h_t.fit; have HC_t := Lib.hid h_t.le; have HW_t := Lib.hid hw_t
  have HR_l := Lib.hid h_l.rd; have HN_l := Lib.hid h_l.len; have HC_l := Lib.hid h_l.cap; have HM_l := Lib.hid h_l.le
  have HB := Lib.hid (Below.refl w.heap.size w)
  clear h_t hw_t h_l
  go_enter Try.func6, Try.ntmps6
  go_wp2_with fail
  refine (Td.awake w).mono ?_
  rintro e w1 ⟨rfl, hb⟩
  replace HT_t := Lib.hid (HT_t.out.mv hb)
  replace HR_l := Lib.hid (HR_l.out.mv hb)
  replace HB := Lib.hid (below_mv HB.out hb)
  clear hb
  go_wp2_with fail
  refine (LightT A_t c_t n_t _ t _ HN_t.out HC_t.out HF_t.out HT_t.out).mono ?_
  rintro e w' ⟨rfl, rfl⟩
  obtain ⟨bt_t, hbl⟩ : ∃ bb, lightT t = bb := ⟨_, rfl⟩
  rw [hbl]
  have HBL_t := Lib.hid hbl; clear hbl
  obtain ⟨bl_l, hbl⟩ : ∃ bb, fewP l 40 = bb := ⟨_, rfl⟩
  have HBL_l := Lib.hid hbl; clear hbl
  go_wp2_with fail
  refine (Few A_l n_l c_l 40 l _ bl_l (by decide) ⟨HN_l.out, HC_l.out, HM_l.out, HR_l.out⟩ HBL_l.out).mono ?_
  rintro e w2 ⟨rfl, hb⟩
  replace HT_t := Lib.hid (HT_t.out.mv hb)
  replace HR_l := Lib.hid (HR_l.out.mv hb)
  replace HB := Lib.hid (below_mv HB.out hb)
  clear hb
  cases bt_t with
  | false =>
    go_wp2
    go_ret
    exact ⟨rfl, HB.out⟩
  | true =>
  have HS_t := Lib.hid (lightT_small HBL_t.out).2; have HK40_t := Lib.hid (lightT_small HBL_t.out).1; clear HF_t HC_t
  cases bl_l with
  | false =>
    go_wp2
    go_ret
    exact ⟨rfl, HB.out⟩
  | true =>
  have HL_l := Lib.hid (fewP_lt HBL_l.out); have HQ_l : Hid (n_l ≤ 40) := Lib.hid (by have h1 := fewP_len HBL_l.out; have h2 := HN_l.out; omega)
  cases hm : mayT t with
  | false =>
    go_wp2_with fail
    refine (MayC (b := false) HN_t.out HS_t.out HT_t.out hm).mono ?_
    rintro e w3 ⟨rfl, hb⟩
    replace HT_t := Lib.hid (HT_t.out.mv hb)
    replace HR_l := Lib.hid (HR_l.out.mv hb)
    replace HB := Lib.hid (below_mv HB.out hb)
    clear hb
    go_wp2
    go_ret
    exact ⟨rfl, HB.out⟩
  | true =>
  have HUP := Lib.hid (mayT_up hm); have HM := Lib.hid hm; clear hm
  go_wp2_with fail
  refine (MayC (b := true) HN_t.out HS_t.out HT_t.out HM.out).mono ?_
  rintro e w3 ⟨rfl, hb⟩
  replace HT_t := Lib.hid (HT_t.out.mv hb)
  replace HR_l := Lib.hid (HR_l.out.mv hb)
  replace HB := Lib.hid (below_mv HB.out hb)
  clear hb
  go_wp2_with fail
  obtain ⟨⟨r, u⟩, hD⟩ : ∃ D, doF t l = D := ⟨_, rfl⟩
  have HD_u := Lib.hid hD
  clear hD
  refine (ApplyL 41 1000 A_t n_t c_t A_l n_l c_l t l _ _ ((most_light HBL_t.out).mono (k' := 41) (l' := 1000) (by decide) (by decide)) (by have := HQ_l.out; omega) (by have := HQ_l.out; omega) HN_t.out HN_l.out HL_l.out HT_t.out HR_l.out HD_u.out).mono ?_
  rintro e w4 ⟨A_u, n_u, c_u, rfl, hc, hn, hr, hb⟩
  replace HT_t := Lib.hid (HT_t.out.mv hb)
  replace HR_l := Lib.hid (HR_l.out.mv hb)
  replace HB := Lib.hid (below_mv HB.out hb)
  clear hb
  have HT_u := Lib.hid hr; have HN_u := Lib.hid (show List.length u = n_u from hn); clear hr hc hn
  by_cases h0 : r = 0
  case neg =>
    have e0 : (r != 0) = true := by rw [bne_iff_ne]; exact h0
    have e1 : (r == 0) = false := by rw [beq_eq_false_iff_ne]; exact h0
    go_wp2
    go_ret
    exact ⟨rfl, HB.out⟩
  subst h0
  have HTS := Lib.hid (Td.tidyP_same HUP.out HD_u.out)
  have HS_u := Lib.hid (mostF (most_light HBL_t.out) (by have h1 := HN_l.out; have h2 := HQ_l.out; omega) (by have h1 := HN_l.out; have h2 := HQ_l.out; omega) HL_l.out HD_u.out).s
  go_wp2_with fail
  refine (Td.TidyL A_l n_l c_l l w4 HN_l.out (by have := HQ_l.out; omega) HL_l.out HR_l.out).mono ?_
  rintro e w5 ⟨A_x, c_x, rfl, _, hx, hb⟩
  replace HT_t := Lib.hid (HT_t.out.mv hb)
  replace HT_u := Lib.hid (HT_u.out.mv hb)
  replace HR_l := Lib.hid (HR_l.out.mv hb)
  replace HB := Lib.hid (below_mv HB.out hb)
  clear hb
  have HR_x := Lib.hid hx; clear hx
  obtain ⟨n_x, hn⟩ : ∃ n, List.length (Td.tidyP l) = n := ⟨_, rfl⟩
  rw [hn]
  have HN_x := Lib.hid hn; clear hn
  have HL_x := Lib.hid (Td.tidyP_lt HL_l.out)
  have HQ_x : Hid (n_x ≤ 40) := Lib.hid (by have h1 := HN_x.out; have h2 := Td.tidyP_len l; have h3 := HN_l.out; have h4 := HQ_l.out; omega)
  go_wp2_with fail
  refine (ApplyL 41 1000 A_t n_t c_t A_x n_x c_x t (Td.tidyP l) _ _ ((most_light HBL_t.out).mono (k' := 41) (l' := 1000) (by decide) (by decide)) (by have := HQ_x.out; omega) (by have := HQ_x.out; omega) HN_t.out HN_x.out HL_x.out HT_t.out HR_x.out HTS.out).mono ?_
  rintro e w6 ⟨A_v, n_v, c_v, rfl, hc, hn, hr, hb⟩
  replace HT_t := Lib.hid (HT_t.out.mv hb)
  replace HT_u := Lib.hid (HT_u.out.mv hb)
  replace HR_l := Lib.hid (HR_l.out.mv hb)
  replace HR_x := Lib.hid (HR_x.out.mv hb)
  replace HB := Lib.hid (below_mv HB.out hb)
  clear hb
  have HT_v := Lib.hid hr; have HN_v := Lib.hid (show List.length u = n_v from hn); clear hr hc hn
  go_wp2_with fail
  refine (SameC (b := true) HN_u.out HN_v.out HS_u.out HT_u.out HT_v.out (decide_eq_true rfl)).mono ?_
  rintro e w7 ⟨rfl, hb⟩
  replace HT_t := Lib.hid (HT_t.out.mv hb)
  replace HT_u := Lib.hid (HT_u.out.mv hb)
  replace HT_v := Lib.hid (HT_v.out.mv hb)
  replace HR_l := Lib.hid (HR_l.out.mv hb)
  replace HR_x := Lib.hid (HR_x.out.mv hb)
  replace HB := Lib.hid (below_mv HB.out hb)
  clear hb
  go_wp2
  go_ret
  exact ⟨rfl, HB.out⟩

end TdLSame
open TdLSame
open Tx
open Go.ChangeShapes Go.WideShapes Go.ChangeAt

theorem tidySame_own : ownKnob Try.prog.godebug = none := by kernel_rfl
theorem tidySame_laidOut : laidOutB Try.prog = true := by kernel_rfl

set_option maxRecDepth 100000 in
theorem tidySame_lifted (os : Os) (started : os.Started) (H : Type) (enc : TypeId × Value → H) :
    ReturnsInHanded {} Try.checked os 6 .any (Rows.tidySameSpec.pre6 enc Try.prog Try.f6 Rows.tidySameRow.domain false) (Rows.tidySameSpec.post enc Try.prog Try.f6 false true false false) := by
  refine returnsInHanded_of_change_sized (C := Try.checked) tidySame_own started (by kernel_rfl) Try.func6
    (ChangeSpec.witness6 (enc := enc) (C := Try.checked) false ⟨#[], #[.slice none 0 0, .slice none 0 0], []⟩ 8 (by kernel_rfl) (by kernel_rfl) (by kernel_rfl) (by kernel_rfl)) ?_
  intro W base args ds gs before hval0 hW hcnd hsz0 _
  have hval : ∀ (j : Nat) t v, Try.f6.params[j]? = some t → args[j]? = some v → Value.okWide Try.prog W .any base t v := hval0
  have hsz : (DataW.weightsEach Try.prog (Try.f6.params.toList ++ Rows.tidySameSpec.plain.varTypes Try.prog) (ds ++ gs)).all (· ≤ reachBytes) = true := hsz0
  have hW' := hW
  obtain ⟨p, q, hA0, hV, rfl, hfz, hnd⟩ := hW
  have hA : DataW.TrodAll enc Try.prog W 0 (fun _ => true) true Try.f6.params.toList args.toList ds p := hA0
  rw [Try.params6] at hA hval hsz
  obtain ⟨v0, vs0, d0, ds0, p0, q0, hargs, rfl, rfl, h0, r0⟩ := trodAll_cons hA
  obtain ⟨v1, vs1, d1, ds1, p1, q1, rfl, rfl, rfl, h1, r1⟩ := trodAll_cons r0
  obtain ⟨rfl, rfl, rfl⟩ := trodAll_nil r1
  obtain rfl : args = #[v0, v1] := by cases args; simp_all
  obtain ⟨rfl, rfl⟩ := trodVars_none hV
  obtain ⟨a0, n0, c0, rfl⟩ := okWide_slice Try.underlying32 (hval 0 32 v0 rfl rfl)
  have k0 := h0
  have lt0 : ∀ x ∈ p0, x.block < W.heap.size := by obtain ⟨m, hm⟩ := k0; exact DataW.trod_lt m _ _ _ hm
  obtain ⟨l0, s0, z0⟩ : ∃ l, TreeArg W a0 n0 c0 l ∧ Wide l := by
    obtain ⟨fuel, hf⟩ := h0
    exact tree_wide hf (by simp [Value.cells]) (fun k hk => by have := List.all_eq_true.1 hsz _ (DataW.weights_mem_each (j := 0) rfl rfl k hk); simpa using this)
  obtain ⟨a1, n1, c1, rfl⟩ := okWide_slice Try.underlying22 (hval 1 22 v1 rfl rfl)
  have k1 := h1
  have lt1 : ∀ x ∈ p1, x.block < W.heap.size := by obtain ⟨m, hm⟩ := k1; exact DataW.trod_lt m _ _ _ hm
  obtain ⟨l1, s1⟩ : ∃ l, PrsArg W a1 n1 c1 l := by
    obtain ⟨fuel, hf⟩ := h1
    exact prs_in hf (by simp [Value.cells])
  clear hA0 hval0 hsz hsz0
  refine (tidySame_walk a0 n0 c0 l0 a1 n1 c1 l1 W s0 z0 s1).mono fun e W' ⟨he, bel⟩ => ?_
  subst he
  exact ⟨_, rfl, _, _, _, [], _, [], hW', trodAll_mk1 (shut_bool Try.underlying4 _), (trodAll_cons_mk (Below.trod tidySame_laidOut (by kernel_rfl) (of_decide_eq_true (by kernel_rfl)) k0 bel lt0) (trodAll_cons_mk (Below.trod tidySame_laidOut (by kernel_rfl) (of_decide_eq_true (by kernel_rfl)) k1 bel lt1) trodAll_mk0)), rfl, bel.frame _, fun h => by cases h⟩

/-- The statement. -/
theorem tidySame_proved : Rows.TidySameSaid :=
  OpenClaim.holds_of_wide 6 Try.f6 rfl rfl rfl rfl rfl rfl rfl ⟨rfl, rfl, rfl, rfl, rfl⟩ rfl rfl rfl rfl rfl (by kernel_rfl) Try.func6 (by kernel_rfl)
    (of_decide_eq_true (by kernel_rfl)) (by unfold Func.isWrapper; first | (rw [if_pos (by decide +kernel)]; kernel_rfl) | (rw [if_neg (by decide +kernel)]; exact ⟨rfl, rfl⟩))
    (fun os started H enc _ => tidySame_lifted os started H enc)

#print axioms tidySame_proved
end Go.Proofs.Yteiidklmlelabaa
