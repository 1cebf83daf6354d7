/-
  The statement FlowSteps: to change a tree by a list is to do so by its first change, and then by the rest.
-/
import Derived.Test.YtejimifmmfappaaFlAwake
import Derived.Test.YtejimifmmfappaaFlOpen
import Derived.Test.YtejimifmmfappaaFlLaw
import Derived.OpenShut
import Derived.ShutString
import Derived.BigQuiet
set_option maxRecDepth 100000
namespace Go.Proofs.Ytejimifmmfappaa
open Go.RowKit
set_option linter.unusedVariables false
open Tr Tx Hk Pr Fl
namespace FlL

set_option maxRecDepth 100000 in
set_option maxHeartbeats 8000000 in
theorem flowSteps_walk (A_t : Option Addr) (n_t c_t : Nat) (t : TR) (A_l : Option Addr) (n_l c_l : Nat) (l : List Ch) (w : World) (h_t : TreeArg w A_t n_t c_t t) (hw_t : Wide t) (h_l : PrsArg w A_l n_l c_l l) :
    Calls Try.prog 8 #[.slice A_t n_t c_t, .slice A_l n_l c_l] w (LawEnd w) := by
  have HT_t := Lib.hid h_t.rd; have HN_t := Lib.hid h_t.len; have HF_t := Lib.hid h_t.fit; have HC_t := Lib.hid h_t.le; have HW_t := Lib.hid hw_t
  have HR_l := Lib.hid h_l.rd; have HN_l := Lib.hid h_l.len; have HC_l := Lib.hid h_l.cap; have HM_l := Lib.hid h_l.le
  have HB := Lib.hid (Below.refl w.heap.size w)
  clear h_t hw_t h_l
  go_enter Try.func8, Try.ntmps8
  go_wp2_with fail
  refine (Fl.awake w).mono ?_
  rintro e w1 ⟨rfl, hb⟩
  replace HT_t := Lib.hid (HT_t.out.mv hb)
  replace HR_l := Lib.hid (HR_l.out.mv hb)
  replace HB := Lib.hid (below_mv HB.out hb)
  clear hb
  go_wp2_with fail
  refine (LightT A_t c_t n_t _ t _ HN_t.out HC_t.out HF_t.out HT_t.out).mono ?_
  rintro e w' ⟨rfl, rfl⟩
  obtain ⟨bt_t, hbl⟩ : ∃ bb, lightT t = bb := ⟨_, rfl⟩
  rw [hbl]
  have HBL_t := Lib.hid hbl; clear hbl
  obtain ⟨bl_l, hbl⟩ : ∃ bb, fewP l 30 = bb := ⟨_, rfl⟩
  have HBL_l := Lib.hid hbl; clear hbl
  go_wp2_with fail
  refine (Few A_l n_l c_l 30 l _ bl_l (by decide) ⟨HN_l.out, HC_l.out, HM_l.out, HR_l.out⟩ HBL_l.out).mono ?_
  rintro e w2 ⟨rfl, hb⟩
  replace HT_t := Lib.hid (HT_t.out.mv hb)
  replace HR_l := Lib.hid (HR_l.out.mv hb)
  replace HB := Lib.hid (below_mv HB.out hb)
  clear hb
  cases bt_t with
  | false =>
    go_wp2
    go_ret
    exact ⟨rfl, HB.out⟩
  | true =>
  have HS_t := Lib.hid (lightT_small HBL_t.out).2; have HK40_t := Lib.hid (lightT_small HBL_t.out).1; clear HF_t HC_t
  cases bl_l with
  | false =>
    go_wp2
    go_ret
    exact ⟨rfl, HB.out⟩
  | true =>
  have HL_l := Lib.hid (fewP_lt HBL_l.out); have HQ_l : Hid (n_l ≤ 40) := Lib.hid (by have h1 := fewP_len HBL_l.out; have h2 := HN_l.out; omega)
  obtain hl0 | ⟨p, ls, hl0⟩ : l = [] ∨ ∃ p ls, l = p :: ls := by cases l with | nil => exact .inl rfl | cons p ls => exact .inr ⟨p, ls, rfl⟩
  case inl =>
    have e0 : n_l = 0 := by rw [← HN_l.out, hl0]; rfl
    subst e0
    go_wp2
    go_ret
    exact ⟨rfl, HB.out⟩
  have hnl : n_l = ls.length + 1 := by rw [← HN_l.out, hl0]; rfl
  have HCL := Lib.hid hl0
  have e0 : ((n_l : Int) == 0) = false := by rw [beq_eq_false_iff_ne]; omega
  have HNL := Lib.hid hnl
  clear hl0 hnl
  go_wp2_with fail
  obtain ⟨⟨r, u⟩, hD⟩ : ∃ D, doF t l = D := ⟨_, rfl⟩
  have HD_u := Lib.hid hD
  clear hD
  refine (ApplyL 41 1000 A_t n_t c_t A_l n_l c_l t l _ _ ((most_light HBL_t.out).mono (k' := 41) (l' := 1000) (by decide) (by decide)) (by have := HQ_l.out; omega) (by have := HQ_l.out; omega) HN_t.out HN_l.out HL_l.out HT_t.out HR_l.out HD_u.out).mono ?_
  rintro e w3 ⟨A_u, n_u, c_u, rfl, hc, hn, hr, hb⟩
  replace HT_t := Lib.hid (HT_t.out.mv hb)
  replace HR_l := Lib.hid (HR_l.out.mv hb)
  replace HB := Lib.hid (below_mv HB.out hb)
  clear hb
  have HT_u := Lib.hid hr; have HN_u := Lib.hid (show List.length u = n_u from hn); clear hr hc hn
  obtain ⟨al, q, B1, i1, j1, D, m1, d1, rfl, hS, hq, c0, c1, c2, c3, c4, c5, hpg⟩ := HR_l.out.elem (k := 0) (by rw [HN_l.out]; have := HNL.out; omega)
  obtain rfl : p = q := by rw [HCL.out] at hq; injection hq
  rw [Nat.zero_mul, add_zero'] at c0 c1 c2 c3 c4 c5
  have h0n : (0 : Int) < (n_l : Int) := by have := HNL.out; omega
  have HPV := Lib.hid hpg.pv
  have HLP := Lib.hid (HL_l.out p (by rw [HCL.out]; exact .head _))
  clear hS hq hpg e0
  go_wp2_with fail
  clear c0 c1 c2 c3 c4 c5
  obtain ⟨⟨r1, v⟩, hD⟩ : ∃ D, doP t p = D := ⟨_, rfl⟩
  have HD_v := Lib.hid hD
  clear hD
  obtain ⟨n_v, hn⟩ : ∃ k, v.length = k := ⟨_, rfl⟩
  have HN_v := Lib.hid hn
  clear hn
  refine (ApplyC HS_t.out.wide HN_t.out HT_t.out HPV.out HD_v.out HN_v.out).mono ?_
  rintro e w4 ⟨A_v, c_v, rfl, hc, hr, hb⟩
  replace HT_t := Lib.hid (HT_t.out.mv hb)
  replace HT_u := Lib.hid (HT_u.out.mv hb)
  replace HR_l := Lib.hid (HR_l.out.mv hb)
  replace HB := Lib.hid (below_mv HB.out hb)
  clear hb
  have HT_v := Lib.hid hr; clear hr hc HPV
  by_cases h0 : r1 = 0
  case neg =>
    have e0 : (r1 != 0) = true := by rw [bne_iff_ne]; exact h0
    have z1 := HD_u.out
    rw [HCL.out, doF_cons_no (by rw [HD_v.out]; exact h0), HD_v.out] at z1
    injection z1 with z1 z2
    have e1 : n_u = 0 := by rw [← HN_u.out, ← z2]; rfl
    have e2 : (r == r1) = true := by rw [beq_iff_eq]; exact z1.symm
    subst e1
    clear z1 z2
    go_wp2
    go_ret
    exact ⟨rfl, HB.out⟩
  subst h0
  have HD_w : Hid (doF v ls = (r, u)) := Lib.hid (by have := HD_u.out; rw [HCL.out, doF_cons_ok HD_v.out] at this; exact this)
  have HLS : Hid (Lt ls) := Lib.hid (by have := HL_l.out; rw [HCL.out] at this; exact this.tail)
  have HMV := Lib.hid ((most_light HBL_t.out).do (by decide) (by decide) HLP.out HD_v.out)
  have h1n : (1 : Int) ≤ (n_l : Int) := by have := HNL.out; omega
  have h1c : n_l ≤ c_l := HC_l.out
  have h1m : (n_l : Int) ≤ (c_l : Int) := by omega
  have h1k : (1 : Int) ≤ (c_l : Int) := by have := HNL.out; omega
  have HLL : Hid (ls.length = n_l - 1) := Lib.hid (by have := HNL.out; omega)
  have HRL : Hid (RdP w4 (· < w4.heap.size) (some al) (p :: ls)) := Lib.hid (by have := HR_l.out; rw [HCL.out] at this; exact this)
  have HSU := Lib.hid (smallF (most_light HBL_t.out) (by have h1 := HN_l.out; have h2 := HQ_l.out; omega) (by have h1 := HN_l.out; have h2 := HQ_l.out; omega) HL_l.out HD_u.out)
  have HRLT : Hid (RdP w4 (· < w4.heap.size) (some ⟨al.block, al.off + 6, none⟩) ls) := Lib.hid (by have h1 := HRL.out.tail; rw [show al.add 6 = ⟨al.block, al.off + 6, none⟩ from rfl] at h1; exact h1)
  by_cases hc1 : c_l = 1
  case pos =>
    have HLN : Hid (ls = []) := Lib.hid (List.eq_nil_of_length_eq_zero (by have := HLL.out; omega))
    go_wp2_with fail
    refine (ApplyL 41 600 A_v n_v c_v (some al) (n_l - 1) 0 v ls _ _ HMV.out (by have := HQ_l.out; omega) (by have := HQ_l.out; omega) HN_v.out HLL.out HLS.out HT_v.out (by rw [HLN.out]; exact .inl rfl) HD_w.out).mono ?_
    rintro e w5 ⟨A_w, n_w, c_w, rfl, hc, hn, hr, hb⟩
    replace HT_t := Lib.hid (HT_t.out.mv hb)
    replace HT_u := Lib.hid (HT_u.out.mv hb)
    replace HT_v := Lib.hid (HT_v.out.mv hb)
    replace HR_l := Lib.hid (HR_l.out.mv hb)
    replace HB := Lib.hid (below_mv HB.out hb)
    clear hb
    have HT_w := Lib.hid hr; have HN_w := Lib.hid (show List.length u = n_w from hn); clear hr hc hn
    clear h1n h1c h1m h1k hc1
    go_wp2_with fail
    refine (SameC (b := true) HN_u.out HN_w.out HSU.out HT_u.out HT_w.out (decide_eq_true rfl)).mono ?_
    rintro e w6 ⟨rfl, hb⟩
    replace HT_t := Lib.hid (HT_t.out.mv hb)
    replace HT_u := Lib.hid (HT_u.out.mv hb)
    replace HT_v := Lib.hid (HT_v.out.mv hb)
    replace HT_w := Lib.hid (HT_w.out.mv hb)
    replace HR_l := Lib.hid (HR_l.out.mv hb)
    replace HB := Lib.hid (below_mv HB.out hb)
    clear hb
    go_wp2
    go_ret
    exact ⟨rfl, HB.out⟩
  go_wp2_with fail
  refine (ApplyL 41 600 A_v n_v c_v (some ⟨al.block, al.off + 6, none⟩) (n_l - 1) (c_l - 1) v ls _ _ HMV.out (by have := HQ_l.out; omega) (by have := HQ_l.out; omega) HN_v.out HLL.out HLS.out HT_v.out HRLT.out HD_w.out).mono ?_
  rintro e w5 ⟨A_w, n_w, c_w, rfl, hc, hn, hr, hb⟩
  replace HT_t := Lib.hid (HT_t.out.mv hb)
  replace HT_u := Lib.hid (HT_u.out.mv hb)
  replace HT_v := Lib.hid (HT_v.out.mv hb)
  replace HR_l := Lib.hid (HR_l.out.mv hb)
  replace HB := Lib.hid (below_mv HB.out hb)
  clear hb
  have HT_w := Lib.hid hr; have HN_w := Lib.hid (show List.length u = n_w from hn); clear hr hc hn
  clear h1n h1c h1m h1k hc1
  go_wp2_with fail
  refine (SameC (b := true) HN_u.out HN_w.out HSU.out HT_u.out HT_w.out (decide_eq_true rfl)).mono ?_
  rintro e w6 ⟨rfl, hb⟩
  replace HT_t := Lib.hid (HT_t.out.mv hb)
  replace HT_u := Lib.hid (HT_u.out.mv hb)
  replace HT_v := Lib.hid (HT_v.out.mv hb)
  replace HT_w := Lib.hid (HT_w.out.mv hb)
  replace HR_l := Lib.hid (HR_l.out.mv hb)
  replace HB := Lib.hid (below_mv HB.out hb)
  clear hb
  go_wp2
  go_ret
  exact ⟨rfl, HB.out⟩

end FlL
open FlL
open Tx
open Go.ChangeShapes Go.WideShapes Go.ChangeAt

theorem flowSteps_own : ownKnob Try.prog.godebug = none := by kernel_rfl
theorem flowSteps_laidOut : laidOutB Try.prog = true := by kernel_rfl

set_option maxRecDepth 100000 in
theorem flowSteps_lifted (os : Os) (started : os.Started) (H : Type) (enc : TypeId × Value → H) :
    ReturnsInHanded {} Try.checked os 8 .any (Rows.flowStepsSpec.pre6 enc Try.prog Try.f8 Rows.flowStepsRow.domain false) (Rows.flowStepsSpec.post enc Try.prog Try.f8 false true false false) := by
  refine returnsInHanded_of_change_sized (C := Try.checked) flowSteps_own started (by kernel_rfl) Try.func8
    (ChangeSpec.witness6 (enc := enc) (C := Try.checked) false ⟨#[], #[.slice none 0 0, .slice none 0 0], []⟩ 8 (by kernel_rfl) (by kernel_rfl) (by kernel_rfl) (by kernel_rfl)) ?_
  intro W base args ds gs before hval0 hW hcnd hsz0 _
  have hval : ∀ (j : Nat) t v, Try.f8.params[j]? = some t → args[j]? = some v → Value.okWide Try.prog W .any base t v := hval0
  have hsz : (DataW.weightsEach Try.prog (Try.f8.params.toList ++ Rows.flowStepsSpec.plain.varTypes Try.prog) (ds ++ gs)).all (· ≤ reachBytes) = true := hsz0
  have hW' := hW
  obtain ⟨p, q, hA0, hV, rfl, hfz, hnd⟩ := hW
  have hA : DataW.TrodAll enc Try.prog W 0 (fun _ => true) true Try.f8.params.toList args.toList ds p := hA0
  rw [Try.params8] at hA hval hsz
  obtain ⟨v0, vs0, d0, ds0, p0, q0, hargs, rfl, rfl, h0, r0⟩ := trodAll_cons hA
  obtain ⟨v1, vs1, d1, ds1, p1, q1, rfl, rfl, rfl, h1, r1⟩ := trodAll_cons r0
  obtain ⟨rfl, rfl, rfl⟩ := trodAll_nil r1
  obtain rfl : args = #[v0, v1] := by cases args; simp_all
  obtain ⟨rfl, rfl⟩ := trodVars_none hV
  obtain ⟨a0, n0, c0, rfl⟩ := okWide_slice Try.underlying29 (hval 0 29 v0 rfl rfl)
  have k0 := h0
  have lt0 : ∀ x ∈ p0, x.block < W.heap.size := by obtain ⟨m, hm⟩ := k0; exact DataW.trod_lt m _ _ _ hm
  obtain ⟨l0, s0, z0⟩ : ∃ l, TreeArg W a0 n0 c0 l ∧ Wide l := by
    obtain ⟨fuel, hf⟩ := h0
    exact tree_wide hf (by simp [Value.cells]) (fun k hk => by have := List.all_eq_true.1 hsz _ (DataW.weights_mem_each (j := 0) rfl rfl k hk); simpa using this)
  obtain ⟨a1, n1, c1, rfl⟩ := okWide_slice Try.underlying22 (hval 1 22 v1 rfl rfl)
  have k1 := h1
  have lt1 : ∀ x ∈ p1, x.block < W.heap.size := by obtain ⟨m, hm⟩ := k1; exact DataW.trod_lt m _ _ _ hm
  obtain ⟨l1, s1⟩ : ∃ l, PrsArg W a1 n1 c1 l := by
    obtain ⟨fuel, hf⟩ := h1
    exact prs_in hf (by simp [Value.cells])
  clear hA0 hval0 hsz hsz0
  refine (flowSteps_walk a0 n0 c0 l0 a1 n1 c1 l1 W s0 z0 s1).mono fun e W' ⟨he, bel⟩ => ?_
  subst he
  exact ⟨_, rfl, _, _, _, [], _, [], hW', trodAll_mk1 (shut_bool Try.underlying4 _), (trodAll_cons_mk (Below.trod flowSteps_laidOut (by kernel_rfl) (of_decide_eq_true (by kernel_rfl)) k0 bel lt0) (trodAll_cons_mk (Below.trod flowSteps_laidOut (by kernel_rfl) (of_decide_eq_true (by kernel_rfl)) k1 bel lt1) trodAll_mk0)), rfl, bel.frame _, fun h => by cases h⟩

/-- The statement. -/
theorem flowSteps_proved : Rows.FlowStepsSaid :=
  OpenClaim.holds_of_wide 8 Try.f8 rfl rfl rfl rfl rfl rfl rfl ⟨rfl, rfl, rfl, rfl, rfl⟩ rfl rfl rfl rfl rfl (by kernel_rfl) Try.func8 (by kernel_rfl)
    (of_decide_eq_true (by kernel_rfl)) (by unfold Func.isWrapper; first | (rw [if_pos (by decide +kernel)]; kernel_rfl) | (rw [if_neg (by decide +kernel)]; exact ⟨rfl, rfl⟩))
    (fun os started H enc _ => flowSteps_lifted os started H enc)

#print axioms flowSteps_proved
end Go.Proofs.Ytejimifmmfappaa
