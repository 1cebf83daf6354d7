/-
  The statement FlowTells: what any tree becomes by any changes, how they are turned, and whether they may be, is what the document says.
-/
import Derived.Test.YteiidklmlelabaaGreatFlRef2
import Derived.Test.YteiidklmlelabaaGreatGV
import Derived.Test.YteiidklmlelabaaGreatFlAwake
import Derived.Test.YteiidklmlelabaaGreatFlOpen
import Derived.Test.YteiidklmlelabaaGreatFlLaw
import Derived.OpenShut
import Derived.ShutString
import Derived.BigQuiet
set_option maxRecDepth 100000
namespace Go.Proofs.YteiidklmlelabaaGreat
open Go.RowKit
set_option linter.unusedVariables false
open Tr Tx Hk Pr Fl
namespace FlL

set_option maxRecDepth 100000 in
set_option maxHeartbeats 8000000 in
theorem flowTells_walk (A_t : Option Addr) (n_t c_t : Nat) (t : TR) (A_l : Option Addr) (n_l c_l : Nat) (l : List Ch) (A_m : Option Addr) (n_m c_m : Nat) (m : List Ch) (w : World) (h_t : TreeArg w A_t n_t c_t t) (hw_t : Wide t) (h_l : PrsArg w A_l n_l c_l l) (h_m : PrsArg w A_m n_m c_m m) :
    Calls Tryz.prog 3 #[.slice A_t n_t c_t, .slice A_l n_l c_l, .slice A_m n_m c_m] w (LawEnd w) := by
  have HCK := Lib.hid h_t.cap
  have HT_t := Lib.hid h_t.rd; have HN_t := Lib.hid h_t.len; have HF_t := Lib.hid h_t.fit; have HC_t := Lib.hid h_t.le; have HW_t := Lib.hid hw_t
  have HR_l := Lib.hid h_l.rd; have HN_l := Lib.hid h_l.len; have HC_l := Lib.hid h_l.cap; have HM_l := Lib.hid h_l.le
  have HR_m := Lib.hid h_m.rd; have HN_m := Lib.hid h_m.len; have HC_m := Lib.hid h_m.cap; have HM_m := Lib.hid h_m.le
  have HB := Lib.hid (Below.refl w.heap.size w)
  clear h_t hw_t h_l h_m
  go_enter Tryz.func3, Tryz.ntmps3
  go_wp2_with fail
  refine (Fl.awake w).mono ?_
  rintro e w1 ⟨rfl, hb⟩
  replace HT_t := Lib.hid (HT_t.out.mv hb)
  replace HR_l := Lib.hid (HR_l.out.mv hb)
  replace HR_m := Lib.hid (HR_m.out.mv hb)
  replace HB := Lib.hid (below_mv HB.out hb)
  clear hb
  go_wp2_with fail
  refine (LightT A_t c_t n_t _ t _ HN_t.out HC_t.out HF_t.out HT_t.out).mono ?_
  rintro e w' ⟨rfl, rfl⟩
  obtain ⟨bt_t, hbl⟩ : ∃ bb, lightT t = bb := ⟨_, rfl⟩
  rw [hbl]
  have HBL_t := Lib.hid hbl; clear hbl
  obtain ⟨bl_l, hbl⟩ : ∃ bb, fewP l 30 = bb := ⟨_, rfl⟩
  have HBL_l := Lib.hid hbl; clear hbl
  go_wp2_with fail
  refine (Few A_l n_l c_l 30 l _ bl_l (by decide) ⟨HN_l.out, HC_l.out, HM_l.out, HR_l.out⟩ HBL_l.out).mono ?_
  rintro e w2 ⟨rfl, hb⟩
  replace HT_t := Lib.hid (HT_t.out.mv hb)
  replace HR_l := Lib.hid (HR_l.out.mv hb)
  replace HR_m := Lib.hid (HR_m.out.mv hb)
  replace HB := Lib.hid (below_mv HB.out hb)
  clear hb
  obtain ⟨bl_m, hbl⟩ : ∃ bb, fewP m 30 = bb := ⟨_, rfl⟩
  have HBL_m := Lib.hid hbl; clear hbl
  go_wp2_with fail
  refine (Few A_m n_m c_m 30 m _ bl_m (by decide) ⟨HN_m.out, HC_m.out, HM_m.out, HR_m.out⟩ HBL_m.out).mono ?_
  rintro e w3 ⟨rfl, hb⟩
  replace HT_t := Lib.hid (HT_t.out.mv hb)
  replace HR_l := Lib.hid (HR_l.out.mv hb)
  replace HR_m := Lib.hid (HR_m.out.mv hb)
  replace HB := Lib.hid (below_mv HB.out hb)
  clear hb
  cases bt_t with
  | false =>
    go_wp2
    go_ret
    exact ⟨rfl, HB.out⟩
  | true =>
  have HS_t := Lib.hid (lightT_small HBL_t.out).2; have HK40_t := Lib.hid (lightT_small HBL_t.out).1; clear HF_t HC_t
  cases bl_l with
  | false =>
    go_wp2
    go_ret
    exact ⟨rfl, HB.out⟩
  | true =>
  have HL_l := Lib.hid (fewP_lt HBL_l.out); have HQ_l : Hid (n_l ≤ 40) := Lib.hid (by have h1 := fewP_len HBL_l.out; have h2 := HN_l.out; omega)
  cases bl_m with
  | false =>
    go_wp2
    go_ret
    exact ⟨rfl, HB.out⟩
  | true =>
  have HL_m := Lib.hid (fewP_lt HBL_m.out); have HQ_m : Hid (n_m ≤ 40) := Lib.hid (by have h1 := fewP_len HBL_m.out; have h2 := HN_m.out; omega)
  go_wp2_with fail
  obtain ⟨⟨r, u⟩, hD⟩ : ∃ D, doF t l = D := ⟨_, rfl⟩
  have HD_u := Lib.hid hD
  clear hD
  refine (ApplyL 41 1000 A_t n_t c_t A_l n_l c_l t l _ _ ((most_light HBL_t.out).mono (k' := 41) (l' := 1000) (by decide) (by decide)) (by have := HQ_l.out; omega) (by have := HQ_l.out; omega) HN_t.out HN_l.out HL_l.out HT_t.out HR_l.out HD_u.out).mono ?_
  rintro e w4 ⟨A_u, n_u, c_u, rfl, hc, hn, hr, hb⟩
  replace HT_t := Lib.hid (HT_t.out.mv hb)
  replace HR_l := Lib.hid (HR_l.out.mv hb)
  replace HR_m := Lib.hid (HR_m.out.mv hb)
  replace HB := Lib.hid (below_mv HB.out hb)
  clear hb
  have HT_u := Lib.hid hr; have HN_u := Lib.hid (show List.length u = n_u from hn); clear hr hc hn
  have HS_u := Lib.hid (smallF (most_light HBL_t.out) (by have h1 := HN_l.out; have h2 := HQ_l.out; omega) (by have h1 := HN_l.out; have h2 := HQ_l.out; omega) HL_l.out HD_u.out)
  go_wp2_with fail
  refine (refApplyL A_t n_t c_t A_l n_l c_l t l w4 (r, u) ((most_light HBL_t.out).mono (k' := 100) (l' := 700) (by decide) (by decide)) HN_t.out HCK.out HN_l.out (by have := HQ_l.out; omega) HL_l.out HT_t.out HR_l.out HD_u.out).mono ?_
  rintro e w5 ⟨A_v, n_v, c_v, rfl, hc, hn, hr, hb⟩
  replace HT_t := Lib.hid (HT_t.out.mv hb)
  replace HT_u := Lib.hid (HT_u.out.mv hb)
  replace HR_l := Lib.hid (HR_l.out.mv hb)
  replace HR_m := Lib.hid (HR_m.out.mv hb)
  replace HB := Lib.hid (below_mv HB.out hb)
  clear hb
  have HT_v := Lib.hid hr; have HN_v := Lib.hid (show List.length u = n_v from hn); clear hr hc hn
  go_wp2_with fail
  refine (refSameTC (b := true) HN_u.out HN_v.out HS_u.out HT_u.out HT_v.out (decide_eq_true rfl)).mono ?_
  rintro e w6 ⟨rfl, hb⟩
  replace HT_t := Lib.hid (HT_t.out.mv hb)
  replace HT_u := Lib.hid (HT_u.out.mv hb)
  replace HT_v := Lib.hid (HT_v.out.mv hb)
  replace HR_l := Lib.hid (HR_l.out.mv hb)
  replace HR_m := Lib.hid (HR_m.out.mv hb)
  replace HB := Lib.hid (below_mv HB.out hb)
  clear hb
  go_wp2_with fail
  refine (TurnL A_l n_l c_l l _ HN_l.out (by have := HQ_l.out; omega) HL_l.out HR_l.out).mono ?_
  rintro e w7 ⟨A_x, c_x, rfl, _, hx, hb⟩
  replace HT_t := Lib.hid (HT_t.out.mv hb)
  replace HT_u := Lib.hid (HT_u.out.mv hb)
  replace HT_v := Lib.hid (HT_v.out.mv hb)
  replace HR_l := Lib.hid (HR_l.out.mv hb)
  replace HR_m := Lib.hid (HR_m.out.mv hb)
  replace HB := Lib.hid (below_mv HB.out hb)
  clear hb
  have HR_x := Lib.hid hx; clear hx
  have HN_x : Hid (List.length (turnF l) = n_l) := Lib.hid ((turnF_len _).trans HN_l.out); have hn := HN_x.out
  rw [hn]
  clear hn
  have HL_x := Lib.hid HL_l.out.turn; have HQ_x := HQ_l
  go_wp2_with fail
  refine (refTurnL A_l n_l c_l l w7 HN_l.out (by have := HQ_l.out; omega) HR_l.out).mono ?_
  rintro e w8 ⟨A_y, c_y, rfl, _, hx, hb⟩
  replace HT_t := Lib.hid (HT_t.out.mv hb)
  replace HT_u := Lib.hid (HT_u.out.mv hb)
  replace HT_v := Lib.hid (HT_v.out.mv hb)
  replace HR_l := Lib.hid (HR_l.out.mv hb)
  replace HR_m := Lib.hid (HR_m.out.mv hb)
  replace HR_x := Lib.hid (HR_x.out.mv hb)
  replace HB := Lib.hid (below_mv HB.out hb)
  clear hb
  have HR_y := Lib.hid hx; clear hx
  have HN_y : Hid (List.length (turnF l) = n_l) := Lib.hid ((turnF_len _).trans HN_l.out); have hn := HN_y.out
  rw [hn]
  clear hn
  have HQ_y := HQ_l
  go_wp2_with fail
  refine (refListL A_x n_l c_x A_y n_l c_y (turnF l) (turnF l) _ true HN_x.out HN_y.out (by have := HQ_x.out; omega) HR_x.out HR_y.out (listP_self _)).mono ?_
  rintro e w9 ⟨rfl, hb⟩
  replace HT_t := Lib.hid (HT_t.out.mv hb)
  replace HT_u := Lib.hid (HT_u.out.mv hb)
  replace HT_v := Lib.hid (HT_v.out.mv hb)
  replace HR_l := Lib.hid (HR_l.out.mv hb)
  replace HR_m := Lib.hid (HR_m.out.mv hb)
  replace HR_x := Lib.hid (HR_x.out.mv hb)
  replace HR_y := Lib.hid (HR_y.out.mv hb)
  replace HB := Lib.hid (below_mv HB.out hb)
  clear hb
  obtain ⟨bm, hbm⟩ : ∃ b, l.all mayP = b := ⟨_, rfl⟩
  have HBM := Lib.hid hbm; clear hbm
  obtain ⟨bs, hbs⟩ : ∃ b, listP l m = b := ⟨_, rfl⟩
  have HBS := Lib.hid hbs; clear hbs
  go_wp2_with fail
  refine (refMayL A_l n_l c_l l w9 bm HN_l.out (by have := HQ_l.out; omega) HR_l.out HBM.out).mono ?_
  rintro e w10 ⟨rfl, hb⟩
  replace HT_t := Lib.hid (HT_t.out.mv hb)
  replace HT_u := Lib.hid (HT_u.out.mv hb)
  replace HT_v := Lib.hid (HT_v.out.mv hb)
  replace HR_l := Lib.hid (HR_l.out.mv hb)
  replace HR_m := Lib.hid (HR_m.out.mv hb)
  replace HR_x := Lib.hid (HR_x.out.mv hb)
  replace HR_y := Lib.hid (HR_y.out.mv hb)
  replace HB := Lib.hid (below_mv HB.out hb)
  clear hb
  go_wp2_with fail
  refine (refListL A_l n_l c_l A_m n_m c_m l m _ bs HN_l.out HN_m.out (by have := HQ_l.out; omega) HR_l.out HR_m.out HBS.out).mono ?_
  rintro e w11 ⟨rfl, hb⟩
  replace HT_t := Lib.hid (HT_t.out.mv hb)
  replace HT_u := Lib.hid (HT_u.out.mv hb)
  replace HT_v := Lib.hid (HT_v.out.mv hb)
  replace HR_l := Lib.hid (HR_l.out.mv hb)
  replace HR_m := Lib.hid (HR_m.out.mv hb)
  replace HR_x := Lib.hid (HR_x.out.mv hb)
  replace HR_y := Lib.hid (HR_y.out.mv hb)
  replace HB := Lib.hid (below_mv HB.out hb)
  clear hb
  cases bm with
  | false =>
    go_wp2_with fail
    refine (MayL A_l n_l c_l l w11 false HN_l.out (by have := HQ_l.out; omega) HR_l.out HBM.out).mono ?_
    rintro e w12 ⟨rfl, hb⟩
    replace HT_t := Lib.hid (HT_t.out.mv hb)
    replace HT_u := Lib.hid (HT_u.out.mv hb)
    replace HT_v := Lib.hid (HT_v.out.mv hb)
    replace HR_l := Lib.hid (HR_l.out.mv hb)
    replace HR_m := Lib.hid (HR_m.out.mv hb)
    replace HR_x := Lib.hid (HR_x.out.mv hb)
    replace HR_y := Lib.hid (HR_y.out.mv hb)
    replace HB := Lib.hid (below_mv HB.out hb)
    clear hb
    go_wp2_with fail
    refine (SameL A_l n_l c_l A_m n_m c_m l m _ bs HN_l.out HN_m.out (by have := HQ_l.out; omega) HR_l.out HR_m.out HBS.out).mono ?_
    rintro e w13 ⟨rfl, hb⟩
    replace HT_t := Lib.hid (HT_t.out.mv hb)
    replace HT_u := Lib.hid (HT_u.out.mv hb)
    replace HT_v := Lib.hid (HT_v.out.mv hb)
    replace HR_l := Lib.hid (HR_l.out.mv hb)
    replace HR_m := Lib.hid (HR_m.out.mv hb)
    replace HR_x := Lib.hid (HR_x.out.mv hb)
    replace HR_y := Lib.hid (HR_y.out.mv hb)
    replace HB := Lib.hid (below_mv HB.out hb)
    clear hb
    cases bs with
    | false =>
      go_wp2
      go_ret
      exact ⟨rfl, HB.out⟩
    | true =>
      go_wp2
      go_ret
      exact ⟨rfl, HB.out⟩
  | true =>
    go_wp2_with fail
    refine (MayL A_l n_l c_l l w11 true HN_l.out (by have := HQ_l.out; omega) HR_l.out HBM.out).mono ?_
    rintro e w12 ⟨rfl, hb⟩
    replace HT_t := Lib.hid (HT_t.out.mv hb)
    replace HT_u := Lib.hid (HT_u.out.mv hb)
    replace HT_v := Lib.hid (HT_v.out.mv hb)
    replace HR_l := Lib.hid (HR_l.out.mv hb)
    replace HR_m := Lib.hid (HR_m.out.mv hb)
    replace HR_x := Lib.hid (HR_x.out.mv hb)
    replace HR_y := Lib.hid (HR_y.out.mv hb)
    replace HB := Lib.hid (below_mv HB.out hb)
    clear hb
    go_wp2_with fail
    refine (SameL A_l n_l c_l A_m n_m c_m l m _ bs HN_l.out HN_m.out (by have := HQ_l.out; omega) HR_l.out HR_m.out HBS.out).mono ?_
    rintro e w13 ⟨rfl, hb⟩
    replace HT_t := Lib.hid (HT_t.out.mv hb)
    replace HT_u := Lib.hid (HT_u.out.mv hb)
    replace HT_v := Lib.hid (HT_v.out.mv hb)
    replace HR_l := Lib.hid (HR_l.out.mv hb)
    replace HR_m := Lib.hid (HR_m.out.mv hb)
    replace HR_x := Lib.hid (HR_x.out.mv hb)
    replace HR_y := Lib.hid (HR_y.out.mv hb)
    replace HB := Lib.hid (below_mv HB.out hb)
    clear hb
    cases bs with
    | false =>
      go_wp2
      go_ret
      exact ⟨rfl, HB.out⟩
    | true =>
      go_wp2
      go_ret
      exact ⟨rfl, HB.out⟩

end FlL
open FlL
open Tx
open Go.ChangeShapes Go.WideShapes Go.ChangeAt

theorem flowTells_own : ownKnob Tryz.prog.godebug = none := by kernel_rfl
theorem flowTells_laidOut : laidOutB Tryz.prog = true := by kernel_rfl

set_option maxRecDepth 100000 in
theorem flowTells_lifted (os : Os) (started : os.Started) (H : Type) (enc : TypeId × Value → H) :
    ReturnsInHanded {} Tryz.checked os 3 .any (Rows.flowTellsSpec.pre6 enc Tryz.prog Tryz.f3 Rows.flowTellsRow.domain false) (Rows.flowTellsSpec.post enc Tryz.prog Tryz.f3 false true false false) := by
  refine returnsInHanded_of_change_sized (C := Tryz.checked) flowTells_own started (by kernel_rfl) Tryz.func3
    (ChangeSpec.witness6 (enc := enc) (C := Tryz.checked) false ⟨#[], #[.slice none 0 0, .slice none 0 0, .slice none 0 0], []⟩ 8 (by kernel_rfl) (by kernel_rfl) (by kernel_rfl) (by kernel_rfl)) ?_
  intro W base args ds gs before hval0 hW hcnd hsz0 _
  have hval : ∀ (j : Nat) t v, Tryz.f3.params[j]? = some t → args[j]? = some v → Value.okWide Tryz.prog W .any base t v := hval0
  have hsz : (DataW.weightsEach Tryz.prog (Tryz.f3.params.toList ++ Rows.flowTellsSpec.plain.varTypes Tryz.prog) (ds ++ gs)).all (· ≤ reachBytes) = true := hsz0
  have hW' := hW
  obtain ⟨p, q, hA0, hV, rfl, hfz, hnd⟩ := hW
  have hA : DataW.TrodAll enc Tryz.prog W 0 (fun _ => true) true Tryz.f3.params.toList args.toList ds p := hA0
  rw [Tryz.params3] at hA hval hsz
  obtain ⟨v0, vs0, d0, ds0, p0, q0, hargs, rfl, rfl, h0, r0⟩ := trodAll_cons hA
  obtain ⟨v1, vs1, d1, ds1, p1, q1, rfl, rfl, rfl, h1, r1⟩ := trodAll_cons r0
  obtain ⟨v2, vs2, d2, ds2, p2, q2, rfl, rfl, rfl, h2, r2⟩ := trodAll_cons r1
  obtain ⟨rfl, rfl, rfl⟩ := trodAll_nil r2
  obtain rfl : args = #[v0, v1, v2] := by cases args; simp_all
  obtain ⟨rfl, rfl⟩ := trodVars_none hV
  obtain ⟨a0, n0, c0, rfl⟩ := okWide_slice Tryz.underlying23 (hval 0 23 v0 rfl rfl)
  have k0 := h0
  have lt0 : ∀ x ∈ p0, x.block < W.heap.size := by obtain ⟨m, hm⟩ := k0; exact DataW.trod_lt m _ _ _ hm
  obtain ⟨l0, s0, z0⟩ : ∃ l, TreeArg W a0 n0 c0 l ∧ Wide l := by
    obtain ⟨fuel, hf⟩ := h0
    exact tree_wide hf (by simp [Value.cells]) (fun k hk => by have := List.all_eq_true.1 hsz _ (DataW.weights_mem_each (j := 0) rfl rfl k hk); simpa using this)
  obtain ⟨a1, n1, c1, rfl⟩ := okWide_slice Tryz.underlying24 (hval 1 24 v1 rfl rfl)
  have k1 := h1
  have lt1 : ∀ x ∈ p1, x.block < W.heap.size := by obtain ⟨m, hm⟩ := k1; exact DataW.trod_lt m _ _ _ hm
  obtain ⟨l1, s1⟩ : ∃ l, PrsArg W a1 n1 c1 l := by
    obtain ⟨fuel, hf⟩ := h1
    exact prs_in hf (by simp [Value.cells])
  obtain ⟨a2, n2, c2, rfl⟩ := okWide_slice Tryz.underlying24 (hval 2 24 v2 rfl rfl)
  have k2 := h2
  have lt2 : ∀ x ∈ p2, x.block < W.heap.size := by obtain ⟨m, hm⟩ := k2; exact DataW.trod_lt m _ _ _ hm
  obtain ⟨l2, s2⟩ : ∃ l, PrsArg W a2 n2 c2 l := by
    obtain ⟨fuel, hf⟩ := h2
    exact prs_in hf (by simp [Value.cells])
  clear hA0 hval0 hsz hsz0
  refine (flowTells_walk a0 n0 c0 l0 a1 n1 c1 l1 a2 n2 c2 l2 W s0 z0 s1 s2).mono fun e W' ⟨he, bel⟩ => ?_
  subst he
  exact ⟨_, rfl, _, _, _, [], _, [], hW', trodAll_mk1 (shut_bool Tryz.underlying4 _), (trodAll_cons_mk (Below.trod flowTells_laidOut (by kernel_rfl) (of_decide_eq_true (by kernel_rfl)) k0 bel lt0) (trodAll_cons_mk (Below.trod flowTells_laidOut (by kernel_rfl) (of_decide_eq_true (by kernel_rfl)) k1 bel lt1) (trodAll_cons_mk (Below.trod flowTells_laidOut (by kernel_rfl) (of_decide_eq_true (by kernel_rfl)) k2 bel lt2) trodAll_mk0))), rfl, bel.frame _, fun h => by cases h⟩

/-- The statement. -/
theorem flowTells_proved : Rows.FlowTellsSaid :=
  OpenClaim.holds_of_wide 3 Tryz.f3 rfl rfl rfl rfl rfl rfl rfl ⟨rfl, rfl, rfl, rfl, rfl⟩ rfl rfl rfl rfl rfl (by kernel_rfl) Tryz.func3 (by kernel_rfl)
    (of_decide_eq_true (by kernel_rfl)) (by unfold Func.isWrapper; first | (rw [if_pos (by decide +kernel)]; kernel_rfl) | (rw [if_neg (by decide +kernel)]; exact ⟨rfl, rfl⟩))
    (fun os started H enc _ => flowTells_lifted os started H enc)

#print axioms flowTells_proved
end Go.Proofs.YteiidklmlelabaaGreat
