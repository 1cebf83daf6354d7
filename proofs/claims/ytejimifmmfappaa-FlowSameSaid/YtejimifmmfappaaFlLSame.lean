/-
  The statement FlowSame: where both lists change a tree, one behind the other, those that are told do so, in their order, to the same.
-/
import Derived.Test.YtejimifmmfappaaFlAwake
import Derived.Test.YtejimifmmfappaaFlOpen
import Derived.Test.YtejimifmmfappaaFlLaw
import Derived.OpenShut
import Derived.ShutString
import Derived.BigQuiet
set_option maxRecDepth 100000
namespace Go.Proofs.Ytejimifmmfappaa
open Go.RowKit
set_option linter.unusedVariables false
open Tr Tx Hk Pr Fl
namespace FlL

set_option maxRecDepth 100000 in
set_option maxHeartbeats 8000000 in
theorem flowSame_walk (A_t : Option Addr) (n_t c_t : Nat) (t : TR) (A_a : Option Addr) (n_a c_a : Nat) (a : List Ch) (A_b : Option Addr) (n_b c_b : Nat) (b : List Ch) (w : World) (h_t : TreeArg w A_t n_t c_t t) (hw_t : Wide t) (h_a : PrsArg w A_a n_a c_a a) (h_b : PrsArg w A_b n_b c_b b) :
    Calls Try.prog 4 #[.slice A_t n_t c_t, .slice A_a n_a c_a, .slice A_b n_b c_b] w (LawEnd w) := by
  have HT_t := Lib.hid h_t.rd; have HN_t := Lib.hid h_t.len; have HF_t := Lib.hid h_t.fit; have HC_t := Lib.hid h_t.le; have HW_t := Lib.hid hw_t
  have HR_a := Lib.hid h_a.rd; have HN_a := Lib.hid h_a.len; have HC_a := Lib.hid h_a.cap; have HM_a := Lib.hid h_a.le
  have HR_b := Lib.hid h_b.rd; have HN_b := Lib.hid h_b.len; have HC_b := Lib.hid h_b.cap; have HM_b := Lib.hid h_b.le
  have HB := Lib.hid (Below.refl w.heap.size w)
  clear h_t hw_t h_a h_b
  go_enter Try.func4, Try.ntmps4
  go_wp2_with fail
  refine (Fl.awake w).mono ?_
  rintro e w1 ⟨rfl, hb⟩
  replace HT_t := Lib.hid (HT_t.out.mv hb)
  replace HR_a := Lib.hid (HR_a.out.mv hb)
  replace HR_b := Lib.hid (HR_b.out.mv hb)
  replace HB := Lib.hid (below_mv HB.out hb)
  clear hb
  go_wp2_with fail
  refine (LightT A_t c_t n_t _ t _ HN_t.out HC_t.out HF_t.out HT_t.out).mono ?_
  rintro e w' ⟨rfl, rfl⟩
  obtain ⟨bt_t, hbl⟩ : ∃ bb, lightT t = bb := ⟨_, rfl⟩
  rw [hbl]
  have HBL_t := Lib.hid hbl; clear hbl
  obtain ⟨bl_a, hbl⟩ : ∃ bb, fewP a 20 = bb := ⟨_, rfl⟩
  have HBL_a := Lib.hid hbl; clear hbl
  go_wp2_with fail
  refine (Few A_a n_a c_a 20 a _ bl_a (by decide) ⟨HN_a.out, HC_a.out, HM_a.out, HR_a.out⟩ HBL_a.out).mono ?_
  rintro e w2 ⟨rfl, hb⟩
  replace HT_t := Lib.hid (HT_t.out.mv hb)
  replace HR_a := Lib.hid (HR_a.out.mv hb)
  replace HR_b := Lib.hid (HR_b.out.mv hb)
  replace HB := Lib.hid (below_mv HB.out hb)
  clear hb
  obtain ⟨bl_b, hbl⟩ : ∃ bb, fewP b 20 = bb := ⟨_, rfl⟩
  have HBL_b := Lib.hid hbl; clear hbl
  go_wp2_with fail
  refine (Few A_b n_b c_b 20 b _ bl_b (by decide) ⟨HN_b.out, HC_b.out, HM_b.out, HR_b.out⟩ HBL_b.out).mono ?_
  rintro e w3 ⟨rfl, hb⟩
  replace HT_t := Lib.hid (HT_t.out.mv hb)
  replace HR_a := Lib.hid (HR_a.out.mv hb)
  replace HR_b := Lib.hid (HR_b.out.mv hb)
  replace HB := Lib.hid (below_mv HB.out hb)
  clear hb
  cases bt_t with
  | false =>
    go_wp2
    go_ret
    exact ⟨rfl, HB.out⟩
  | true =>
  have HS_t := Lib.hid (lightT_small HBL_t.out).2; have HK40_t := Lib.hid (lightT_small HBL_t.out).1; clear HF_t HC_t
  cases bl_a with
  | false =>
    go_wp2
    go_ret
    exact ⟨rfl, HB.out⟩
  | true =>
  have HL_a := Lib.hid (fewP_lt HBL_a.out); have HQ_a : Hid (n_a ≤ 40) := Lib.hid (by have h1 := fewP_len HBL_a.out; have h2 := HN_a.out; omega)
  cases bl_b with
  | false =>
    go_wp2
    go_ret
    exact ⟨rfl, HB.out⟩
  | true =>
  have HL_b := Lib.hid (fewP_lt HBL_b.out); have HQ_b : Hid (n_b ≤ 40) := Lib.hid (by have h1 := fewP_len HBL_b.out; have h2 := HN_b.out; omega)
  cases hm : mayT t with
  | false =>
    go_wp2_with fail
    refine (MayC (b := false) HN_t.out HS_t.out HT_t.out hm).mono ?_
    rintro e w4 ⟨rfl, hb⟩
    replace HT_t := Lib.hid (HT_t.out.mv hb)
    replace HR_a := Lib.hid (HR_a.out.mv hb)
    replace HR_b := Lib.hid (HR_b.out.mv hb)
    replace HB := Lib.hid (below_mv HB.out hb)
    clear hb
    go_wp2
    go_ret
    exact ⟨rfl, HB.out⟩
  | true =>
  have HUP := Lib.hid (mayT_up hm); have HM := Lib.hid hm; clear hm
  go_wp2_with fail
  refine (MayC (b := true) HN_t.out HS_t.out HT_t.out HM.out).mono ?_
  rintro e w4 ⟨rfl, hb⟩
  replace HT_t := Lib.hid (HT_t.out.mv hb)
  replace HR_a := Lib.hid (HR_a.out.mv hb)
  replace HR_b := Lib.hid (HR_b.out.mv hb)
  replace HB := Lib.hid (below_mv HB.out hb)
  clear hb
  go_wp2_with fail
  obtain ⟨⟨x, y⟩, hx⟩ : ∃ z, outF (passF a b) = z := ⟨_, rfl⟩
  obtain ⟨bo, hs⟩ : ∃ bb, (passF a b).isSome = bb := ⟨_, rfl⟩
  have HX_x := Lib.hid hx; have HS_x := Lib.hid hs; clear hx hs
  refine (PassL A_a n_a c_a A_b n_b c_b a b x y w4 bo HN_a.out HN_b.out (by have := HQ_a.out; omega) (by have := HQ_b.out; omega) HL_a.out HL_b.out HR_a.out HR_b.out HX_x.out HS_x.out).mono ?_
  rintro e w5 ⟨A_x, c_x, A_y, c_y, rfl, hx, hy, hb⟩
  replace HT_t := Lib.hid (HT_t.out.mv hb)
  replace HR_a := Lib.hid (HR_a.out.mv hb)
  replace HR_b := Lib.hid (HR_b.out.mv hb)
  replace HB := Lib.hid (below_mv HB.out hb)
  clear hb
  have HR_x := Lib.hid hx; have HR_y := Lib.hid hy; clear hx hy
  obtain ⟨n_x, hn⟩ : ∃ n, List.length x = n := ⟨_, rfl⟩
  rw [hn]
  have HN_x := Lib.hid hn; clear hn
  obtain ⟨n_y, hn⟩ : ∃ n, List.length y = n := ⟨_, rfl⟩
  rw [hn]
  have HN_y := Lib.hid hn; clear hn
  obtain ⟨l1, l2, l3, l4⟩ := outF_good HX_x.out HL_a.out HL_b.out
  have HL_x := Lib.hid l1; have HL_y := Lib.hid l2; clear l1 l2
  rw [HN_x.out, HN_b.out] at l3
  rw [HN_y.out, HN_a.out] at l4
  have HQ_x : Hid (n_x ≤ 80) := Lib.hid (by have h4 := HQ_b.out; omega); have HQ_y : Hid (n_y ≤ 80) := Lib.hid (by have h4 := HQ_a.out; omega)
  clear l3 l4
  go_wp2_with (at_builtin; first
    | (refine wpList_ownPL rfl (.const (.slice none 0 0)) (.tmp 54) rfl w5.heap.size w5.heap.size n_a c_a (.slice none 0 0) A_a [] a rfl rfl (ownP_nil _ _) HR_a.out (Nat.le_refl _) HN_a.out (by have := HQ_a.out; simp; omega) (Nat.le_refl _) ?_; intro va wa ho hg; have hb2 : Below w5.heap.size w5 wa := (Below.refl _ _).grown hg (Nat.le_refl _) (fun k e => by cases e); have HO_ab := Lib.hid (show OwnP wa w5.heap.size va a from ho); have HB_ab := Lib.hid hb2; clear ho hg hb2)
    | (refine wpList_ownPL rfl (.tmp 55) (.tmp 56) rfl w5.heap.size w5.heap.size n_b c_b va A_b a b rfl rfl HO_ab.out (HR_b.out.below HB_ab.out) (Nat.le_refl _) HN_b.out (by have h1 := HQ_b.out; have h2 := HQ_a.out; have h3 := HN_a.out; omega) HB_ab.out.size ?_; intro vb w6 ho hg; have hb3 : Below w5.heap.size w5 w6 := HB_ab.out.grown hg HB_ab.out.size (fun k e => ownP_ge HO_ab.out k e); have HP_ab := Lib.hid ho; have HD_ab := Lib.hid hb3; clear ho hg hb3 HO_ab HB_ab; obtain ⟨A_ab, c_ab, hv, hc, hr, _⟩ := rdP_own HP_ab.out; have HR_ab := Lib.hid hr; obtain ⟨n_ab, hn⟩ : ∃ n, List.length (a ++ b) = n := ⟨_, rfl⟩; rw [hn] at hv; subst hv; have HN_ab := Lib.hid hn; clear hc hr HP_ab hn))
  have hb := HD_ab.out
  clear HD_ab
  replace HT_t := Lib.hid (HT_t.out.mv hb)
  replace HR_a := Lib.hid (HR_a.out.mv hb)
  replace HR_b := Lib.hid (HR_b.out.mv hb)
  replace HR_x := Lib.hid (HR_x.out.mv hb)
  replace HR_y := Lib.hid (HR_y.out.mv hb)
  replace HB := Lib.hid (below_mv HB.out hb)
  clear hb
  have HL_ab := Lib.hid (Lt.app HL_a.out HL_b.out); have HQ_ab : Hid (n_ab ≤ 160) := Lib.hid (by have h1 := HN_ab.out; rw [List.length_append, HN_a.out, HN_b.out] at h1; have h2 := HQ_a.out; have h3 := HQ_b.out; omega)
  obtain ⟨⟨r, u⟩, hD⟩ : ∃ D, doF t (a ++ b) = D := ⟨_, rfl⟩
  have HD_u := Lib.hid hD
  clear hD
  refine (ApplyL 41 600 A_t n_t c_t A_ab n_ab c_ab t (a ++ b) _ _ ((most_light HBL_t.out).mono (k' := 41) (l' := 600) (by decide) (by decide)) (by have := HQ_ab.out; omega) (by have := HQ_ab.out; omega) HN_t.out HN_ab.out HL_ab.out HT_t.out HR_ab.out HD_u.out).mono ?_
  rintro e w7 ⟨A_u, n_u, c_u, rfl, hc, hn, hr, hb⟩
  replace HT_t := Lib.hid (HT_t.out.mv hb)
  replace HR_a := Lib.hid (HR_a.out.mv hb)
  replace HR_b := Lib.hid (HR_b.out.mv hb)
  replace HR_x := Lib.hid (HR_x.out.mv hb)
  replace HR_y := Lib.hid (HR_y.out.mv hb)
  replace HR_ab := Lib.hid (HR_ab.out.mv hb)
  replace HB := Lib.hid (below_mv HB.out hb)
  clear hb
  have HT_u := Lib.hid hr; have HN_u := Lib.hid (show List.length u = n_u from hn); clear hr hc hn
  cases bo with
  | false =>
    go_wp2
    go_ret
    exact ⟨rfl, HB.out⟩
  | true =>
  by_cases h0 : r = 0
  case neg =>
    have e0 : (r != 0) = true := by rw [bne_iff_ne]; exact h0
    have e1 : (r == 0) = false := by rw [beq_eq_false_iff_ne]; exact h0
    go_wp2
    go_ret
    exact ⟨rfl, HB.out⟩
  subst h0
  have HPS := Lib.hid (passF_same HUP.out (outF_of HX_x.out HS_x.out) HD_u.out)
  have HS_u := Lib.hid (mostF (most_light HBL_t.out) (by have h1 := HN_ab.out; have h2 := HQ_ab.out; omega) (by have h1 := HN_ab.out; have h2 := HQ_ab.out; omega) HL_ab.out HD_u.out).s
  go_wp2_with (at_builtin; first
    | (refine wpList_ownPL rfl (.const (.slice none 0 0)) (.tmp 69) rfl w7.heap.size w7.heap.size n_x c_x (.slice none 0 0) A_x [] x rfl rfl (ownP_nil _ _) HR_x.out (Nat.le_refl _) HN_x.out (by have := HQ_x.out; simp; omega) (Nat.le_refl _) ?_; intro va wa ho hg; have hb2 : Below w7.heap.size w7 wa := (Below.refl _ _).grown hg (Nat.le_refl _) (fun k e => by cases e); have HO_xy := Lib.hid (show OwnP wa w7.heap.size va x from ho); have HB_xy := Lib.hid hb2; clear ho hg hb2)
    | (refine wpList_ownPL rfl (.tmp 70) (.tmp 71) rfl w7.heap.size w7.heap.size n_y c_y va A_y x y rfl rfl HO_xy.out (HR_y.out.below HB_xy.out) (Nat.le_refl _) HN_y.out (by have h1 := HQ_y.out; have h2 := HQ_x.out; have h3 := HN_x.out; omega) HB_xy.out.size ?_; intro vb w8 ho hg; have hb3 : Below w7.heap.size w7 w8 := HB_xy.out.grown hg HB_xy.out.size (fun k e => ownP_ge HO_xy.out k e); have HP_xy := Lib.hid ho; have HD_xy := Lib.hid hb3; clear ho hg hb3 HO_xy HB_xy; obtain ⟨A_xy, c_xy, hv, hc, hr, _⟩ := rdP_own HP_xy.out; have HR_xy := Lib.hid hr; obtain ⟨n_xy, hn⟩ : ∃ n, List.length (x ++ y) = n := ⟨_, rfl⟩; rw [hn] at hv; subst hv; have HN_xy := Lib.hid hn; clear hc hr HP_xy hn))
  have hb := HD_xy.out
  clear HD_xy
  replace HT_t := Lib.hid (HT_t.out.mv hb)
  replace HT_u := Lib.hid (HT_u.out.mv hb)
  replace HR_a := Lib.hid (HR_a.out.mv hb)
  replace HR_b := Lib.hid (HR_b.out.mv hb)
  replace HR_x := Lib.hid (HR_x.out.mv hb)
  replace HR_y := Lib.hid (HR_y.out.mv hb)
  replace HR_ab := Lib.hid (HR_ab.out.mv hb)
  replace HB := Lib.hid (below_mv HB.out hb)
  clear hb
  have HL_xy := Lib.hid (Lt.app HL_x.out HL_y.out); have HQ_xy : Hid (n_xy ≤ 160) := Lib.hid (by have h1 := HN_xy.out; rw [List.length_append, HN_x.out, HN_y.out] at h1; have h2 := HQ_x.out; have h3 := HQ_y.out; omega)
  refine (ApplyL 41 600 A_t n_t c_t A_xy n_xy c_xy t (x ++ y) _ _ ((most_light HBL_t.out).mono (k' := 41) (l' := 600) (by decide) (by decide)) (by have := HQ_xy.out; omega) (by have := HQ_xy.out; omega) HN_t.out HN_xy.out HL_xy.out HT_t.out HR_xy.out HPS.out).mono ?_
  rintro e w9 ⟨A_v, n_v, c_v, rfl, hc, hn, hr, hb⟩
  replace HT_t := Lib.hid (HT_t.out.mv hb)
  replace HT_u := Lib.hid (HT_u.out.mv hb)
  replace HR_a := Lib.hid (HR_a.out.mv hb)
  replace HR_b := Lib.hid (HR_b.out.mv hb)
  replace HR_x := Lib.hid (HR_x.out.mv hb)
  replace HR_y := Lib.hid (HR_y.out.mv hb)
  replace HR_ab := Lib.hid (HR_ab.out.mv hb)
  replace HR_xy := Lib.hid (HR_xy.out.mv hb)
  replace HB := Lib.hid (below_mv HB.out hb)
  clear hb
  have HT_v := Lib.hid hr; have HN_v := Lib.hid (show List.length u = n_v from hn); clear hr hc hn
  go_wp2_with fail
  refine (SameC (b := true) HN_u.out HN_v.out HS_u.out HT_u.out HT_v.out (decide_eq_true rfl)).mono ?_
  rintro e w10 ⟨rfl, hb⟩
  replace HT_t := Lib.hid (HT_t.out.mv hb)
  replace HT_u := Lib.hid (HT_u.out.mv hb)
  replace HT_v := Lib.hid (HT_v.out.mv hb)
  replace HR_a := Lib.hid (HR_a.out.mv hb)
  replace HR_b := Lib.hid (HR_b.out.mv hb)
  replace HR_x := Lib.hid (HR_x.out.mv hb)
  replace HR_y := Lib.hid (HR_y.out.mv hb)
  replace HR_ab := Lib.hid (HR_ab.out.mv hb)
  replace HR_xy := Lib.hid (HR_xy.out.mv hb)
  replace HB := Lib.hid (below_mv HB.out hb)
  clear hb
  go_wp2
  go_ret
  exact ⟨rfl, HB.out⟩

end FlL
open FlL
open Tx
open Go.ChangeShapes Go.WideShapes Go.ChangeAt

theorem flowSame_own : ownKnob Try.prog.godebug = none := by kernel_rfl
theorem flowSame_laidOut : laidOutB Try.prog = true := by kernel_rfl

set_option maxRecDepth 100000 in
theorem flowSame_lifted (os : Os) (started : os.Started) (H : Type) (enc : TypeId × Value → H) :
    ReturnsInHanded {} Try.checked os 4 .any (Rows.flowSameSpec.pre6 enc Try.prog Try.f4 Rows.flowSameRow.domain false) (Rows.flowSameSpec.post enc Try.prog Try.f4 false true false false) := by
  refine returnsInHanded_of_change_sized (C := Try.checked) flowSame_own started (by kernel_rfl) Try.func4
    (ChangeSpec.witness6 (enc := enc) (C := Try.checked) false ⟨#[], #[.slice none 0 0, .slice none 0 0, .slice none 0 0], []⟩ 8 (by kernel_rfl) (by kernel_rfl) (by kernel_rfl) (by kernel_rfl)) ?_
  intro W base args ds gs before hval0 hW hcnd hsz0 _
  have hval : ∀ (j : Nat) t v, Try.f4.params[j]? = some t → args[j]? = some v → Value.okWide Try.prog W .any base t v := hval0
  have hsz : (DataW.weightsEach Try.prog (Try.f4.params.toList ++ Rows.flowSameSpec.plain.varTypes Try.prog) (ds ++ gs)).all (· ≤ reachBytes) = true := hsz0
  have hW' := hW
  obtain ⟨p, q, hA0, hV, rfl, hfz, hnd⟩ := hW
  have hA : DataW.TrodAll enc Try.prog W 0 (fun _ => true) true Try.f4.params.toList args.toList ds p := hA0
  rw [Try.params4] at hA hval hsz
  obtain ⟨v0, vs0, d0, ds0, p0, q0, hargs, rfl, rfl, h0, r0⟩ := trodAll_cons hA
  obtain ⟨v1, vs1, d1, ds1, p1, q1, rfl, rfl, rfl, h1, r1⟩ := trodAll_cons r0
  obtain ⟨v2, vs2, d2, ds2, p2, q2, rfl, rfl, rfl, h2, r2⟩ := trodAll_cons r1
  obtain ⟨rfl, rfl, rfl⟩ := trodAll_nil r2
  obtain rfl : args = #[v0, v1, v2] := by cases args; simp_all
  obtain ⟨rfl, rfl⟩ := trodVars_none hV
  obtain ⟨a0, n0, c0, rfl⟩ := okWide_slice Try.underlying29 (hval 0 29 v0 rfl rfl)
  have k0 := h0
  have lt0 : ∀ x ∈ p0, x.block < W.heap.size := by obtain ⟨m, hm⟩ := k0; exact DataW.trod_lt m _ _ _ hm
  obtain ⟨l0, s0, z0⟩ : ∃ l, TreeArg W a0 n0 c0 l ∧ Wide l := by
    obtain ⟨fuel, hf⟩ := h0
    exact tree_wide hf (by simp [Value.cells]) (fun k hk => by have := List.all_eq_true.1 hsz _ (DataW.weights_mem_each (j := 0) rfl rfl k hk); simpa using this)
  obtain ⟨a1, n1, c1, rfl⟩ := okWide_slice Try.underlying22 (hval 1 22 v1 rfl rfl)
  have k1 := h1
  have lt1 : ∀ x ∈ p1, x.block < W.heap.size := by obtain ⟨m, hm⟩ := k1; exact DataW.trod_lt m _ _ _ hm
  obtain ⟨l1, s1⟩ : ∃ l, PrsArg W a1 n1 c1 l := by
    obtain ⟨fuel, hf⟩ := h1
    exact prs_in hf (by simp [Value.cells])
  obtain ⟨a2, n2, c2, rfl⟩ := okWide_slice Try.underlying22 (hval 2 22 v2 rfl rfl)
  have k2 := h2
  have lt2 : ∀ x ∈ p2, x.block < W.heap.size := by obtain ⟨m, hm⟩ := k2; exact DataW.trod_lt m _ _ _ hm
  obtain ⟨l2, s2⟩ : ∃ l, PrsArg W a2 n2 c2 l := by
    obtain ⟨fuel, hf⟩ := h2
    exact prs_in hf (by simp [Value.cells])
  clear hA0 hval0 hsz hsz0
  refine (flowSame_walk a0 n0 c0 l0 a1 n1 c1 l1 a2 n2 c2 l2 W s0 z0 s1 s2).mono fun e W' ⟨he, bel⟩ => ?_
  subst he
  exact ⟨_, rfl, _, _, _, [], _, [], hW', trodAll_mk1 (shut_bool Try.underlying4 _), (trodAll_cons_mk (Below.trod flowSame_laidOut (by kernel_rfl) (of_decide_eq_true (by kernel_rfl)) k0 bel lt0) (trodAll_cons_mk (Below.trod flowSame_laidOut (by kernel_rfl) (of_decide_eq_true (by kernel_rfl)) k1 bel lt1) (trodAll_cons_mk (Below.trod flowSame_laidOut (by kernel_rfl) (of_decide_eq_true (by kernel_rfl)) k2 bel lt2) trodAll_mk0))), rfl, bel.frame _, fun h => by cases h⟩

/-- The statement. -/
theorem flowSame_proved : Rows.FlowSameSaid :=
  OpenClaim.holds_of_wide 4 Try.f4 rfl rfl rfl rfl rfl rfl rfl ⟨rfl, rfl, rfl, rfl, rfl⟩ rfl rfl rfl rfl rfl (by kernel_rfl) Try.func4 (by kernel_rfl)
    (of_decide_eq_true (by kernel_rfl)) (by unfold Func.isWrapper; first | (rw [if_pos (by decide +kernel)]; kernel_rfl) | (rw [if_neg (by decide +kernel)]; exact ⟨rfl, rfl⟩))
    (fun os started H enc _ => flowSame_lifted os started H enc)

#print axioms flowSame_proved
end Go.Proofs.Ytejimifmmfappaa
