/-
  The statement PatchApplies: what any tree becomes by any patches, all their changes, and where any id stands, is what the document says.
-/
import Derived.Test.YtcfoodbfapldbaaGreatPnAwake
import Derived.Test.YtcfoodbfapldbaaGreatPnRef
import Derived.Test.YtcfoodbfapldbaaGreatFlLaw
import Derived.Test.YtcfoodbfapldbaaGreatGV
import Derived.Test.YtcfoodbfapldbaaGreatGQ
import Derived.OpenShut
import Derived.ShutString
import Derived.BigQuiet
set_option maxRecDepth 100000
namespace Go.Proofs.YtcfoodbfapldbaaGreat
open Go.RowKit
set_option linter.unusedVariables false
set_option linter.unusedSimpArgs false
open Tr Tx Hk Pr Fl Pn
namespace PnL
attribute [local go_sem] eq_id

set_option maxRecDepth 100000 in
set_option maxHeartbeats 8000000 in
theorem patchApplies_walk (A_t : Option Addr) (n_t c_t : Nat) (t : TR) (A_l : Option Addr) (n_l c_l : Nat) (l : List Nm) (x : Id_) (w : World) (h_t : TreeArg w A_t n_t c_t t) (h_l : NmsArg w A_l n_l c_l l) :
    Calls Tryz.prog 3 #[.slice A_t n_t c_t, .slice A_l n_l c_l, .agg #[.int .i64 x.1, .int .i64 x.2]] w (LawEnd w) := by
  have b0 := (Blk.new w 26 #[.int .i64 x.1, .int .i64 x.2])
  have hb : Below w.heap.size w (w.alloc (.cells #[.int .i64 x.1, .int .i64 x.2] 26)) := ((Below.refl w.heap.size w).alloc (by simp; try omega) (.cells #[.int .i64 x.1, .int .i64 x.2] 26))
  have HT_t := Lib.hid h_t.rd; have HN_t := Lib.hid h_t.len; have HF_t := Lib.hid h_t.fit; have HC_t := Lib.hid h_t.le; have HK_t := Lib.hid h_t.cap
  clear h_t
  have HR_l := Lib.hid h_l.rd; have HN_l := Lib.hid h_l.len; have HC_l := Lib.hid h_l.cap; have HM_l := Lib.hid h_l.le
  clear h_l
  replace HR_l := Lib.hid (RdN.mv HR_l.out hb); replace HT_t := Lib.hid (HT_t.out.mv hb)
  go_enter Tryz.func3, Tryz.ntmps3
  go_upto_region 1 with fail
  generalize (w.alloc (.cells #[.int .i64 x.1, .int .i64 x.2] 26)) = w_1 at b0 HR_l HT_t hb ⊢
  obtain ⟨z, hz⟩ : ∃ z, w.heap.size = z := ⟨_, rfl⟩
  rw [hz] at b0 ⊢
  have BX := Lib.hid b0
  have HZ := Lib.hid hz
  clear b0 hz
  have HB := Lib.hid hb; clear hb
  go_wp2_with fail
  refine (Pn.awake w_1).mono ?_
  rintro e w_2 ⟨rfl, hb⟩
  replace HT_t := Lib.hid (HT_t.out.mv hb)
  replace HR_l := Lib.hid (RdN.mv HR_l.out hb)
  replace BX := Lib.hid (BX.out.below hb BX.out.lt)
  replace HB := Lib.hid (below_mv HB.out hb)
  clear hb
  go_wp2_with fail
  refine (LightT A_t c_t n_t _ t _ HN_t.out HC_t.out HF_t.out HT_t.out).mono ?_
  rintro e w' ⟨rfl, rfl⟩
  obtain ⟨bt_t, hbl⟩ : ∃ bb, lightT t = bb := ⟨_, rfl⟩
  rw [hbl]
  have HBL_t := Lib.hid hbl; clear hbl
  obtain ⟨bl_l, hbl⟩ : ∃ bb, fewN l 12 = bb := ⟨_, rfl⟩
  have HBL_l := Lib.hid hbl; clear hbl
  go_wp2_with fail
  refine (FewN A_l n_l c_l 12 l w_2 bl_l (by decide) ⟨HN_l.out, HC_l.out, HM_l.out, HR_l.out⟩ HBL_l.out).mono ?_
  rintro e w_3 ⟨rfl, hb⟩
  replace HT_t := Lib.hid (HT_t.out.mv hb)
  replace HR_l := Lib.hid (RdN.mv HR_l.out hb)
  replace BX := Lib.hid (BX.out.below hb BX.out.lt)
  replace HB := Lib.hid (below_mv HB.out hb)
  clear hb
  cases bt_t with
  | false =>
    go_wp2
    go_ret
    exact ⟨rfl, HB.out⟩
  | true =>
  have HS_t := Lib.hid (lightT_small HBL_t.out).2; have HM40_t := Lib.hid (most_light HBL_t.out); clear HF_t HC_t
  cases bl_l with
  | false =>
    go_wp2
    go_ret
    exact ⟨rfl, HB.out⟩
  | true =>
  have HQ_l : Hid (n_l ≤ 12) := Lib.hid (by have h1 := fewN_len HBL_l.out; rw [HN_l.out] at h1; exact h1)
  have HT_l : Hid ((allN l).length ≤ 120 ∧ Lt (allN l)) := Lib.hid (by
    obtain ⟨h1, h2⟩ := allN_few (fewN_all HBL_l.out)
    have h3 := fewN_len HBL_l.out
    exact ⟨by omega, h2⟩)
  obtain ⟨⟨r, u⟩, hD⟩ : ∃ D, doN t l = D := ⟨_, rfl⟩
  have HD_u := Lib.hid hD; clear hD
  go_wp2_with fail
  refine (ApplyN 40 300 A_t n_t c_t A_l n_l c_l t l w_3 _ HM40_t.out (by decide) (by decide) HN_t.out HN_l.out (by have := HQ_l.out; omega) (by have := HT_l.out.1; omega) HT_l.out.2 HT_t.out HR_l.out HD_u.out).mono ?_
  rintro e w_4 ⟨A_u, n_u, c_u, rfl, hc, hn, hr, hb⟩
  replace HT_t := Lib.hid (HT_t.out.mv hb)
  replace HR_l := Lib.hid (RdN.mv HR_l.out hb)
  replace BX := Lib.hid (BX.out.below hb BX.out.lt)
  replace HB := Lib.hid (below_mv HB.out hb)
  clear hb
  have HT_u := Lib.hid hr; have HN_u := Lib.hid (show List.length u = n_u from hn); clear hr hc hn
  have HS_u := Lib.hid (smallF (r := r) HM40_t.out (by have := HT_l.out.1; omega) (by have := HT_l.out.1; omega) HT_l.out.2 HD_u.out)
  go_wp2_with fail
  refine (refApplyN 40 300 A_t n_t c_t A_l n_l c_l t l w_4 (r, u) HM40_t.out (by decide) (by decide) HN_t.out HK_t.out HN_l.out (by have := HQ_l.out; omega) (by have := HT_l.out.1; omega) HT_l.out.2 HT_t.out HR_l.out HD_u.out).mono ?_
  rintro e w_5 ⟨A_v, n_v, c_v, rfl, hc, hn, hr, hb⟩
  replace HT_t := Lib.hid (HT_t.out.mv hb)
  replace HR_l := Lib.hid (RdN.mv HR_l.out hb)
  replace BX := Lib.hid (BX.out.below hb BX.out.lt)
  replace HT_u := Lib.hid (HT_u.out.mv hb)
  replace HB := Lib.hid (below_mv HB.out hb)
  clear hb
  have HT_v := Lib.hid hr; have HN_v := Lib.hid (show List.length u = n_v from hn); clear hr hc hn
  go_wp2_with fail
  refine (refSameTC (b := true) HN_u.out HN_v.out HS_u.out HT_u.out HT_v.out (decide_eq_true rfl)).mono ?_
  rintro e w_6 ⟨rfl, hb⟩
  replace HT_t := Lib.hid (HT_t.out.mv hb)
  replace HR_l := Lib.hid (RdN.mv HR_l.out hb)
  replace BX := Lib.hid (BX.out.below hb BX.out.lt)
  replace HT_u := Lib.hid (HT_u.out.mv hb)
  replace HT_v := Lib.hid (HT_v.out.mv hb)
  replace HB := Lib.hid (below_mv HB.out hb)
  clear hb
  go_wp2_with fail
  refine (AllN A_l n_l c_l l w_6 HN_l.out (by have := HQ_l.out; omega) (by have := HT_l.out.1; omega) HT_l.out.2 HR_l.out).mono ?_
  rintro e w_7 ⟨A_y, c_y, rfl, _, hx, hb⟩
  replace HT_t := Lib.hid (HT_t.out.mv hb)
  replace HR_l := Lib.hid (RdN.mv HR_l.out hb)
  replace BX := Lib.hid (BX.out.below hb BX.out.lt)
  replace HT_u := Lib.hid (HT_u.out.mv hb)
  replace HT_v := Lib.hid (HT_v.out.mv hb)
  replace HB := Lib.hid (below_mv HB.out hb)
  clear hb
  obtain ⟨n_y, hn⟩ : ∃ n, (allN l).length = n := ⟨_, rfl⟩
  rw [hn]
  have HN_y := Lib.hid hn; have HR_y := Lib.hid (hx.mono fun b hb => hb.2); clear hx
  go_wp2_with fail
  refine (refAllN A_l n_l c_l l w_7 HN_l.out (by have := HQ_l.out; omega) (by have := HT_l.out.1; omega) HR_l.out).mono ?_
  rintro e w_8 ⟨A_z, c_z, rfl, _, hx, hb⟩
  replace HT_t := Lib.hid (HT_t.out.mv hb)
  replace HR_l := Lib.hid (RdN.mv HR_l.out hb)
  replace BX := Lib.hid (BX.out.below hb BX.out.lt)
  replace HT_u := Lib.hid (HT_u.out.mv hb)
  replace HT_v := Lib.hid (HT_v.out.mv hb)
  replace HR_y := Lib.hid (RdP.mv HR_y.out hb)
  replace HB := Lib.hid (below_mv HB.out hb)
  clear hb
  rw [hn]
  clear hn
  have HR_z := Lib.hid hx; clear hx
  go_wp2_with fail
  refine (refListL A_y n_y c_y A_z n_y c_z (allN l) (allN l) w_8 true HN_y.out HN_y.out (by have h1 := HT_l.out.1; have h2 := HN_y.out; omega) HR_y.out HR_z.out (listP_self _)).mono ?_
  rintro e w_9 ⟨rfl, hb⟩
  replace HT_t := Lib.hid (HT_t.out.mv hb)
  replace HR_l := Lib.hid (RdN.mv HR_l.out hb)
  replace BX := Lib.hid (BX.out.below hb BX.out.lt)
  replace HT_u := Lib.hid (HT_u.out.mv hb)
  replace HT_v := Lib.hid (HT_v.out.mv hb)
  replace HR_y := Lib.hid (RdP.mv HR_y.out hb)
  replace HR_z := Lib.hid (RdP.mv HR_z.out hb)
  replace HB := Lib.hid (below_mv HB.out hb)
  clear hb
  obtain ⟨f, hf⟩ : ∃ f, findN l x = f := ⟨_, rfl⟩
  have e1 : (r == r) = true := beq_self_eq_true _
  have e2 : (f == f) = true := beq_self_eq_true _
  have PX : Hid (∀ W, Below w_9.heap.size w_9 W → Calls Tryz.prog 13 #[.slice A_l n_l c_l, .agg #[.int .i64 x.1, .int .i64 x.2]] W (fun e u => e = .returned (.int .i64 f) ∧ Below W.heap.size W u)) := Lib.hid (fun W hb => by
    have h1 := FindN x A_l n_l c_l l W HN_l.out (by have := HQ_l.out; omega) (RdN.mv HR_l.out hb)
    rw [hf] at h1
    exact h1)
  have PY : Hid (∀ W, Below w_9.heap.size w_9 W → Calls Tryz.prog 14 #[.slice A_l n_l c_l, .agg #[.int .i64 x.1, .int .i64 x.2]] W (fun e u => e = .returned (.int .i64 f) ∧ Below W.heap.size W u)) := Lib.hid (fun W hb => by
    have h1 := refFindN x A_l n_l c_l l W HN_l.out (by have := HQ_l.out; omega) (RdN.mv HR_l.out hb)
    rw [hf] at h1
    exact h1)
  have HK : Hid (∀ W, Below w_9.heap.size w_9 W → W.cell? ⟨z, 0, none⟩ = some (.int .i64 x.1) ∧ W.cell? ⟨z, 1, none⟩ = some (.int .i64 x.2)) := Lib.hid (fun W hb => ⟨(BX.out.below hb BX.out.lt).cell 0 rfl, (BX.out.below hb BX.out.lt).cell 1 rfl⟩)
  have HD := Lib.hid (show Below w_9.heap.size w_9 w_9.drew from below_drewN (Below.refl w_9.heap.size w_9) 1)
  obtain ⟨z0, z1⟩ := HK.out w_9 (Below.refl _ _)
  go_wp2_with fail
  go_region_held3 (fun W => W.cell? ⟨z, 0, none⟩ = some (.int .i64 x.1) ∧ W.cell? ⟨z, 1, none⟩ = some (.int .i64 x.2))
    (first | go_keep | (exact hz1) | (exact hz2))
    (first
      | (go_at_call 13; (with_reducible refine (PX.out w_9.drew HD.out).mono ?_); rintro e wf ⟨rfl, hb⟩; have hbf := below_mv HD.out hb; have HF1 := Lib.hid hbf; have hz1 := HK.out wf hbf; clear hb hbf)
      | (go_at_call 14; (with_reducible refine (PY.out wf HF1.out).mono ?_); rintro e wg ⟨rfl, hb⟩; have hbg := below_mv HF1.out hb; have HG1 := Lib.hid hbg; have hz2 := HK.out wg hbg; clear hb hbg))
  all_goals
    clear hz1 hz2
    replace HB := Lib.hid (below_mv HB.out HG1.out)
    go_wp2
    go_ret
    exact ⟨rfl, HB.out⟩

end PnL
open PnL
open Tx
open Go.ChangeShapes Go.WideShapes Go.ChangeAt

theorem patchApplies_own : ownKnob Tryz.prog.godebug = none := by kernel_rfl
theorem patchApplies_laidOut : laidOutB Tryz.prog = true := by kernel_rfl

set_option maxRecDepth 100000 in
theorem patchApplies_lifted (os : Os) (started : os.Started) (H : Type) (enc : TypeId × Value → H) :
    ReturnsInHanded {} Tryz.checked os 3 .any (Rows.patchAppliesSpec.pre6 enc Tryz.prog Tryz.f3 Rows.patchAppliesRow.domain false) (Rows.patchAppliesSpec.post enc Tryz.prog Tryz.f3 false true false false) := by
  refine returnsInHanded_of_change (C := Tryz.checked) patchApplies_own started (by kernel_rfl) Tryz.func3
    (ChangeSpec.witness6 (enc := enc) (C := Tryz.checked) false ⟨#[], #[.slice none 0 0, .slice none 0 0, .agg #[.int .i64 0, .int .i64 0]], []⟩ 8 (by kernel_rfl) (by kernel_rfl) (by kernel_rfl) (by kernel_rfl)) ?_
  intro W base args ds gs before hval0 hW hcnd _
  have hval : ∀ (j : Nat) t v, Tryz.f3.params[j]? = some t → args[j]? = some v → Value.okWide Tryz.prog W .any base t v := hval0
  have hW' := hW
  obtain ⟨p, q, hA0, hV, rfl, hfz, hnd⟩ := hW
  have hA : DataW.TrodAll enc Tryz.prog W 0 (fun _ => true) true Tryz.f3.params.toList args.toList ds p := hA0
  rw [Tryz.params3] at hA hval
  obtain ⟨v0, vs0, d0, ds0, p0, q0, hargs, rfl, rfl, h0, r0⟩ := trodAll_cons hA
  obtain ⟨v1, vs1, d1, ds1, p1, q1, rfl, rfl, rfl, h1, r1⟩ := trodAll_cons r0
  obtain ⟨v2, vs2, d2, ds2, p2, q2, rfl, rfl, rfl, h2, r2⟩ := trodAll_cons r1
  obtain ⟨rfl, rfl, rfl⟩ := trodAll_nil r2
  obtain rfl : args = #[v0, v1, v2] := by cases args; simp_all
  obtain ⟨rfl, rfl⟩ := trodVars_none hV
  obtain ⟨a0, n0, c0, rfl⟩ := okWide_slice Tryz.underlying23 (hval 0 23 v0 rfl rfl)
  have k0 := h0
  have lt0 : ∀ x ∈ p0, x.block < W.heap.size := by obtain ⟨m, hm⟩ := k0; exact DataW.trod_lt m _ _ _ hm
  obtain ⟨l0, s0⟩ : ∃ l, TreeArg W a0 n0 c0 l := by
    obtain ⟨fuel, hf⟩ := h0
    exact tree_in hf (by simp [Value.cells])
  obtain ⟨a1, n1, c1, rfl⟩ := okWide_slice Tryz.underlying24 (hval 1 24 v1 rfl rfl)
  have k1 := h1
  have lt1 : ∀ x ∈ p1, x.block < W.heap.size := by obtain ⟨m, hm⟩ := k1; exact DataW.trod_lt m _ _ _ hm
  obtain ⟨l1, s1⟩ : ∃ l, NmsArg W a1 n1 c1 l := by
    obtain ⟨fuel, hf⟩ := h1
    exact nms_in hf (by simp [Value.cells])
  have k2 := h2
  have lt2 : ∀ x ∈ p2, x.block < W.heap.size := by obtain ⟨m, hm⟩ := k2; exact DataW.trod_lt m _ _ _ hm
  obtain ⟨i2, rfl⟩ := id_in (hval 2 26 v2 rfl rfl) h2
  clear hA0 hval0
  refine (patchApplies_walk a0 n0 c0 l0 a1 n1 c1 l1 i2 W s0 s1).mono fun e W' ⟨he, bel⟩ => ?_
  subst he
  exact ⟨_, rfl, _, _, _, [], _, [], hW', trodAll_mk1 (shut_bool Tryz.underlying4 _), (trodAll_cons_mk (Below.trod patchApplies_laidOut (by kernel_rfl) (of_decide_eq_true (by kernel_rfl)) k0 bel lt0) (trodAll_cons_mk (Below.trod patchApplies_laidOut (by kernel_rfl) (of_decide_eq_true (by kernel_rfl)) k1 bel lt1) (trodAll_cons_mk (Below.trod patchApplies_laidOut (by kernel_rfl) (of_decide_eq_true (by kernel_rfl)) k2 bel lt2) trodAll_mk0))), rfl, bel.frame _, fun h => by cases h⟩

/-- The statement. -/
theorem patchApplies_proved : Rows.PatchAppliesSaid :=
  OpenClaim.holds_of_wide 3 Tryz.f3 rfl rfl rfl rfl rfl rfl rfl ⟨rfl, rfl, rfl, rfl, rfl⟩ rfl rfl rfl rfl rfl (by kernel_rfl) Tryz.func3 (by kernel_rfl)
    (of_decide_eq_true (by kernel_rfl)) (by unfold Func.isWrapper; first | (rw [if_pos (by decide +kernel)]; kernel_rfl) | (rw [if_neg (by decide +kernel)]; exact ⟨rfl, rfl⟩))
    (fun os started H enc _ => patchApplies_lifted os started H enc)

#print axioms patchApplies_proved
end Go.Proofs.YtcfoodbfapldbaaGreat
