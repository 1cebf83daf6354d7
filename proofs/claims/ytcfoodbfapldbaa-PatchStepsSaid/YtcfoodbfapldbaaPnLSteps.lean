/-
  The statement PatchSteps: to change a tree by patches is to do so by the first ones, and then by the rest.
-/
import Derived.Test.YtcfoodbfapldbaaPnAwake
import Derived.Test.YtcfoodbfapldbaaFlLaw
import Derived.Test.YtcfoodbfapldbaaGQ
import Derived.OpenShut
import Derived.ShutString
import Derived.BigQuiet
set_option maxRecDepth 100000
namespace Go.Proofs.Ytcfoodbfapldbaa
open Go.RowKit
set_option linter.unusedVariables false
set_option linter.unusedSimpArgs false
open Tr Tx Hk Pr Fl Pn
namespace PnL
attribute [local go_sem] eq_id

set_option maxRecDepth 100000 in
set_option maxHeartbeats 8000000 in
theorem patchSteps_walk (A_t : Option Addr) (n_t c_t : Nat) (t : TR) (A_l : Option Addr) (n_l c_l : Nat) (l : List Nm) (n : Int) (w : World) (h_t : TreeArg w A_t n_t c_t t) (h_l : NmsArg w A_l n_l c_l l) :
    Calls Try.prog 4 #[.slice A_t n_t c_t, .slice A_l n_l c_l, .int .i64 n] w (LawEnd w) := by
  have HT_t := Lib.hid h_t.rd; have HN_t := Lib.hid h_t.len; have HF_t := Lib.hid h_t.fit; have HC_t := Lib.hid h_t.le; have HK_t := Lib.hid h_t.cap
  clear h_t
  have HR_l := Lib.hid h_l.rd; have HN_l := Lib.hid h_l.len; have HC_l := Lib.hid h_l.cap; have HM_l := Lib.hid h_l.le
  clear h_l
  have HB := Lib.hid (Below.refl w.heap.size w)
  go_enter Try.func4, Try.ntmps4
  go_wp2_with fail
  refine (Pn.awake w).mono ?_
  rintro e w_1 ⟨rfl, hb⟩
  replace HT_t := Lib.hid (HT_t.out.mv hb)
  replace HR_l := Lib.hid (RdN.mv HR_l.out hb)
  replace HB := Lib.hid (below_mv HB.out hb)
  clear hb
  go_wp2_with fail
  refine (LightT A_t c_t n_t _ t _ HN_t.out HC_t.out HF_t.out HT_t.out).mono ?_
  rintro e w' ⟨rfl, rfl⟩
  obtain ⟨bt_t, hbl⟩ : ∃ bb, lightT t = bb := ⟨_, rfl⟩
  rw [hbl]
  have HBL_t := Lib.hid hbl; clear hbl
  obtain ⟨bl_l, hbl⟩ : ∃ bb, fewN l 12 = bb := ⟨_, rfl⟩
  have HBL_l := Lib.hid hbl; clear hbl
  go_wp2_with fail
  refine (FewN A_l n_l c_l 12 l w_1 bl_l (by decide) ⟨HN_l.out, HC_l.out, HM_l.out, HR_l.out⟩ HBL_l.out).mono ?_
  rintro e w_2 ⟨rfl, hb⟩
  replace HT_t := Lib.hid (HT_t.out.mv hb)
  replace HR_l := Lib.hid (RdN.mv HR_l.out hb)
  replace HB := Lib.hid (below_mv HB.out hb)
  clear hb
  cases bt_t with
  | false =>
    go_wp2
    go_ret
    exact ⟨rfl, HB.out⟩
  | true =>
  have HS_t := Lib.hid (lightT_small HBL_t.out).2; have HM40_t := Lib.hid (most_light HBL_t.out); clear HF_t HC_t
  cases bl_l with
  | false =>
    go_wp2
    go_ret
    exact ⟨rfl, HB.out⟩
  | true =>
  have HQ_l : Hid (n_l ≤ 12) := Lib.hid (by have h1 := fewN_len HBL_l.out; rw [HN_l.out] at h1; exact h1)
  have HT_l : Hid ((allN l).length ≤ 120 ∧ Lt (allN l)) := Lib.hid (by
    obtain ⟨h1, h2⟩ := allN_few (fewN_all HBL_l.out)
    have h3 := fewN_len HBL_l.out
    exact ⟨by omega, h2⟩)
  obtain ⟨m, hm⟩ : ∃ b, mayT t = b := ⟨_, rfl⟩
  have HM := Lib.hid hm; clear hm
  go_wp2_with fail
  refine (MayC (b := m) HN_t.out HS_t.out HT_t.out HM.out).mono ?_
  rintro e w_3 ⟨rfl, hb⟩
  replace HT_t := Lib.hid (HT_t.out.mv hb)
  replace HR_l := Lib.hid (RdN.mv HR_l.out hb)
  replace HB := Lib.hid (below_mv HB.out hb)
  clear hb
  cases m with
  | false =>
    go_wp2
    go_ret
    exact ⟨rfl, HB.out⟩
  | true =>
  by_cases h0 : n < 0
  case pos =>
    have e0 : decide (n < 0) = true := decide_eq_true h0
    go_wp2
    go_ret
    exact ⟨rfl, HB.out⟩
  have e0 : decide (n < 0) = false := decide_eq_false h0
  by_cases h1 : (n_l : Int) < n
  case pos =>
    have e1 : decide ((n_l : Int) < n) = true := decide_eq_true h1
    go_wp2
    go_ret
    exact ⟨rfl, HB.out⟩
  have e1 : decide ((n_l : Int) < n) = false := decide_eq_false h1
  obtain ⟨k, rfl⟩ : ∃ k : Nat, n = (k : Int) := ⟨n.toNat, by omega⟩
  have hkn : k ≤ n_l := by omega
  have k0 : (0 : Int) ≤ (k : Int) := by omega
  have k1 : (k : Int) ≤ (c_l : Int) := by have := HC_l.out; omega
  have k2 : (k : Int) ≤ (n_l : Int) := by omega
  have HLT := Lib.hid (List.length_take (i := k) (l := l) ▸ (by rw [HN_l.out]; omega) : (l.take k).length = k)
  have HLD := Lib.hid (List.length_drop (i := k) (l := l) ▸ (by rw [HN_l.out]) : (l.drop k).length = n_l - k)
  have HTK := Lib.hid (allN_take k HT_l.out)
  have HSP := Lib.hid (doN_split t l k)
  obtain ⟨⟨r, u⟩, hD⟩ : ∃ D, doN t l = D := ⟨_, rfl⟩
  have HD_u := Lib.hid hD; clear hD
  go_wp2_with fail
  refine (ApplyN 40 300 A_t n_t c_t A_l n_l c_l t l w_3 _ HM40_t.out (by decide) (by decide) HN_t.out HN_l.out (by have := HQ_l.out; omega) (by have := HT_l.out.1; omega) HT_l.out.2 HT_t.out HR_l.out HD_u.out).mono ?_
  rintro e w_4 ⟨A_u, n_u, c_u, rfl, hc, hn, hr, hb⟩
  replace HT_t := Lib.hid (HT_t.out.mv hb)
  replace HR_l := Lib.hid (RdN.mv HR_l.out hb)
  replace HB := Lib.hid (below_mv HB.out hb)
  clear hb
  have HT_u := Lib.hid hr; have HN_u := Lib.hid (show List.length u = n_u from hn); clear hr hc hn
  have HS_u := Lib.hid (smallF (r := r) HM40_t.out (by have := HT_l.out.1; omega) (by have := HT_l.out.1; omega) HT_l.out.2 HD_u.out)
  obtain ⟨⟨f, v⟩, hD⟩ : ∃ D, doN t (l.take k) = D := ⟨_, rfl⟩
  have HD_v := Lib.hid hD; clear hD
  go_wp2_with fail
  refine (ApplyN 40 300 A_t n_t c_t A_l k c_l t (l.take k) w_4 _ HM40_t.out (by decide) (by decide) HN_t.out HLT.out (by have := HQ_l.out; omega) (by have := HTK.out.1.1; omega) HTK.out.1.2 HT_t.out (HR_l.out.take k) HD_v.out).mono ?_
  rintro e w_5 ⟨A_v, n_v, c_v, rfl, hc, hn, hr, hb⟩
  replace HT_t := Lib.hid (HT_t.out.mv hb)
  replace HR_l := Lib.hid (RdN.mv HR_l.out hb)
  replace HT_u := Lib.hid (HT_u.out.mv hb)
  replace HB := Lib.hid (below_mv HB.out hb)
  clear hb
  have HT_v := Lib.hid hr; have HN_v := Lib.hid (show List.length v = n_v from hn); clear hr hc hn
  replace HSP := Lib.hid (show (r, u) = if f = 0 then doF v (allN (l.drop k)) else (f, []) by have h2 := HSP.out; rw [HD_u.out, HD_v.out] at h2; exact h2)
  by_cases hf : f = 0
  case neg =>
    have e2 : (f != 0) = true := by rw [bne_iff_ne]; exact hf
    have h3 := HSP.out
    rw [if_neg hf] at h3
    injection h3 with h3 h4
    have e3 : n_u = 0 := by rw [← HN_u.out, h4]; rfl
    subst h3 e3
    clear HSP h4
    have e4 : (r == r) = true := beq_self_eq_true _
    go_wp2
    go_ret
    exact ⟨rfl, HB.out⟩
  subst hf
  have HFD := Lib.hid (show doF v (allN (l.drop k)) = (r, u) by have h3 := HSP.out; rw [if_pos rfl] at h3; exact h3.symm)
  have HMV := Lib.hid (mostF HM40_t.out (by have := HTK.out.1.1; omega) (by have := HTK.out.1.1; omega) HTK.out.1.2 HD_v.out)
  clear HSP
  have e5 : (r == r) = true := beq_self_eq_true _
  by_cases hck : c_l = k
  case pos =>
    have HRD : Hid (RdN w_5 w_5.heap.size A_l (l.drop k)) := Lib.hid (by rw [List.drop_of_length_le (by rw [HN_l.out]; have := HC_l.out; omega)]; exact .inl rfl)
    go_wp2_with fail
    refine (AllN _ _ _ (l.drop k) w_5 HLD.out (by have := HQ_l.out; omega) (by have := HTK.out.2.1; omega) HTK.out.2.2 HRD.out).mono ?_
    rintro e w_6 ⟨A_x, c_x, rfl, _, hx, hb⟩
    replace HT_t := Lib.hid (HT_t.out.mv hb)
    replace HR_l := Lib.hid (RdN.mv HR_l.out hb)
    replace HT_u := Lib.hid (HT_u.out.mv hb)
    replace HT_v := Lib.hid (HT_v.out.mv hb)
    replace HRD := Lib.hid (RdN.mv HRD.out hb)
    replace HB := Lib.hid (below_mv HB.out hb)
    clear hb
    obtain ⟨n_x, hn⟩ : ∃ n, (allN (l.drop k)).length = n := ⟨_, rfl⟩
    rw [hn]
    have HN_x := Lib.hid hn; have HR_x := Lib.hid (hx.mono fun b hb => hb.2); clear hn hx
    go_wp2_with fail
    refine (ApplyL _ _ A_v n_v c_v A_x n_x c_x v (allN (l.drop k)) w_6 (r, u) HMV.out (by have h1 := HTK.out.1.1; have h2 := HTK.out.2.1; have h3 := HN_x.out; omega) (by have h1 := HTK.out.1.1; have h2 := HTK.out.2.1; have h3 := HN_x.out; omega) HN_v.out HN_x.out HTK.out.2.2 HT_v.out HR_x.out HFD.out).mono ?_
    rintro e w_7 ⟨A_z, n_z, c_z, rfl, hc, hn, hr, hb⟩
    replace HT_t := Lib.hid (HT_t.out.mv hb)
    replace HR_l := Lib.hid (RdN.mv HR_l.out hb)
    replace HT_u := Lib.hid (HT_u.out.mv hb)
    replace HT_v := Lib.hid (HT_v.out.mv hb)
    replace HRD := Lib.hid (RdN.mv HRD.out hb)
    replace HR_x := Lib.hid (RdP.mv HR_x.out hb)
    replace HB := Lib.hid (below_mv HB.out hb)
    clear hb
    have HT_z := Lib.hid hr; have HN_z := Lib.hid (show List.length u = n_z from hn); clear hr hc hn
    go_wp2_with fail
    refine (SameC (b := true) HN_u.out HN_z.out HS_u.out HT_u.out HT_z.out (decide_eq_true rfl)).mono ?_
    rintro e w_8 ⟨rfl, hb⟩
    replace HT_t := Lib.hid (HT_t.out.mv hb)
    replace HR_l := Lib.hid (RdN.mv HR_l.out hb)
    replace HT_u := Lib.hid (HT_u.out.mv hb)
    replace HT_v := Lib.hid (HT_v.out.mv hb)
    replace HRD := Lib.hid (RdN.mv HRD.out hb)
    replace HR_x := Lib.hid (RdP.mv HR_x.out hb)
    replace HT_z := Lib.hid (HT_z.out.mv hb)
    replace HB := Lib.hid (below_mv HB.out hb)
    clear hb
    go_wp2
    go_ret
    exact ⟨rfl, HB.out⟩
  have HRD := Lib.hid (HR_l.out.drop k)
  go_wp2_with fail
  refine (AllN _ _ _ (l.drop k) w_5 HLD.out (by have := HQ_l.out; omega) (by have := HTK.out.2.1; omega) HTK.out.2.2 HRD.out).mono ?_
  rintro e w_6 ⟨A_x, c_x, rfl, _, hx, hb⟩
  replace HT_t := Lib.hid (HT_t.out.mv hb)
  replace HR_l := Lib.hid (RdN.mv HR_l.out hb)
  replace HT_u := Lib.hid (HT_u.out.mv hb)
  replace HT_v := Lib.hid (HT_v.out.mv hb)
  replace HRD := Lib.hid (RdN.mv HRD.out hb)
  replace HB := Lib.hid (below_mv HB.out hb)
  clear hb
  obtain ⟨n_x, hn⟩ : ∃ n, (allN (l.drop k)).length = n := ⟨_, rfl⟩
  rw [hn]
  have HN_x := Lib.hid hn; have HR_x := Lib.hid (hx.mono fun b hb => hb.2); clear hn hx
  go_wp2_with fail
  refine (ApplyL _ _ A_v n_v c_v A_x n_x c_x v (allN (l.drop k)) w_6 (r, u) HMV.out (by have h1 := HTK.out.1.1; have h2 := HTK.out.2.1; have h3 := HN_x.out; omega) (by have h1 := HTK.out.1.1; have h2 := HTK.out.2.1; have h3 := HN_x.out; omega) HN_v.out HN_x.out HTK.out.2.2 HT_v.out HR_x.out HFD.out).mono ?_
  rintro e w_7 ⟨A_z, n_z, c_z, rfl, hc, hn, hr, hb⟩
  replace HT_t := Lib.hid (HT_t.out.mv hb)
  replace HR_l := Lib.hid (RdN.mv HR_l.out hb)
  replace HT_u := Lib.hid (HT_u.out.mv hb)
  replace HT_v := Lib.hid (HT_v.out.mv hb)
  replace HRD := Lib.hid (RdN.mv HRD.out hb)
  replace HR_x := Lib.hid (RdP.mv HR_x.out hb)
  replace HB := Lib.hid (below_mv HB.out hb)
  clear hb
  have HT_z := Lib.hid hr; have HN_z := Lib.hid (show List.length u = n_z from hn); clear hr hc hn
  go_wp2_with fail
  refine (SameC (b := true) HN_u.out HN_z.out HS_u.out HT_u.out HT_z.out (decide_eq_true rfl)).mono ?_
  rintro e w_8 ⟨rfl, hb⟩
  replace HT_t := Lib.hid (HT_t.out.mv hb)
  replace HR_l := Lib.hid (RdN.mv HR_l.out hb)
  replace HT_u := Lib.hid (HT_u.out.mv hb)
  replace HT_v := Lib.hid (HT_v.out.mv hb)
  replace HRD := Lib.hid (RdN.mv HRD.out hb)
  replace HR_x := Lib.hid (RdP.mv HR_x.out hb)
  replace HT_z := Lib.hid (HT_z.out.mv hb)
  replace HB := Lib.hid (below_mv HB.out hb)
  clear hb
  go_wp2
  go_ret
  exact ⟨rfl, HB.out⟩

end PnL
open PnL
open Tx
open Go.ChangeShapes Go.WideShapes Go.ChangeAt

theorem patchSteps_own : ownKnob Try.prog.godebug = none := by kernel_rfl
theorem patchSteps_laidOut : laidOutB Try.prog = true := by kernel_rfl

set_option maxRecDepth 100000 in
theorem patchSteps_lifted (os : Os) (started : os.Started) (H : Type) (enc : TypeId × Value → H) :
    ReturnsInHanded {} Try.checked os 4 .any (Rows.patchStepsSpec.pre6 enc Try.prog Try.f4 Rows.patchStepsRow.domain false) (Rows.patchStepsSpec.post enc Try.prog Try.f4 false true false false) := by
  refine returnsInHanded_of_change (C := Try.checked) patchSteps_own started (by kernel_rfl) Try.func4
    (ChangeSpec.witness6 (enc := enc) (C := Try.checked) false ⟨#[], #[.slice none 0 0, .slice none 0 0, .int .i64 0], []⟩ 8 (by kernel_rfl) (by kernel_rfl) (by kernel_rfl) (by kernel_rfl)) ?_
  intro W base args ds gs before hval0 hW hcnd _
  have hval : ∀ (j : Nat) t v, Try.f4.params[j]? = some t → args[j]? = some v → Value.okWide Try.prog W .any base t v := hval0
  have hW' := hW
  obtain ⟨p, q, hA0, hV, rfl, hfz, hnd⟩ := hW
  have hA : DataW.TrodAll enc Try.prog W 0 (fun _ => true) true Try.f4.params.toList args.toList ds p := hA0
  rw [Try.params4] at hA hval
  obtain ⟨v0, vs0, d0, ds0, p0, q0, hargs, rfl, rfl, h0, r0⟩ := trodAll_cons hA
  obtain ⟨v1, vs1, d1, ds1, p1, q1, rfl, rfl, rfl, h1, r1⟩ := trodAll_cons r0
  obtain ⟨v2, vs2, d2, ds2, p2, q2, rfl, rfl, rfl, h2, r2⟩ := trodAll_cons r1
  obtain ⟨rfl, rfl, rfl⟩ := trodAll_nil r2
  obtain rfl : args = #[v0, v1, v2] := by cases args; simp_all
  obtain ⟨rfl, rfl⟩ := trodVars_none hV
  obtain ⟨a0, n0, c0, rfl⟩ := okWide_slice Try.underlying34 (hval 0 34 v0 rfl rfl)
  have k0 := h0
  have lt0 : ∀ x ∈ p0, x.block < W.heap.size := by obtain ⟨m, hm⟩ := k0; exact DataW.trod_lt m _ _ _ hm
  obtain ⟨l0, s0⟩ : ∃ l, TreeArg W a0 n0 c0 l := by
    obtain ⟨fuel, hf⟩ := h0
    exact tree_in hf (by simp [Value.cells])
  obtain ⟨a1, n1, c1, rfl⟩ := okWide_slice Try.underlying35 (hval 1 35 v1 rfl rfl)
  have k1 := h1
  have lt1 : ∀ x ∈ p1, x.block < W.heap.size := by obtain ⟨m, hm⟩ := k1; exact DataW.trod_lt m _ _ _ hm
  obtain ⟨l1, s1⟩ : ∃ l, NmsArg W a1 n1 c1 l := by
    obtain ⟨fuel, hf⟩ := h1
    exact nms_in hf (by simp [Value.cells])
  have k2 := h2
  have lt2 : ∀ x ∈ p2, x.block < W.heap.size := by obtain ⟨m, hm⟩ := k2; exact DataW.trod_lt m _ _ _ hm
  obtain ⟨i2, rfl, rfl, rfl, w2⟩ := open_int Try.underlying3 (hval 2 3 v2 rfl rfl) h2
  clear hA0 hval0
  refine (patchSteps_walk a0 n0 c0 l0 a1 n1 c1 l1 i2 W s0 s1).mono fun e W' ⟨he, bel⟩ => ?_
  subst he
  exact ⟨_, rfl, _, _, _, [], _, [], hW', trodAll_mk1 (shut_bool Try.underlying4 _), (trodAll_cons_mk (Below.trod patchSteps_laidOut (by kernel_rfl) (of_decide_eq_true (by kernel_rfl)) k0 bel lt0) (trodAll_cons_mk (Below.trod patchSteps_laidOut (by kernel_rfl) (of_decide_eq_true (by kernel_rfl)) k1 bel lt1) (trodAll_cons_mk (Below.trod patchSteps_laidOut (by kernel_rfl) (of_decide_eq_true (by kernel_rfl)) k2 bel lt2) trodAll_mk0))), rfl, bel.frame _, fun h => by cases h⟩

/-- The statement. -/
theorem patchSteps_proved : Rows.PatchStepsSaid :=
  OpenClaim.holds_of_wide 4 Try.f4 rfl rfl rfl rfl rfl rfl rfl ⟨rfl, rfl, rfl, rfl, rfl⟩ rfl rfl rfl rfl rfl (by kernel_rfl) Try.func4 (by kernel_rfl)
    (of_decide_eq_true (by kernel_rfl)) (by unfold Func.isWrapper; first | (rw [if_pos (by decide +kernel)]; kernel_rfl) | (rw [if_neg (by decide +kernel)]; exact ⟨rfl, rfl⟩))
    (fun os started H enc _ => patchSteps_lifted os started H enc)

#print axioms patchSteps_proved
end Go.Proofs.Ytcfoodbfapldbaa
