/-
  The statement FlowNone: nothing passes all, and all passes nothing, as it is; passing changes no number of changes.
-/
import Derived.Test.YtejimifmmfappaaFlAwake
import Derived.Test.YtejimifmmfappaaFlOpen
import Derived.Test.YtejimifmmfappaaFlLaw
import Derived.OpenShut
import Derived.ShutString
import Derived.BigQuiet
set_option maxRecDepth 100000
namespace Go.Proofs.Ytejimifmmfappaa
open Go.RowKit
set_option linter.unusedVariables false
open Tr Tx Hk Pr Fl
namespace FlL

set_option maxRecDepth 100000 in
set_option maxHeartbeats 8000000 in
theorem flowNone_walk (A_a : Option Addr) (n_a c_a : Nat) (a : List Ch) (A_b : Option Addr) (n_b c_b : Nat) (b : List Ch) (w : World) (h_a : PrsArg w A_a n_a c_a a) (h_b : PrsArg w A_b n_b c_b b) :
    Calls Try.prog 9 #[.slice A_a n_a c_a, .slice A_b n_b c_b] w (LawEnd w) := by
  have HR_a := Lib.hid h_a.rd; have HN_a := Lib.hid h_a.len; have HC_a := Lib.hid h_a.cap; have HM_a := Lib.hid h_a.le
  have HR_b := Lib.hid h_b.rd; have HN_b := Lib.hid h_b.len; have HC_b := Lib.hid h_b.cap; have HM_b := Lib.hid h_b.le
  have HB := Lib.hid (Below.refl w.heap.size w)
  clear h_a h_b
  go_enter Try.func9, Try.ntmps9
  go_wp2_with fail
  refine (Fl.awake w).mono ?_
  rintro e w1 ⟨rfl, hb⟩
  replace HR_a := Lib.hid (HR_a.out.mv hb)
  replace HR_b := Lib.hid (HR_b.out.mv hb)
  replace HB := Lib.hid (below_mv HB.out hb)
  clear hb
  obtain ⟨bl_a, hbl⟩ : ∃ bb, fewP a 20 = bb := ⟨_, rfl⟩
  have HBL_a := Lib.hid hbl; clear hbl
  go_wp2_with fail
  refine (Few A_a n_a c_a 20 a _ bl_a (by decide) ⟨HN_a.out, HC_a.out, HM_a.out, HR_a.out⟩ HBL_a.out).mono ?_
  rintro e w2 ⟨rfl, hb⟩
  replace HR_a := Lib.hid (HR_a.out.mv hb)
  replace HR_b := Lib.hid (HR_b.out.mv hb)
  replace HB := Lib.hid (below_mv HB.out hb)
  clear hb
  obtain ⟨bl_b, hbl⟩ : ∃ bb, fewP b 20 = bb := ⟨_, rfl⟩
  have HBL_b := Lib.hid hbl; clear hbl
  go_wp2_with fail
  refine (Few A_b n_b c_b 20 b _ bl_b (by decide) ⟨HN_b.out, HC_b.out, HM_b.out, HR_b.out⟩ HBL_b.out).mono ?_
  rintro e w3 ⟨rfl, hb⟩
  replace HR_a := Lib.hid (HR_a.out.mv hb)
  replace HR_b := Lib.hid (HR_b.out.mv hb)
  replace HB := Lib.hid (below_mv HB.out hb)
  clear hb
  cases bl_a with
  | false =>
    go_wp2
    go_ret
    exact ⟨rfl, HB.out⟩
  | true =>
  have HL_a := Lib.hid (fewP_lt HBL_a.out); have HQ_a : Hid (n_a ≤ 40) := Lib.hid (by have h1 := fewP_len HBL_a.out; have h2 := HN_a.out; omega)
  cases bl_b with
  | false =>
    go_wp2
    go_ret
    exact ⟨rfl, HB.out⟩
  | true =>
  have HL_b := Lib.hid (fewP_lt HBL_b.out); have HQ_b : Hid (n_b ≤ 40) := Lib.hid (by have h1 := fewP_len HBL_b.out; have h2 := HN_b.out; omega)
  have HR_o : Hid (RdP w3 (· < w3.heap.size) none []) := Lib.hid (.inl rfl); have HN_o : Hid (List.length ([] : List Ch) = 0) := Lib.hid rfl; have HL_o := Lib.hid lt_nil; have HQ_o : Hid (0 ≤ 100) := Lib.hid (by decide)
  go_wp2_with fail
  refine (PassL A_a n_a c_a none 0 0 a [] [] a w3 true HN_a.out rfl (by have := HQ_a.out; omega) (by decide) HL_a.out lt_nil HR_a.out (.inl rfl) (outF_some (passF_nil a)) (by rw [passF_nil]; rfl)).mono ?_
  clear HR_o HN_o HL_o HQ_o
  rintro e w4 ⟨A_x, c_x, A_y, c_y, rfl, hx, hy, hb⟩
  replace HR_a := Lib.hid (HR_a.out.mv hb)
  replace HR_b := Lib.hid (HR_b.out.mv hb)
  replace HB := Lib.hid (below_mv HB.out hb)
  clear hb
  have HR_y := Lib.hid hy; clear hx hy
  obtain ⟨n_y, hn⟩ : ∃ n, List.length a = n := ⟨_, rfl⟩
  rw [hn]
  have HN_y := Lib.hid hn; clear hn
  go_wp2_with fail
  refine (PassL none 0 0 A_b n_b c_b [] b b [] w4 true rfl HN_b.out (by decide) (by have := HQ_b.out; omega) lt_nil HL_b.out (.inl rfl) HR_b.out (outF_some (passF_none b)) (by rw [passF_none]; rfl)).mono ?_
  rintro e w5 ⟨A_z, c_z, A_v, c_v, rfl, hx, hy, hb⟩
  replace HR_a := Lib.hid (HR_a.out.mv hb)
  replace HR_b := Lib.hid (HR_b.out.mv hb)
  replace HR_y := Lib.hid (HR_y.out.mv hb)
  replace HB := Lib.hid (below_mv HB.out hb)
  clear hb
  have HR_z := Lib.hid hx; clear hx hy
  obtain ⟨n_z, hn⟩ : ∃ n, List.length b = n := ⟨_, rfl⟩
  rw [hn]
  have HN_z := Lib.hid hn; clear hn
  go_wp2_with fail
  obtain ⟨⟨r, s⟩, hx⟩ : ∃ z, outF (passF a b) = z := ⟨_, rfl⟩
  obtain ⟨bo, hs⟩ : ∃ bb, (passF a b).isSome = bb := ⟨_, rfl⟩
  have HX_r := Lib.hid hx; have HS_r := Lib.hid hs; clear hx hs
  refine (PassL A_a n_a c_a A_b n_b c_b a b r s w5 bo HN_a.out HN_b.out (by have := HQ_a.out; omega) (by have := HQ_b.out; omega) HL_a.out HL_b.out HR_a.out HR_b.out HX_r.out HS_r.out).mono ?_
  rintro e w6 ⟨A_r, c_r, A_s, c_s, rfl, hx, hy, hb⟩
  replace HR_a := Lib.hid (HR_a.out.mv hb)
  replace HR_b := Lib.hid (HR_b.out.mv hb)
  replace HR_y := Lib.hid (HR_y.out.mv hb)
  replace HR_z := Lib.hid (HR_z.out.mv hb)
  replace HB := Lib.hid (below_mv HB.out hb)
  clear hb
  have HR_r := Lib.hid hx; have HR_s := Lib.hid hy; clear hx hy
  obtain ⟨n_r, hn⟩ : ∃ n, List.length r = n := ⟨_, rfl⟩
  rw [hn]
  have HN_r := Lib.hid hn; clear hn
  obtain ⟨n_s, hn⟩ : ∃ n, List.length s = n := ⟨_, rfl⟩
  rw [hn]
  have HN_s := Lib.hid hn; clear hn
  have HQ_y : Hid (n_y ≤ 100) := Lib.hid (by have h1 := HN_y.out; have h2 := HN_a.out; have h3 := HQ_a.out; omega); have HQ_z : Hid (n_z ≤ 100) := Lib.hid (by have h1 := HN_z.out; have h2 := HN_b.out; have h3 := HQ_b.out; omega)
  go_wp2_with fail
  refine (SameL A_y n_y c_y A_a n_a c_a a a _ true HN_y.out HN_a.out (by have := HQ_y.out; omega) HR_y.out HR_a.out (listP_self a)).mono ?_
  rintro e w7 ⟨rfl, hb⟩
  replace HR_a := Lib.hid (HR_a.out.mv hb)
  replace HR_b := Lib.hid (HR_b.out.mv hb)
  replace HR_y := Lib.hid (HR_y.out.mv hb)
  replace HR_z := Lib.hid (HR_z.out.mv hb)
  replace HR_r := Lib.hid (HR_r.out.mv hb)
  replace HR_s := Lib.hid (HR_s.out.mv hb)
  replace HB := Lib.hid (below_mv HB.out hb)
  clear hb
  go_wp2_with fail
  refine (SameL A_z n_z c_z A_b n_b c_b b b _ true HN_z.out HN_b.out (by have := HQ_z.out; omega) HR_z.out HR_b.out (listP_self b)).mono ?_
  rintro e w8 ⟨rfl, hb⟩
  replace HR_a := Lib.hid (HR_a.out.mv hb)
  replace HR_b := Lib.hid (HR_b.out.mv hb)
  replace HR_y := Lib.hid (HR_y.out.mv hb)
  replace HR_z := Lib.hid (HR_z.out.mv hb)
  replace HR_r := Lib.hid (HR_r.out.mv hb)
  replace HR_s := Lib.hid (HR_s.out.mv hb)
  replace HB := Lib.hid (below_mv HB.out hb)
  clear hb
  cases bo with
  | false =>
    go_wp2
    go_ret
    exact ⟨rfl, HB.out⟩
  | true =>
  obtain ⟨h1, h2⟩ := passL_len passP (outF_of HX_r.out HS_r.out)
  have e1 : n_r = n_b := by rw [← HN_r.out, ← HN_b.out, h1]
  have e2 : n_s = n_a := by rw [← HN_s.out, ← HN_a.out, h2]
  clear h1 h2
  have e3 : ((n_r : Int) == (n_b : Int)) = true := by rw [e1]; exact beq_self_eq_true _
  have e4 : ((n_s : Int) == (n_a : Int)) = true := by rw [e2]; exact beq_self_eq_true _
  clear e1 e2
  go_wp2
  go_ret
  exact ⟨rfl, HB.out⟩

end FlL
open FlL
open Tx
open Go.ChangeShapes Go.WideShapes Go.ChangeAt

theorem flowNone_own : ownKnob Try.prog.godebug = none := by kernel_rfl
theorem flowNone_laidOut : laidOutB Try.prog = true := by kernel_rfl

set_option maxRecDepth 100000 in
theorem flowNone_lifted (os : Os) (started : os.Started) (H : Type) (enc : TypeId × Value → H) :
    ReturnsInHanded {} Try.checked os 9 .any (Rows.flowNoneSpec.pre6 enc Try.prog Try.f9 Rows.flowNoneRow.domain false) (Rows.flowNoneSpec.post enc Try.prog Try.f9 false true false false) := by
  refine returnsInHanded_of_change (C := Try.checked) flowNone_own started (by kernel_rfl) Try.func9
    (ChangeSpec.witness6 (enc := enc) (C := Try.checked) false ⟨#[], #[.slice none 0 0, .slice none 0 0], []⟩ 8 (by kernel_rfl) (by kernel_rfl) (by kernel_rfl) (by kernel_rfl)) ?_
  intro W base args ds gs before hval0 hW hcnd _
  have hval : ∀ (j : Nat) t v, Try.f9.params[j]? = some t → args[j]? = some v → Value.okWide Try.prog W .any base t v := hval0
  have hW' := hW
  obtain ⟨p, q, hA0, hV, rfl, hfz, hnd⟩ := hW
  have hA : DataW.TrodAll enc Try.prog W 0 (fun _ => true) true Try.f9.params.toList args.toList ds p := hA0
  rw [Try.params9] at hA hval
  obtain ⟨v0, vs0, d0, ds0, p0, q0, hargs, rfl, rfl, h0, r0⟩ := trodAll_cons hA
  obtain ⟨v1, vs1, d1, ds1, p1, q1, rfl, rfl, rfl, h1, r1⟩ := trodAll_cons r0
  obtain ⟨rfl, rfl, rfl⟩ := trodAll_nil r1
  obtain rfl : args = #[v0, v1] := by cases args; simp_all
  obtain ⟨rfl, rfl⟩ := trodVars_none hV
  obtain ⟨a0, n0, c0, rfl⟩ := okWide_slice Try.underlying22 (hval 0 22 v0 rfl rfl)
  have k0 := h0
  have lt0 : ∀ x ∈ p0, x.block < W.heap.size := by obtain ⟨m, hm⟩ := k0; exact DataW.trod_lt m _ _ _ hm
  obtain ⟨l0, s0⟩ : ∃ l, PrsArg W a0 n0 c0 l := by
    obtain ⟨fuel, hf⟩ := h0
    exact prs_in hf (by simp [Value.cells])
  obtain ⟨a1, n1, c1, rfl⟩ := okWide_slice Try.underlying22 (hval 1 22 v1 rfl rfl)
  have k1 := h1
  have lt1 : ∀ x ∈ p1, x.block < W.heap.size := by obtain ⟨m, hm⟩ := k1; exact DataW.trod_lt m _ _ _ hm
  obtain ⟨l1, s1⟩ : ∃ l, PrsArg W a1 n1 c1 l := by
    obtain ⟨fuel, hf⟩ := h1
    exact prs_in hf (by simp [Value.cells])
  clear hA0 hval0
  refine (flowNone_walk a0 n0 c0 l0 a1 n1 c1 l1 W s0 s1).mono fun e W' ⟨he, bel⟩ => ?_
  subst he
  exact ⟨_, rfl, _, _, _, [], _, [], hW', trodAll_mk1 (shut_bool Try.underlying4 _), (trodAll_cons_mk (Below.trod flowNone_laidOut (by kernel_rfl) (of_decide_eq_true (by kernel_rfl)) k0 bel lt0) (trodAll_cons_mk (Below.trod flowNone_laidOut (by kernel_rfl) (of_decide_eq_true (by kernel_rfl)) k1 bel lt1) trodAll_mk0)), rfl, bel.frame _, fun h => by cases h⟩

/-- The statement. -/
theorem flowNone_proved : Rows.FlowNoneSaid :=
  OpenClaim.holds_of_wide 9 Try.f9 rfl rfl rfl rfl rfl rfl rfl ⟨rfl, rfl, rfl, rfl, rfl⟩ rfl rfl rfl rfl rfl (by kernel_rfl) Try.func9 (by kernel_rfl)
    (of_decide_eq_true (by kernel_rfl)) (by unfold Func.isWrapper; first | (rw [if_pos (by decide +kernel)]; kernel_rfl) | (rw [if_neg (by decide +kernel)]; exact ⟨rfl, rfl⟩))
    (fun os started H enc _ => flowNone_lifted os started H enc)

#print axioms flowNone_proved
end Go.Proofs.Ytejimifmmfappaa
