/-
  The statement FlowPasses: what any two lists of changes are when the second one is ahead, or that they cannot be, is what the document says.
-/
import Derived.Test.YteiidklmlelabaaFlRefPass
import Derived.Test.YteiidklmlelabaaFlAwake
import Derived.Test.YteiidklmlelabaaFlOpen
import Derived.Test.YteiidklmlelabaaFlLaw
import Derived.OpenShut
import Derived.ShutString
import Derived.BigQuiet
set_option maxRecDepth 100000
namespace Go.Proofs.Yteiidklmlelabaa
open Go.RowKit
set_option linter.unusedVariables false
open Tr Tx Hk Pr Fl
namespace FlL

set_option maxRecDepth 100000 in
set_option maxHeartbeats 8000000 in
theorem flowPasses_walk (A_a : Option Addr) (n_a c_a : Nat) (a : List Ch) (A_b : Option Addr) (n_b c_b : Nat) (b : List Ch) (w : World) (h_a : PrsArg w A_a n_a c_a a) (h_b : PrsArg w A_b n_b c_b b) :
    Calls Try.prog 3 #[.slice A_a n_a c_a, .slice A_b n_b c_b] w (LawEnd w) := by
  have HR_a := Lib.hid h_a.rd; have HN_a := Lib.hid h_a.len; have HC_a := Lib.hid h_a.cap; have HM_a := Lib.hid h_a.le
  have HR_b := Lib.hid h_b.rd; have HN_b := Lib.hid h_b.len; have HC_b := Lib.hid h_b.cap; have HM_b := Lib.hid h_b.le
  have HB := Lib.hid (Below.refl w.heap.size w)
  clear h_a h_b
  go_enter Try.func3, Try.ntmps3
  go_wp2_with fail
  refine (Fl.awake w).mono ?_
  rintro e w1 ⟨rfl, hb⟩
  replace HR_a := Lib.hid (HR_a.out.mv hb)
  replace HR_b := Lib.hid (HR_b.out.mv hb)
  replace HB := Lib.hid (below_mv HB.out hb)
  clear hb
  obtain ⟨bl_a, hbl⟩ : ∃ bb, fewP a 20 = bb := ⟨_, rfl⟩
  have HBL_a := Lib.hid hbl; clear hbl
  go_wp2_with fail
  refine (Few A_a n_a c_a 20 a _ bl_a (by decide) ⟨HN_a.out, HC_a.out, HM_a.out, HR_a.out⟩ HBL_a.out).mono ?_
  rintro e w2 ⟨rfl, hb⟩
  replace HR_a := Lib.hid (HR_a.out.mv hb)
  replace HR_b := Lib.hid (HR_b.out.mv hb)
  replace HB := Lib.hid (below_mv HB.out hb)
  clear hb
  obtain ⟨bl_b, hbl⟩ : ∃ bb, fewP b 20 = bb := ⟨_, rfl⟩
  have HBL_b := Lib.hid hbl; clear hbl
  go_wp2_with fail
  refine (Few A_b n_b c_b 20 b _ bl_b (by decide) ⟨HN_b.out, HC_b.out, HM_b.out, HR_b.out⟩ HBL_b.out).mono ?_
  rintro e w3 ⟨rfl, hb⟩
  replace HR_a := Lib.hid (HR_a.out.mv hb)
  replace HR_b := Lib.hid (HR_b.out.mv hb)
  replace HB := Lib.hid (below_mv HB.out hb)
  clear hb
  cases bl_a with
  | false =>
    go_wp2
    go_ret
    exact ⟨rfl, HB.out⟩
  | true =>
  have HL_a := Lib.hid (fewP_lt HBL_a.out); have HQ_a : Hid (n_a ≤ 40) := Lib.hid (by have h1 := fewP_len HBL_a.out; have h2 := HN_a.out; omega)
  cases bl_b with
  | false =>
    go_wp2
    go_ret
    exact ⟨rfl, HB.out⟩
  | true =>
  have HL_b := Lib.hid (fewP_lt HBL_b.out); have HQ_b : Hid (n_b ≤ 40) := Lib.hid (by have h1 := fewP_len HBL_b.out; have h2 := HN_b.out; omega)
  go_wp2_with fail
  obtain ⟨⟨x, y⟩, hx⟩ : ∃ z, outF (passF a b) = z := ⟨_, rfl⟩
  obtain ⟨bo, hs⟩ : ∃ bb, (passF a b).isSome = bb := ⟨_, rfl⟩
  have HX_x := Lib.hid hx; have HS_x := Lib.hid hs; clear hx hs
  refine (PassL A_a n_a c_a A_b n_b c_b a b x y w3 bo HN_a.out HN_b.out (by have := HQ_a.out; omega) (by have := HQ_b.out; omega) HL_a.out HL_b.out HR_a.out HR_b.out HX_x.out HS_x.out).mono ?_
  rintro e w4 ⟨A_x, c_x, A_y, c_y, rfl, hx, hy, hb⟩
  replace HR_a := Lib.hid (HR_a.out.mv hb)
  replace HR_b := Lib.hid (HR_b.out.mv hb)
  replace HB := Lib.hid (below_mv HB.out hb)
  clear hb
  have HR_x := Lib.hid hx; have HR_y := Lib.hid hy; clear hx hy
  obtain ⟨n_x, hn⟩ : ∃ n, List.length x = n := ⟨_, rfl⟩
  rw [hn]
  have HN_x := Lib.hid hn; clear hn
  obtain ⟨n_y, hn⟩ : ∃ n, List.length y = n := ⟨_, rfl⟩
  rw [hn]
  have HN_y := Lib.hid hn; clear hn
  obtain ⟨l1, l2, l3, l4⟩ := outF_good HX_x.out HL_a.out HL_b.out
  have HL_x := Lib.hid l1; have HL_y := Lib.hid l2; clear l1 l2
  rw [HN_x.out, HN_b.out] at l3
  rw [HN_y.out, HN_a.out] at l4
  have HQ_x : Hid (n_x ≤ 80) := Lib.hid (by have h4 := HQ_b.out; omega); have HQ_y : Hid (n_y ≤ 80) := Lib.hid (by have h4 := HQ_a.out; omega)
  clear l3 l4
  go_wp2_with fail
  refine (refPassL A_a n_a c_a A_b n_b c_b a b x y w4 bo HN_a.out HN_b.out (by have := HQ_a.out; omega) (by have := HQ_b.out; omega) HL_a.out HL_b.out HR_a.out HR_b.out HX_x.out HS_x.out).mono ?_
  rintro e w5 ⟨A_z, c_z, A_v, c_v, rfl, hx, hy, hb⟩
  replace HR_a := Lib.hid (HR_a.out.mv hb)
  replace HR_b := Lib.hid (HR_b.out.mv hb)
  replace HR_x := Lib.hid (HR_x.out.mv hb)
  replace HR_y := Lib.hid (HR_y.out.mv hb)
  replace HB := Lib.hid (below_mv HB.out hb)
  clear hb
  have HR_z := Lib.hid hx; have HR_v := Lib.hid hy; clear hx hy
  obtain ⟨n_z, hn⟩ : ∃ n, List.length x = n := ⟨_, rfl⟩
  rw [hn]
  have HN_z := Lib.hid hn; clear hn
  obtain ⟨n_v, hn⟩ : ∃ n, List.length y = n := ⟨_, rfl⟩
  rw [hn]
  have HN_v := Lib.hid hn; clear hn
  go_wp2_with fail
  refine (refListL A_x n_x c_x A_z n_z c_z x x _ true HN_x.out HN_z.out (by have := HQ_x.out; omega) HR_x.out HR_z.out (listP_self _)).mono ?_
  rintro e w6 ⟨rfl, hb⟩
  replace HR_a := Lib.hid (HR_a.out.mv hb)
  replace HR_b := Lib.hid (HR_b.out.mv hb)
  replace HR_x := Lib.hid (HR_x.out.mv hb)
  replace HR_y := Lib.hid (HR_y.out.mv hb)
  replace HR_z := Lib.hid (HR_z.out.mv hb)
  replace HR_v := Lib.hid (HR_v.out.mv hb)
  replace HB := Lib.hid (below_mv HB.out hb)
  clear hb
  go_wp2_with fail
  refine (refListL A_y n_y c_y A_v n_v c_v y y _ true HN_y.out HN_v.out (by have := HQ_y.out; omega) HR_y.out HR_v.out (listP_self _)).mono ?_
  rintro e w7 ⟨rfl, hb⟩
  replace HR_a := Lib.hid (HR_a.out.mv hb)
  replace HR_b := Lib.hid (HR_b.out.mv hb)
  replace HR_x := Lib.hid (HR_x.out.mv hb)
  replace HR_y := Lib.hid (HR_y.out.mv hb)
  replace HR_z := Lib.hid (HR_z.out.mv hb)
  replace HR_v := Lib.hid (HR_v.out.mv hb)
  replace HB := Lib.hid (below_mv HB.out hb)
  clear hb
  cases bo with
  | false =>
    go_wp2
    go_ret
    exact ⟨rfl, HB.out⟩
  | true =>
    go_wp2
    go_ret
    exact ⟨rfl, HB.out⟩

end FlL
open FlL
open Tx
open Go.ChangeShapes Go.WideShapes Go.ChangeAt

theorem flowPasses_own : ownKnob Try.prog.godebug = none := by kernel_rfl
theorem flowPasses_laidOut : laidOutB Try.prog = true := by kernel_rfl

set_option maxRecDepth 100000 in
theorem flowPasses_lifted (os : Os) (started : os.Started) (H : Type) (enc : TypeId × Value → H) :
    ReturnsInHanded {} Try.checked os 3 .any (Rows.flowPassesSpec.pre6 enc Try.prog Try.f3 Rows.flowPassesRow.domain false) (Rows.flowPassesSpec.post enc Try.prog Try.f3 false true false false) := by
  refine returnsInHanded_of_change (C := Try.checked) flowPasses_own started (by kernel_rfl) Try.func3
    (ChangeSpec.witness6 (enc := enc) (C := Try.checked) false ⟨#[], #[.slice none 0 0, .slice none 0 0], []⟩ 8 (by kernel_rfl) (by kernel_rfl) (by kernel_rfl) (by kernel_rfl)) ?_
  intro W base args ds gs before hval0 hW hcnd _
  have hval : ∀ (j : Nat) t v, Try.f3.params[j]? = some t → args[j]? = some v → Value.okWide Try.prog W .any base t v := hval0
  have hW' := hW
  obtain ⟨p, q, hA0, hV, rfl, hfz, hnd⟩ := hW
  have hA : DataW.TrodAll enc Try.prog W 0 (fun _ => true) true Try.f3.params.toList args.toList ds p := hA0
  rw [Try.params3] at hA hval
  obtain ⟨v0, vs0, d0, ds0, p0, q0, hargs, rfl, rfl, h0, r0⟩ := trodAll_cons hA
  obtain ⟨v1, vs1, d1, ds1, p1, q1, rfl, rfl, rfl, h1, r1⟩ := trodAll_cons r0
  obtain ⟨rfl, rfl, rfl⟩ := trodAll_nil r1
  obtain rfl : args = #[v0, v1] := by cases args; simp_all
  obtain ⟨rfl, rfl⟩ := trodVars_none hV
  obtain ⟨a0, n0, c0, rfl⟩ := okWide_slice Try.underlying22 (hval 0 22 v0 rfl rfl)
  have k0 := h0
  have lt0 : ∀ x ∈ p0, x.block < W.heap.size := by obtain ⟨m, hm⟩ := k0; exact DataW.trod_lt m _ _ _ hm
  obtain ⟨l0, s0⟩ : ∃ l, PrsArg W a0 n0 c0 l := by
    obtain ⟨fuel, hf⟩ := h0
    exact prs_in hf (by simp [Value.cells])
  obtain ⟨a1, n1, c1, rfl⟩ := okWide_slice Try.underlying22 (hval 1 22 v1 rfl rfl)
  have k1 := h1
  have lt1 : ∀ x ∈ p1, x.block < W.heap.size := by obtain ⟨m, hm⟩ := k1; exact DataW.trod_lt m _ _ _ hm
  obtain ⟨l1, s1⟩ : ∃ l, PrsArg W a1 n1 c1 l := by
    obtain ⟨fuel, hf⟩ := h1
    exact prs_in hf (by simp [Value.cells])
  clear hA0 hval0
  refine (flowPasses_walk a0 n0 c0 l0 a1 n1 c1 l1 W s0 s1).mono fun e W' ⟨he, bel⟩ => ?_
  subst he
  exact ⟨_, rfl, _, _, _, [], _, [], hW', trodAll_mk1 (shut_bool Try.underlying4 _), (trodAll_cons_mk (Below.trod flowPasses_laidOut (by kernel_rfl) (of_decide_eq_true (by kernel_rfl)) k0 bel lt0) (trodAll_cons_mk (Below.trod flowPasses_laidOut (by kernel_rfl) (of_decide_eq_true (by kernel_rfl)) k1 bel lt1) trodAll_mk0)), rfl, bel.frame _, fun h => by cases h⟩

/-- The statement. -/
theorem flowPasses_proved : Rows.FlowPassesSaid :=
  OpenClaim.holds_of_wide 3 Try.f3 rfl rfl rfl rfl rfl rfl rfl ⟨rfl, rfl, rfl, rfl, rfl⟩ rfl rfl rfl rfl rfl (by kernel_rfl) Try.func3 (by kernel_rfl)
    (of_decide_eq_true (by kernel_rfl)) (by unfold Func.isWrapper; first | (rw [if_pos (by decide +kernel)]; kernel_rfl) | (rw [if_neg (by decide +kernel)]; exact ⟨rfl, rfl⟩))
    (fun os started H enc _ => flowPasses_lifted os started H enc)

#print axioms flowPasses_proved
end Go.Proofs.Yteiidklmlelabaa
