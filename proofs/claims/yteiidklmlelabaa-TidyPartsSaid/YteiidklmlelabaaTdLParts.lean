/-
  The statement TidyParts: to tidy two parts, and then both, is to tidy all.
-/
import Derived.Test.YteiidklmlelabaaTdAwake
import Derived.Test.YteiidklmlelabaaFlOpen
import Derived.Test.YteiidklmlelabaaFlLaw
import Derived.OpenShut
import Derived.ShutString
import Derived.BigQuiet
set_option maxRecDepth 100000
namespace Go.Proofs.Yteiidklmlelabaa
open Go.RowKit
set_option linter.unusedVariables false
open Tr Tx Hk Pr Fl
namespace TdLParts

set_option maxRecDepth 100000 in
set_option maxHeartbeats 8000000 in
theorem tidyParts_walk (A_a : Option Addr) (n_a c_a : Nat) (a : List Ch) (A_b : Option Addr) (n_b c_b : Nat) (b : List Ch) (w : World) (h_a : PrsArg w A_a n_a c_a a) (h_b : PrsArg w A_b n_b c_b b) :
    Calls Try.prog 9 #[.slice A_a n_a c_a, .slice A_b n_b c_b] w (LawEnd w) := by
  have HR_a := Lib.hid h_a.rd; have HN_a := Lib.hid h_a.len; have HC_a := Lib.hid h_a.cap; have HM_a := Lib.hid h_a.le
  have HR_b := Lib.hid h_b.rd; have HN_b := Lib.hid h_b.len; have HC_b := Lib.hid h_b.cap; have HM_b := Lib.hid h_b.le
  have HB := Lib.hid (Below.refl w.heap.size w)
  clear h_a h_b
  go_enter Try.func9, Try.ntmps9
  go_wp2_with fail
  refine (Td.awake w).mono ?_
  rintro e w1 ⟨rfl, hb⟩
  replace HR_a := Lib.hid (HR_a.out.mv hb)
  replace HR_b := Lib.hid (HR_b.out.mv hb)
  replace HB := Lib.hid (below_mv HB.out hb)
  clear hb
  obtain ⟨bl_a, hbl⟩ : ∃ bb, fewP a 30 = bb := ⟨_, rfl⟩
  have HBL_a := Lib.hid hbl; clear hbl
  go_wp2_with fail
  refine (Few A_a n_a c_a 30 a _ bl_a (by decide) ⟨HN_a.out, HC_a.out, HM_a.out, HR_a.out⟩ HBL_a.out).mono ?_
  rintro e w2 ⟨rfl, hb⟩
  replace HR_a := Lib.hid (HR_a.out.mv hb)
  replace HR_b := Lib.hid (HR_b.out.mv hb)
  replace HB := Lib.hid (below_mv HB.out hb)
  clear hb
  obtain ⟨bl_b, hbl⟩ : ∃ bb, fewP b 30 = bb := ⟨_, rfl⟩
  have HBL_b := Lib.hid hbl; clear hbl
  go_wp2_with fail
  refine (Few A_b n_b c_b 30 b _ bl_b (by decide) ⟨HN_b.out, HC_b.out, HM_b.out, HR_b.out⟩ HBL_b.out).mono ?_
  rintro e w3 ⟨rfl, hb⟩
  replace HR_a := Lib.hid (HR_a.out.mv hb)
  replace HR_b := Lib.hid (HR_b.out.mv hb)
  replace HB := Lib.hid (below_mv HB.out hb)
  clear hb
  cases bl_a with
  | false =>
    go_wp2
    go_ret
    exact ⟨rfl, HB.out⟩
  | true =>
  have HL_a := Lib.hid (fewP_lt HBL_a.out); have HQ_a : Hid (n_a ≤ 40) := Lib.hid (by have h1 := fewP_len HBL_a.out; have h2 := HN_a.out; omega)
  cases bl_b with
  | false =>
    go_wp2
    go_ret
    exact ⟨rfl, HB.out⟩
  | true =>
  have HL_b := Lib.hid (fewP_lt HBL_b.out); have HQ_b : Hid (n_b ≤ 40) := Lib.hid (by have h1 := fewP_len HBL_b.out; have h2 := HN_b.out; omega)
  go_wp2_with (at_builtin; first
    | (refine wpList_ownPL rfl (.const (.slice none 0 0)) (.tmp 26) rfl w3.heap.size w3.heap.size n_a c_a (.slice none 0 0) A_a [] a rfl rfl (ownP_nil _ _) HR_a.out (Nat.le_refl _) HN_a.out (by have := HQ_a.out; simp; omega) (Nat.le_refl _) ?_; intro va wa ho hg; have hb2 : Below w3.heap.size w3 wa := (Below.refl _ _).grown hg (Nat.le_refl _) (fun k e => by cases e); have HO_ab := Lib.hid (show OwnP wa w3.heap.size va a from ho); have HB_ab := Lib.hid hb2; clear ho hg hb2)
    | (refine wpList_ownPL rfl (.tmp 27) (.tmp 28) rfl w3.heap.size w3.heap.size n_b c_b va A_b a b rfl rfl HO_ab.out (HR_b.out.below HB_ab.out) (Nat.le_refl _) HN_b.out (by have h1 := HQ_b.out; have h2 := HQ_a.out; have h3 := HN_a.out; omega) HB_ab.out.size ?_; intro vb w4 ho hg; have hb3 : Below w3.heap.size w3 w4 := HB_ab.out.grown hg HB_ab.out.size (fun k e => ownP_ge HO_ab.out k e); have HP_ab := Lib.hid ho; have HD_ab := Lib.hid hb3; clear ho hg hb3 HO_ab HB_ab; obtain ⟨A_ab, c_ab, hv, hc, hr, _⟩ := rdP_own HP_ab.out; have HR_ab := Lib.hid hr; obtain ⟨n_ab, hn⟩ : ∃ n, List.length (a ++ b) = n := ⟨_, rfl⟩; rw [hn] at hv; subst hv; have HN_ab := Lib.hid hn; clear hc hr HP_ab hn))
  have hb := HD_ab.out
  clear HD_ab
  replace HR_a := Lib.hid (HR_a.out.mv hb)
  replace HR_b := Lib.hid (HR_b.out.mv hb)
  replace HB := Lib.hid (below_mv HB.out hb)
  clear hb
  have HL_ab := Lib.hid (Lt.app HL_a.out HL_b.out); have HQ_ab : Hid (n_ab ≤ 160) := Lib.hid (by have h1 := HN_ab.out; rw [List.length_append, HN_a.out, HN_b.out] at h1; have h2 := HQ_a.out; have h3 := HQ_b.out; omega)
  refine (Td.TidyL A_ab n_ab c_ab (a ++ b) w4 HN_ab.out (by have := HQ_ab.out; omega) HL_ab.out HR_ab.out).mono ?_
  rintro e w5 ⟨A_r, c_r, rfl, _, hx, hb⟩
  replace HR_a := Lib.hid (HR_a.out.mv hb)
  replace HR_b := Lib.hid (HR_b.out.mv hb)
  replace HR_ab := Lib.hid (HR_ab.out.mv hb)
  replace HB := Lib.hid (below_mv HB.out hb)
  clear hb
  have HR_r := Lib.hid hx; clear hx
  obtain ⟨n_r, hn⟩ : ∃ n, List.length (Td.tidyP (a ++ b)) = n := ⟨_, rfl⟩
  rw [hn]
  have HN_r := Lib.hid hn; clear hn
  have HL_r := Lib.hid (Td.tidyP_lt HL_ab.out)
  have HQ_r : Hid (n_r ≤ 1000) := Lib.hid (by have h1 := HN_r.out; have h2 := Td.tidyP_len (a ++ b); have h3 := HN_ab.out; have h4 := HQ_ab.out; omega)
  go_wp2_with fail
  refine (Td.TidyL A_a n_a c_a a w5 HN_a.out (by have := HQ_a.out; omega) HL_a.out HR_a.out).mono ?_
  rintro e w6 ⟨A_x, c_x, rfl, _, hx, hb⟩
  replace HR_a := Lib.hid (HR_a.out.mv hb)
  replace HR_b := Lib.hid (HR_b.out.mv hb)
  replace HR_ab := Lib.hid (HR_ab.out.mv hb)
  replace HR_r := Lib.hid (HR_r.out.mv hb)
  replace HB := Lib.hid (below_mv HB.out hb)
  clear hb
  have HR_x := Lib.hid hx; clear hx
  obtain ⟨n_x, hn⟩ : ∃ n, List.length (Td.tidyP a) = n := ⟨_, rfl⟩
  rw [hn]
  have HN_x := Lib.hid hn; clear hn
  have HL_x := Lib.hid (Td.tidyP_lt HL_a.out)
  have HQ_x : Hid (n_x ≤ 40) := Lib.hid (by have h1 := HN_x.out; have h2 := Td.tidyP_len a; have h3 := HN_a.out; have h4 := HQ_a.out; omega)
  have HBC := HB; have HC_a := HR_a; have HC_b := HR_b; have HC_ab := HR_ab; have HC_r := HR_r; have HC_x := HR_x
  go_wp2_with (at_builtin; refine wpList_ownPL rfl (.const (.slice none 0 0)) (.tmp 32) rfl w6.heap.size w6.heap.size n_x c_x (.slice none 0 0) A_x [] (Td.tidyP a) rfl rfl (ownP_nil _ _) HR_x.out (Nat.le_refl _) HN_x.out (by have := HQ_x.out; simp; omega) (Nat.le_refl _) ?_; intro v_o w7 ho hg; have hb2 : Below w6.heap.size w6 w7 := (Below.refl _ _).grown hg (Nat.le_refl _) (fun k e => by cases e); have HO_o := Lib.hid (show OwnP w7 w6.heap.size v_o (Td.tidyP a) from ho); have HBK := Lib.hid hb2; clear ho hg hb2)
  have hb := HBK.out
  replace HR_a := Lib.hid (HR_a.out.mv hb)
  replace HR_b := Lib.hid (HR_b.out.mv hb)
  replace HR_ab := Lib.hid (HR_ab.out.mv hb)
  replace HR_r := Lib.hid (HR_r.out.mv hb)
  replace HR_x := Lib.hid (HR_x.out.mv hb)
  replace HB := Lib.hid (below_mv HB.out hb)
  clear hb
  have HLT_o : Hid (∀ g, v_o.ownBlock = some g → g < w7.heap.size) := Lib.hid (ownP_lt HO_o.out)
  refine (Td.TidyLH A_b n_b c_b b w7 HN_b.out (by have := HQ_b.out; omega) HL_b.out HR_b.out).mono ?_
  rintro e w8 ⟨A_y, c_y, rfl, _, hx, hb⟩
  replace HBK := Lib.hid (below_mv HBK.out hb)
  replace HR_a := Lib.hid (HR_a.out.mv hb)
  replace HR_b := Lib.hid (HR_b.out.mv hb)
  replace HR_ab := Lib.hid (HR_ab.out.mv hb)
  replace HR_r := Lib.hid (HR_r.out.mv hb)
  replace HR_x := Lib.hid (HR_x.out.mv hb)
  replace HO_o := Lib.hid (HO_o.out.below hb)
  replace HB := Lib.hid (below_mv HB.out hb)
  clear hb
  have HH_y := Lib.hid hx; have HR_y := Lib.hid (hx.mono fun b hb => hb.2); clear hx
  obtain ⟨n_y, hn⟩ : ∃ n, List.length (Td.tidyP b) = n := ⟨_, rfl⟩
  rw [hn]
  have HN_y := Lib.hid hn; clear hn
  have HL_y := Lib.hid (Td.tidyP_lt HL_b.out)
  have HQ_y : Hid (n_y ≤ 40) := Lib.hid (by have h1 := HN_y.out; have h2 := Td.tidyP_len b; have h3 := HN_b.out; have h4 := HQ_b.out; omega)
  go_wp2_with (at_builtin; refine wpList_ownPH rfl (.tmp 33) (.tmp 35) rfl w6.heap.size w7.heap.size n_y c_y v_o A_y (Td.tidyP a) (Td.tidyP b) rfl rfl HO_o.out HLT_o.out HH_y.out HN_y.out (by have h1 := HQ_y.out; have h2 := HQ_x.out; have h3 := HN_x.out; omega) HBK.out.size ?_; intro v_j w9 ho hg; have hb3 : Below w6.heap.size w6 w9 := HBK.out.grown hg HBK.out.size (fun k e => ownP_ge HO_o.out k e); have HP_j := Lib.hid ho; have HD_j := Lib.hid hb3; clear ho hg hb3; obtain ⟨A_j, c_j, hv, hc, hr, _⟩ := rdP_own HP_j.out; have HR_j := Lib.hid hr; obtain ⟨n_j, hn⟩ : ∃ n, List.length ((Td.tidyP a) ++ (Td.tidyP b)) = n := ⟨_, rfl⟩; rw [hn] at hv; subst hv; have HN_j := Lib.hid hn; clear hc hr HP_j hn)
  have hb := HD_j.out
  have HL_j := Lib.hid (Lt.app HL_x.out HL_y.out); have HQ_j : Hid (n_j ≤ 1000) := Lib.hid (by have h1 := HN_j.out; rw [List.length_append, HN_x.out, HN_y.out] at h1; have h2 := HQ_x.out; have h3 := HQ_y.out; omega)
  clear HD_j HBK HO_o HLT_o HH_y HR_a HR_b HR_ab HR_r HR_x HR_y HB
  have HR_a := Lib.hid (HC_a.out.mv hb); have HR_b := Lib.hid (HC_b.out.mv hb); have HR_ab := Lib.hid (HC_ab.out.mv hb); have HR_r := Lib.hid (HC_r.out.mv hb); have HR_x := Lib.hid (HC_x.out.mv hb); have HB := Lib.hid (below_mv HBC.out hb)
  clear hb HBC HC_a HC_b HC_ab HC_r HC_x
  refine (Td.TidyL A_j n_j c_j ((Td.tidyP a) ++ (Td.tidyP b)) w9 HN_j.out (by have := HQ_j.out; omega) HL_j.out HR_j.out).mono ?_
  rintro e w10 ⟨A_z, c_z, rfl, _, hx, hb⟩
  replace HR_a := Lib.hid (HR_a.out.mv hb)
  replace HR_b := Lib.hid (HR_b.out.mv hb)
  replace HR_ab := Lib.hid (HR_ab.out.mv hb)
  replace HR_r := Lib.hid (HR_r.out.mv hb)
  replace HR_x := Lib.hid (HR_x.out.mv hb)
  replace HR_j := Lib.hid (HR_j.out.mv hb)
  replace HB := Lib.hid (below_mv HB.out hb)
  clear hb
  have HR_z := Lib.hid hx; clear hx
  have hrw : (Td.tidyP ((Td.tidyP a) ++ (Td.tidyP b))) = (Td.tidyP (a ++ b)) := Td.tidy_parts _ _ Pr.turnP_turnP Td.idleP_turn a b
  rw [hrw] at HR_z ⊢
  clear hrw
  obtain ⟨n_z, hn⟩ : ∃ n, List.length (Td.tidyP (a ++ b)) = n := ⟨_, rfl⟩
  rw [hn]
  have HN_z := Lib.hid hn; clear hn
  have HL_z := Lib.hid (HL_r.out)
  have HQ_z : Hid (n_z ≤ 1000) := Lib.hid (by have h1 := HN_z.out; have h2 := HN_r.out; have h3 := HQ_r.out; omega)
  go_wp2_with fail
  refine (SameL A_r n_r c_r A_z n_z c_z (Td.tidyP (a ++ b)) (Td.tidyP (a ++ b)) _ true HN_r.out HN_z.out (by have := HQ_r.out; omega) HR_r.out HR_z.out (listP_self _)).mono ?_
  rintro e w11 ⟨rfl, hb⟩
  replace HR_a := Lib.hid (HR_a.out.mv hb)
  replace HR_b := Lib.hid (HR_b.out.mv hb)
  replace HR_ab := Lib.hid (HR_ab.out.mv hb)
  replace HR_r := Lib.hid (HR_r.out.mv hb)
  replace HR_x := Lib.hid (HR_x.out.mv hb)
  replace HR_j := Lib.hid (HR_j.out.mv hb)
  replace HR_z := Lib.hid (HR_z.out.mv hb)
  replace HB := Lib.hid (below_mv HB.out hb)
  clear hb
  go_wp2
  go_ret
  exact ⟨rfl, HB.out⟩

end TdLParts
open TdLParts
open Tx
open Go.ChangeShapes Go.WideShapes Go.ChangeAt

theorem tidyParts_own : ownKnob Try.prog.godebug = none := by kernel_rfl
theorem tidyParts_laidOut : laidOutB Try.prog = true := by kernel_rfl

set_option maxRecDepth 100000 in
theorem tidyParts_lifted (os : Os) (started : os.Started) (H : Type) (enc : TypeId × Value → H) :
    ReturnsInHanded {} Try.checked os 9 .any (Rows.tidyPartsSpec.pre6 enc Try.prog Try.f9 Rows.tidyPartsRow.domain false) (Rows.tidyPartsSpec.post enc Try.prog Try.f9 false true false false) := by
  refine returnsInHanded_of_change (C := Try.checked) tidyParts_own started (by kernel_rfl) Try.func9
    (ChangeSpec.witness6 (enc := enc) (C := Try.checked) false ⟨#[], #[.slice none 0 0, .slice none 0 0], []⟩ 8 (by kernel_rfl) (by kernel_rfl) (by kernel_rfl) (by kernel_rfl)) ?_
  intro W base args ds gs before hval0 hW hcnd _
  have hval : ∀ (j : Nat) t v, Try.f9.params[j]? = some t → args[j]? = some v → Value.okWide Try.prog W .any base t v := hval0
  have hW' := hW
  obtain ⟨p, q, hA0, hV, rfl, hfz, hnd⟩ := hW
  have hA : DataW.TrodAll enc Try.prog W 0 (fun _ => true) true Try.f9.params.toList args.toList ds p := hA0
  rw [Try.params9] at hA hval
  obtain ⟨v0, vs0, d0, ds0, p0, q0, hargs, rfl, rfl, h0, r0⟩ := trodAll_cons hA
  obtain ⟨v1, vs1, d1, ds1, p1, q1, rfl, rfl, rfl, h1, r1⟩ := trodAll_cons r0
  obtain ⟨rfl, rfl, rfl⟩ := trodAll_nil r1
  obtain rfl : args = #[v0, v1] := by cases args; simp_all
  obtain ⟨rfl, rfl⟩ := trodVars_none hV
  obtain ⟨a0, n0, c0, rfl⟩ := okWide_slice Try.underlying22 (hval 0 22 v0 rfl rfl)
  have k0 := h0
  have lt0 : ∀ x ∈ p0, x.block < W.heap.size := by obtain ⟨m, hm⟩ := k0; exact DataW.trod_lt m _ _ _ hm
  obtain ⟨l0, s0⟩ : ∃ l, PrsArg W a0 n0 c0 l := by
    obtain ⟨fuel, hf⟩ := h0
    exact prs_in hf (by simp [Value.cells])
  obtain ⟨a1, n1, c1, rfl⟩ := okWide_slice Try.underlying22 (hval 1 22 v1 rfl rfl)
  have k1 := h1
  have lt1 : ∀ x ∈ p1, x.block < W.heap.size := by obtain ⟨m, hm⟩ := k1; exact DataW.trod_lt m _ _ _ hm
  obtain ⟨l1, s1⟩ : ∃ l, PrsArg W a1 n1 c1 l := by
    obtain ⟨fuel, hf⟩ := h1
    exact prs_in hf (by simp [Value.cells])
  clear hA0 hval0
  refine (tidyParts_walk a0 n0 c0 l0 a1 n1 c1 l1 W s0 s1).mono fun e W' ⟨he, bel⟩ => ?_
  subst he
  exact ⟨_, rfl, _, _, _, [], _, [], hW', trodAll_mk1 (shut_bool Try.underlying4 _), (trodAll_cons_mk (Below.trod tidyParts_laidOut (by kernel_rfl) (of_decide_eq_true (by kernel_rfl)) k0 bel lt0) (trodAll_cons_mk (Below.trod tidyParts_laidOut (by kernel_rfl) (of_decide_eq_true (by kernel_rfl)) k1 bel lt1) trodAll_mk0)), rfl, bel.frame _, fun h => by cases h⟩

/-- The statement. -/
theorem tidyParts_proved : Rows.TidyPartsSaid :=
  OpenClaim.holds_of_wide 9 Try.f9 rfl rfl rfl rfl rfl rfl rfl ⟨rfl, rfl, rfl, rfl, rfl⟩ rfl rfl rfl rfl rfl (by kernel_rfl) Try.func9 (by kernel_rfl)
    (of_decide_eq_true (by kernel_rfl)) (by unfold Func.isWrapper; first | (rw [if_pos (by decide +kernel)]; kernel_rfl) | (rw [if_neg (by decide +kernel)]; exact ⟨rfl, rfl⟩))
    (fun os started H enc _ => tidyParts_lifted os started H enc)

#print axioms tidyParts_proved
end Go.Proofs.Yteiidklmlelabaa
