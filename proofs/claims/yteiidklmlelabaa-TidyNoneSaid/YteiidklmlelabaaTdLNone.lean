/-
  The statement TidyNone: changes, and what undoes them, behind them, leave nothing.
-/
import Derived.Test.YteiidklmlelabaaFlTurn
import Derived.Test.YteiidklmlelabaaTdAwake
import Derived.Test.YteiidklmlelabaaFlOpen
import Derived.Test.YteiidklmlelabaaFlLaw
import Derived.OpenShut
import Derived.ShutString
import Derived.BigQuiet
set_option maxRecDepth 100000
namespace Go.Proofs.Yteiidklmlelabaa
open Go.RowKit
set_option linter.unusedVariables false
open Tr Tx Hk Pr Fl
namespace TdLNone

set_option maxRecDepth 100000 in
set_option maxHeartbeats 8000000 in
theorem tidyNone_walk (A_l : Option Addr) (n_l c_l : Nat) (l : List Ch) (w : World) (h_l : PrsArg w A_l n_l c_l l) :
    Calls Try.prog 8 #[.slice A_l n_l c_l] w (LawEnd w) := by
  have HR_l := Lib.hid h_l.rd; have HN_l := Lib.hid h_l.len; have HC_l := Lib.hid h_l.cap; have HM_l := Lib.hid h_l.le
  have HB := Lib.hid (Below.refl w.heap.size w)
  clear h_l
  go_enter Try.func8, Try.ntmps8
  go_wp2_with fail
  refine (Td.awake w).mono ?_
  rintro e w1 ⟨rfl, hb⟩
  replace HR_l := Lib.hid (HR_l.out.mv hb)
  replace HB := Lib.hid (below_mv HB.out hb)
  clear hb
  obtain ⟨bl_l, hbl⟩ : ∃ bb, fewP l 30 = bb := ⟨_, rfl⟩
  have HBL_l := Lib.hid hbl; clear hbl
  go_wp2_with fail
  refine (Few A_l n_l c_l 30 l _ bl_l (by decide) ⟨HN_l.out, HC_l.out, HM_l.out, HR_l.out⟩ HBL_l.out).mono ?_
  rintro e w2 ⟨rfl, hb⟩
  replace HR_l := Lib.hid (HR_l.out.mv hb)
  replace HB := Lib.hid (below_mv HB.out hb)
  clear hb
  cases bl_l with
  | false =>
    go_wp2
    go_ret
    exact ⟨rfl, HB.out⟩
  | true =>
  have HL_l := Lib.hid (fewP_lt HBL_l.out); have HQ_l : Hid (n_l ≤ 40) := Lib.hid (by have h1 := fewP_len HBL_l.out; have h2 := HN_l.out; omega)
  have HBC := HB; have HC_l := HR_l
  go_wp2_with (at_builtin; refine wpList_ownPL rfl (.const (.slice none 0 0)) (.tmp 15) rfl w2.heap.size w2.heap.size n_l c_l (.slice none 0 0) A_l [] l rfl rfl (ownP_nil _ _) HR_l.out (Nat.le_refl _) HN_l.out (by have := HQ_l.out; simp; omega) (Nat.le_refl _) ?_; intro v_r w3 ho hg; have hb2 : Below w2.heap.size w2 w3 := (Below.refl _ _).grown hg (Nat.le_refl _) (fun k e => by cases e); have HO_r := Lib.hid (show OwnP w3 w2.heap.size v_r l from ho); have HBK := Lib.hid hb2; clear ho hg hb2)
  have hb := HBK.out
  replace HR_l := Lib.hid (HR_l.out.mv hb)
  replace HB := Lib.hid (below_mv HB.out hb)
  clear hb
  have HLT_r : Hid (∀ g, v_r.ownBlock = some g → g < w3.heap.size) := Lib.hid (ownP_lt HO_r.out)
  refine (TurnLH A_l n_l c_l l w3 HN_l.out (by have := HQ_l.out; omega) HL_l.out HR_l.out).mono ?_
  rintro e w4 ⟨A_x, c_x, rfl, _, hx, hb⟩
  replace HBK := Lib.hid (below_mv HBK.out hb)
  replace HR_l := Lib.hid (HR_l.out.mv hb)
  replace HO_r := Lib.hid (HO_r.out.below hb)
  replace HB := Lib.hid (below_mv HB.out hb)
  clear hb
  have HH_x := Lib.hid hx; have HR_x := Lib.hid (hx.mono fun b hb => hb.2); clear hx
  obtain ⟨n_x, hn⟩ : ∃ n, List.length (turnF l) = n := ⟨_, rfl⟩
  rw [hn]
  have HN_x := Lib.hid hn; clear hn
  have HL_x := Lib.hid HL_l.out.turn; have HQ_x : Hid (n_x ≤ 100) := Lib.hid (by have h1 := HN_x.out; rw [turnF_len, HN_l.out] at h1; have h2 := HQ_l.out; omega)
  go_wp2_with (at_builtin; refine wpList_ownPH rfl (.tmp 16) (.tmp 18) rfl w2.heap.size w3.heap.size n_x c_x v_r A_x l (turnF l) rfl rfl HO_r.out HLT_r.out HH_x.out HN_x.out (by have h1 := HQ_x.out; have h2 := HQ_l.out; have h3 := HN_l.out; omega) HBK.out.size ?_; intro v_j w5 ho hg; have hb3 : Below w2.heap.size w2 w5 := HBK.out.grown hg HBK.out.size (fun k e => ownP_ge HO_r.out k e); have HP_j := Lib.hid ho; have HD_j := Lib.hid hb3; clear ho hg hb3; obtain ⟨A_j, c_j, hv, hc, hr, _⟩ := rdP_own HP_j.out; have HR_j := Lib.hid hr; obtain ⟨n_j, hn⟩ : ∃ n, List.length (l ++ (turnF l)) = n := ⟨_, rfl⟩; rw [hn] at hv; subst hv; have HN_j := Lib.hid hn; clear hc hr HP_j hn)
  have hb := HD_j.out
  have HL_j := Lib.hid (Lt.app HL_l.out HL_x.out); have HQ_j : Hid (n_j ≤ 1000) := Lib.hid (by have h1 := HN_j.out; rw [List.length_append, HN_l.out, HN_x.out] at h1; have h2 := HQ_l.out; have h3 := HQ_x.out; omega)
  clear HD_j HBK HO_r HLT_r HH_x HR_l HR_x HB
  have HR_l := Lib.hid (HC_l.out.mv hb); have HB := Lib.hid (below_mv HBC.out hb)
  clear hb HBC HC_l
  have hrw : Td.tidyP (l ++ turnF l) = [] := Td.tidy_none _ _ Pr.turnP_turnP Td.idleP_turn l
  have C := Td.TidyL A_j n_j c_j (l ++ turnF l) w5 HN_j.out (by have := HQ_j.out; omega) HL_j.out HR_j.out
  rw [hrw] at C
  refine C.mono ?_
  clear C hrw
  rintro e w6 ⟨A_y, c_y, rfl, _, _, hb⟩
  replace HR_l := Lib.hid (HR_l.out.mv hb)
  replace HR_j := Lib.hid (HR_j.out.mv hb)
  replace HB := Lib.hid (below_mv HB.out hb)
  clear hb
  have hl0 : ([] : List Ch).length = 0 := rfl
  rw [hl0]
  go_wp2
  go_ret
  exact ⟨rfl, HB.out⟩

end TdLNone
open TdLNone
open Tx
open Go.ChangeShapes Go.WideShapes Go.ChangeAt

theorem tidyNone_own : ownKnob Try.prog.godebug = none := by kernel_rfl
theorem tidyNone_laidOut : laidOutB Try.prog = true := by kernel_rfl

set_option maxRecDepth 100000 in
theorem tidyNone_lifted (os : Os) (started : os.Started) (H : Type) (enc : TypeId × Value → H) :
    ReturnsInHanded {} Try.checked os 8 .any (Rows.tidyNoneSpec.pre6 enc Try.prog Try.f8 Rows.tidyNoneRow.domain false) (Rows.tidyNoneSpec.post enc Try.prog Try.f8 false true false false) := by
  refine returnsInHanded_of_change (C := Try.checked) tidyNone_own started (by kernel_rfl) Try.func8
    (ChangeSpec.witness6 (enc := enc) (C := Try.checked) false ⟨#[], #[.slice none 0 0], []⟩ 8 (by kernel_rfl) (by kernel_rfl) (by kernel_rfl) (by kernel_rfl)) ?_
  intro W base args ds gs before hval0 hW hcnd _
  have hval : ∀ (j : Nat) t v, Try.f8.params[j]? = some t → args[j]? = some v → Value.okWide Try.prog W .any base t v := hval0
  have hW' := hW
  obtain ⟨p, q, hA0, hV, rfl, hfz, hnd⟩ := hW
  have hA : DataW.TrodAll enc Try.prog W 0 (fun _ => true) true Try.f8.params.toList args.toList ds p := hA0
  rw [Try.params8] at hA hval
  obtain ⟨v0, vs0, d0, ds0, p0, q0, hargs, rfl, rfl, h0, r0⟩ := trodAll_cons hA
  obtain ⟨rfl, rfl, rfl⟩ := trodAll_nil r0
  obtain rfl : args = #[v0] := by cases args; simp_all
  obtain ⟨rfl, rfl⟩ := trodVars_none hV
  obtain ⟨a0, n0, c0, rfl⟩ := okWide_slice Try.underlying22 (hval 0 22 v0 rfl rfl)
  have k0 := h0
  have lt0 : ∀ x ∈ p0, x.block < W.heap.size := by obtain ⟨m, hm⟩ := k0; exact DataW.trod_lt m _ _ _ hm
  obtain ⟨l0, s0⟩ : ∃ l, PrsArg W a0 n0 c0 l := by
    obtain ⟨fuel, hf⟩ := h0
    exact prs_in hf (by simp [Value.cells])
  clear hA0 hval0
  refine (tidyNone_walk a0 n0 c0 l0 W s0).mono fun e W' ⟨he, bel⟩ => ?_
  subst he
  exact ⟨_, rfl, _, _, _, [], _, [], hW', trodAll_mk1 (shut_bool Try.underlying4 _), (trodAll_cons_mk (Below.trod tidyNone_laidOut (by kernel_rfl) (of_decide_eq_true (by kernel_rfl)) k0 bel lt0) trodAll_mk0), rfl, bel.frame _, fun h => by cases h⟩

/-- The statement. -/
theorem tidyNone_proved : Rows.TidyNoneSaid :=
  OpenClaim.holds_of_wide 8 Try.f8 rfl rfl rfl rfl rfl rfl rfl ⟨rfl, rfl, rfl, rfl, rfl⟩ rfl rfl rfl rfl rfl (by kernel_rfl) Try.func8 (by kernel_rfl)
    (of_decide_eq_true (by kernel_rfl)) (by unfold Func.isWrapper; first | (rw [if_pos (by decide +kernel)]; kernel_rfl) | (rw [if_neg (by decide +kernel)]; exact ⟨rfl, rfl⟩))
    (fun os started H enc _ => tidyNone_lifted os started H enc)

#print axioms tidyNone_proved
end Go.Proofs.Yteiidklmlelabaa
