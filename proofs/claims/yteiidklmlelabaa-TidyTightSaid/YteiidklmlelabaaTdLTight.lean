/-
  The statement TidyTight: what is tidied is tight, and tidied again it is itself; what is tight stays.
-/
import Derived.Test.YteiidklmlelabaaTdAwake
import Derived.Test.YteiidklmlelabaaFlOpen
import Derived.Test.YteiidklmlelabaaFlLaw
import Derived.OpenShut
import Derived.ShutString
import Derived.BigQuiet
set_option maxRecDepth 100000
namespace Go.Proofs.Yteiidklmlelabaa
open Go.RowKit
set_option linter.unusedVariables false
open Tr Tx Hk Pr Fl
namespace TdLTight

theorem same_tight {l : List Ch} {b : Bool} (h : Td.tightP l = b) : listP (Td.tidyP l) l = b := by
  rw [← h]
  show listP (Td.tidyP l) l = Td.tight idleP turnP l
  rw [Td.tight_iff_same, Bool.eq_iff_iff, decide_eq_true_eq]; exact listP_iff

set_option maxRecDepth 100000 in
set_option maxHeartbeats 8000000 in
theorem tidyTight_walk (A_l : Option Addr) (n_l c_l : Nat) (l : List Ch) (w : World) (h_l : PrsArg w A_l n_l c_l l) :
    Calls Try.prog 7 #[.slice A_l n_l c_l] w (LawEnd w) := by
  have HR_l := Lib.hid h_l.rd; have HN_l := Lib.hid h_l.len; have HC_l := Lib.hid h_l.cap; have HM_l := Lib.hid h_l.le
  have HB := Lib.hid (Below.refl w.heap.size w)
  clear h_l
  go_enter Try.func7, Try.ntmps7
  go_wp2_with fail
  refine (Td.awake w).mono ?_
  rintro e w1 ⟨rfl, hb⟩
  replace HR_l := Lib.hid (HR_l.out.mv hb)
  replace HB := Lib.hid (below_mv HB.out hb)
  clear hb
  obtain ⟨bl_l, hbl⟩ : ∃ bb, fewP l 60 = bb := ⟨_, rfl⟩
  have HBL_l := Lib.hid hbl; clear hbl
  go_wp2_with fail
  refine (Few A_l n_l c_l 60 l _ bl_l (by decide) ⟨HN_l.out, HC_l.out, HM_l.out, HR_l.out⟩ HBL_l.out).mono ?_
  rintro e w2 ⟨rfl, hb⟩
  replace HR_l := Lib.hid (HR_l.out.mv hb)
  replace HB := Lib.hid (below_mv HB.out hb)
  clear hb
  cases bl_l with
  | false =>
    go_wp2
    go_ret
    exact ⟨rfl, HB.out⟩
  | true =>
  have HL_l := Lib.hid (fewP_lt HBL_l.out); have HQ_l : Hid (n_l ≤ 60) := Lib.hid (by have h1 := fewP_len HBL_l.out; have h2 := HN_l.out; omega)
  go_wp2_with fail
  refine (Td.TidyL A_l n_l c_l l w2 HN_l.out (by have := HQ_l.out; omega) HL_l.out HR_l.out).mono ?_
  rintro e w3 ⟨A_m, c_m, rfl, _, hx, hb⟩
  replace HR_l := Lib.hid (HR_l.out.mv hb)
  replace HB := Lib.hid (below_mv HB.out hb)
  clear hb
  have HR_m := Lib.hid hx; clear hx
  obtain ⟨n_m, hn⟩ : ∃ n, List.length (Td.tidyP l) = n := ⟨_, rfl⟩
  rw [hn]
  have HN_m := Lib.hid hn; clear hn
  have HL_m := Lib.hid (Td.tidyP_lt HL_l.out)
  have HQ_m : Hid (n_m ≤ 1000) := Lib.hid (by have h1 := HN_m.out; have h2 := Td.tidyP_len l; have h3 := HN_l.out; have h4 := HQ_l.out; omega)
  go_wp2_with fail
  refine (Td.TightL A_m n_m c_m (Td.tidyP l) w3 true HN_m.out (by have := HQ_m.out; omega) HL_m.out HR_m.out (Td.tidy_tight _ _ l)).mono ?_
  rintro e w4 ⟨rfl, hb⟩
  replace HR_l := Lib.hid (HR_l.out.mv hb)
  replace HR_m := Lib.hid (HR_m.out.mv hb)
  replace HB := Lib.hid (below_mv HB.out hb)
  clear hb
  go_wp2_with fail
  refine (Td.TidyL A_m n_m c_m (Td.tidyP l) w4 HN_m.out (by have := HQ_m.out; omega) HL_m.out HR_m.out).mono ?_
  rintro e w5 ⟨A_k, c_k, rfl, _, hx, hb⟩
  replace HR_l := Lib.hid (HR_l.out.mv hb)
  replace HR_m := Lib.hid (HR_m.out.mv hb)
  replace HB := Lib.hid (below_mv HB.out hb)
  clear hb
  have HR_k := Lib.hid hx; clear hx
  have hrw : (Td.tidyP (Td.tidyP l)) = (Td.tidyP l) := Td.tidy_tidy _ _ l
  rw [hrw] at HR_k ⊢
  clear hrw
  obtain ⟨n_k, hn⟩ : ∃ n, List.length (Td.tidyP l) = n := ⟨_, rfl⟩
  rw [hn]
  have HN_k := Lib.hid hn; clear hn
  have HL_k := Lib.hid (HL_m.out)
  have HQ_k : Hid (n_k ≤ 1000) := Lib.hid (by have h1 := HN_k.out; have h2 := HN_m.out; have h3 := HQ_m.out; omega)
  go_wp2_with fail
  refine (SameL A_k n_k c_k A_m n_m c_m (Td.tidyP l) (Td.tidyP l) _ true HN_k.out HN_m.out (by have := HQ_k.out; omega) HR_k.out HR_m.out (listP_self _)).mono ?_
  rintro e w6 ⟨rfl, hb⟩
  replace HR_l := Lib.hid (HR_l.out.mv hb)
  replace HR_m := Lib.hid (HR_m.out.mv hb)
  replace HR_k := Lib.hid (HR_k.out.mv hb)
  replace HB := Lib.hid (below_mv HB.out hb)
  clear hb
  have h0 : ¬ ((n_l : Int) < (n_m : Int)) := by have h1 := HN_m.out; have h2 := Td.tidyP_len l; have h3 := HN_l.out; omega
  obtain ⟨bt, hbt⟩ : ∃ b, Td.tightP l = b := ⟨_, rfl⟩
  have HBT := Lib.hid hbt; clear hbt
  go_wp2_with fail
  refine (Td.TightL A_l n_l c_l l w6 bt HN_l.out (by have := HQ_l.out; omega) HL_l.out HR_l.out HBT.out).mono ?_
  rintro e w7 ⟨rfl, hb⟩
  replace HR_l := Lib.hid (HR_l.out.mv hb)
  replace HR_m := Lib.hid (HR_m.out.mv hb)
  replace HR_k := Lib.hid (HR_k.out.mv hb)
  replace HB := Lib.hid (below_mv HB.out hb)
  clear hb
  go_wp2_with fail
  refine (SameL A_m n_m c_m A_l n_l c_l (Td.tidyP l) l _ bt HN_m.out HN_l.out (by have := HQ_m.out; omega) HR_m.out HR_l.out (same_tight HBT.out)).mono ?_
  rintro e w8 ⟨rfl, hb⟩
  replace HR_l := Lib.hid (HR_l.out.mv hb)
  replace HR_m := Lib.hid (HR_m.out.mv hb)
  replace HR_k := Lib.hid (HR_k.out.mv hb)
  replace HB := Lib.hid (below_mv HB.out hb)
  clear hb
  cases bt with
  | false =>
    go_wp2
    go_ret
    exact ⟨rfl, HB.out⟩
  | true =>
    go_wp2
    go_ret
    exact ⟨rfl, HB.out⟩

end TdLTight
open TdLTight
open Tx
open Go.ChangeShapes Go.WideShapes Go.ChangeAt

theorem tidyTight_own : ownKnob Try.prog.godebug = none := by kernel_rfl
theorem tidyTight_laidOut : laidOutB Try.prog = true := by kernel_rfl

set_option maxRecDepth 100000 in
theorem tidyTight_lifted (os : Os) (started : os.Started) (H : Type) (enc : TypeId × Value → H) :
    ReturnsInHanded {} Try.checked os 7 .any (Rows.tidyTightSpec.pre6 enc Try.prog Try.f7 Rows.tidyTightRow.domain false) (Rows.tidyTightSpec.post enc Try.prog Try.f7 false true false false) := by
  refine returnsInHanded_of_change (C := Try.checked) tidyTight_own started (by kernel_rfl) Try.func7
    (ChangeSpec.witness6 (enc := enc) (C := Try.checked) false ⟨#[], #[.slice none 0 0], []⟩ 8 (by kernel_rfl) (by kernel_rfl) (by kernel_rfl) (by kernel_rfl)) ?_
  intro W base args ds gs before hval0 hW hcnd _
  have hval : ∀ (j : Nat) t v, Try.f7.params[j]? = some t → args[j]? = some v → Value.okWide Try.prog W .any base t v := hval0
  have hW' := hW
  obtain ⟨p, q, hA0, hV, rfl, hfz, hnd⟩ := hW
  have hA : DataW.TrodAll enc Try.prog W 0 (fun _ => true) true Try.f7.params.toList args.toList ds p := hA0
  rw [Try.params7] at hA hval
  obtain ⟨v0, vs0, d0, ds0, p0, q0, hargs, rfl, rfl, h0, r0⟩ := trodAll_cons hA
  obtain ⟨rfl, rfl, rfl⟩ := trodAll_nil r0
  obtain rfl : args = #[v0] := by cases args; simp_all
  obtain ⟨rfl, rfl⟩ := trodVars_none hV
  obtain ⟨a0, n0, c0, rfl⟩ := okWide_slice Try.underlying22 (hval 0 22 v0 rfl rfl)
  have k0 := h0
  have lt0 : ∀ x ∈ p0, x.block < W.heap.size := by obtain ⟨m, hm⟩ := k0; exact DataW.trod_lt m _ _ _ hm
  obtain ⟨l0, s0⟩ : ∃ l, PrsArg W a0 n0 c0 l := by
    obtain ⟨fuel, hf⟩ := h0
    exact prs_in hf (by simp [Value.cells])
  clear hA0 hval0
  refine (tidyTight_walk a0 n0 c0 l0 W s0).mono fun e W' ⟨he, bel⟩ => ?_
  subst he
  exact ⟨_, rfl, _, _, _, [], _, [], hW', trodAll_mk1 (shut_bool Try.underlying4 _), (trodAll_cons_mk (Below.trod tidyTight_laidOut (by kernel_rfl) (of_decide_eq_true (by kernel_rfl)) k0 bel lt0) trodAll_mk0), rfl, bel.frame _, fun h => by cases h⟩

/-- The statement. -/
theorem tidyTight_proved : Rows.TidyTightSaid :=
  OpenClaim.holds_of_wide 7 Try.f7 rfl rfl rfl rfl rfl rfl rfl ⟨rfl, rfl, rfl, rfl, rfl⟩ rfl rfl rfl rfl rfl (by kernel_rfl) Try.func7 (by kernel_rfl)
    (of_decide_eq_true (by kernel_rfl)) (by unfold Func.isWrapper; first | (rw [if_pos (by decide +kernel)]; kernel_rfl) | (rw [if_neg (by decide +kernel)]; exact ⟨rfl, rfl⟩))
    (fun os started H enc _ => tidyTight_lifted os started H enc)

#print axioms tidyTight_proved
end Go.Proofs.Yteiidklmlelabaa
