/-
  The statement NewsTight: none of what changes one tree into another one undoes the one ahead, or changes nothing.
-/
import Derived.Test.YtjhjmfodpnipiaaNwTight
import Derived.Test.YtjhjmfodpnipiaaTdTight
import Derived.Test.YtjhjmfodpnipiaaNwAwake
import Derived.Test.YtjhjmfodpnipiaaNwLaw
import Derived.OpenShut
import Derived.ShutString
import Derived.BigQuiet
set_option maxRecDepth 100000
namespace Go.Proofs.Ytjhjmfodpnipiaa
open Go.RowKit
set_option linter.unusedVariables false
open Tr Tx Hk Pr Fl
namespace NwL

set_option maxRecDepth 100000 in
set_option maxHeartbeats 8000000 in
theorem newsTight_walk (A_t : Option Addr) (n_t c_t : Nat) (t : TR) (A_u : Option Addr) (n_u c_u : Nat) (u : TR) (w : World) (h_t : TreeArg w A_t n_t c_t t) (h_u : TreeArg w A_u n_u c_u u) :
    Calls Try.prog 4 #[.slice A_t n_t c_t, .slice A_u n_u c_u] w (LawEnd w) := by
  have HT_t := Lib.hid h_t.rd; have HN_t := Lib.hid h_t.len; have HF_t := Lib.hid h_t.fit; have HC_t := Lib.hid h_t.le; have HK_t := Lib.hid h_t.cap
  have HT_u := Lib.hid h_u.rd; have HN_u := Lib.hid h_u.len; have HF_u := Lib.hid h_u.fit; have HC_u := Lib.hid h_u.le; have HK_u := Lib.hid h_u.cap
  have HB := Lib.hid (Below.refl w.heap.size w)
  clear h_t h_u
  go_enter Try.func4, Try.ntmps4
  go_wp2_with fail
  refine (Nw.awake w).mono ?_
  rintro e w1 ⟨rfl, hb⟩
  replace HT_t := Lib.hid (HT_t.out.mv hb)
  replace HT_u := Lib.hid (HT_u.out.mv hb)
  replace HB := Lib.hid (below_mv HB.out hb)
  clear hb
  obtain ⟨b_t, hb⟩ : ∃ b, Nw.shortT t = b := ⟨_, rfl⟩
  have HBL_t := Lib.hid hb; clear hb
  go_wp2_with fail
  refine (Nw.ShortT A_t n_t c_t t _ b_t ⟨HN_t.out, HK_t.out, HC_t.out, HT_t.out, HF_t.out⟩ HBL_t.out).mono ?_
  rintro e w2 ⟨rfl, hb⟩
  replace HT_t := Lib.hid (HT_t.out.mv hb)
  replace HT_u := Lib.hid (HT_u.out.mv hb)
  replace HB := Lib.hid (below_mv HB.out hb)
  clear hb
  obtain ⟨b_u, hb⟩ : ∃ b, Nw.shortT u = b := ⟨_, rfl⟩
  have HBL_u := Lib.hid hb; clear hb
  go_wp2_with fail
  refine (Nw.ShortT A_u n_u c_u u _ b_u ⟨HN_u.out, HK_u.out, HC_u.out, HT_u.out, HF_u.out⟩ HBL_u.out).mono ?_
  rintro e w3 ⟨rfl, hb⟩
  replace HT_t := Lib.hid (HT_t.out.mv hb)
  replace HT_u := Lib.hid (HT_u.out.mv hb)
  replace HB := Lib.hid (below_mv HB.out hb)
  clear hb
  cases b_t with
  | false =>
    go_wp2
    go_ret
    exact ⟨rfl, HB.out⟩
  | true =>
  have HS_t := Lib.hid (lightT_small (Nw.shortT_few HBL_t.out).1).2; have HK40_t := Lib.hid (lightT_small (Nw.shortT_few HBL_t.out).1).1; have H60_t := Lib.hid (Nw.shortT_60 HBL_t.out); clear HF_t HC_t HK_t
  cases b_u with
  | false =>
    go_wp2
    go_ret
    exact ⟨rfl, HB.out⟩
  | true =>
  have HS_u := Lib.hid (lightT_small (Nw.shortT_few HBL_u.out).1).2; have HK40_u := Lib.hid (lightT_small (Nw.shortT_few HBL_u.out).1).1; have H60_u := Lib.hid (Nw.shortT_60 HBL_u.out); clear HF_u HC_u HK_u
  obtain ⟨m_t, hm⟩ : ∃ b, mayT t = b := ⟨_, rfl⟩
  have HM_t := Lib.hid hm; clear hm
  go_wp2_with fail
  refine (MayC (b := m_t) HN_t.out HS_t.out HT_t.out HM_t.out).mono ?_
  rintro e w4 ⟨rfl, hb⟩
  replace HT_t := Lib.hid (HT_t.out.mv hb)
  replace HT_u := Lib.hid (HT_u.out.mv hb)
  replace HB := Lib.hid (below_mv HB.out hb)
  clear hb
  cases m_t with
  | false =>
    go_wp2
    go_ret
    exact ⟨rfl, HB.out⟩
  | true =>
  obtain ⟨m_u, hm⟩ : ∃ b, mayT u = b := ⟨_, rfl⟩
  have HM_u := Lib.hid hm; clear hm
  go_wp2_with fail
  refine (MayC (b := m_u) HN_u.out HS_u.out HT_u.out HM_u.out).mono ?_
  rintro e w5 ⟨rfl, hb⟩
  replace HT_t := Lib.hid (HT_t.out.mv hb)
  replace HT_u := Lib.hid (HT_u.out.mv hb)
  replace HB := Lib.hid (below_mv HB.out hb)
  clear hb
  cases m_u with
  | false =>
    go_wp2
    go_ret
    exact ⟨rfl, HB.out⟩
  | true =>
  go_wp2_with fail
  refine (Nw.OfC HM_t.out HM_u.out (Nw.Of A_t A_u n_t c_t n_u c_u t u w5 HN_t.out HN_u.out HS_t.out HS_u.out HK40_t.out HK40_u.out H60_t.out H60_u.out HT_t.out HT_u.out)).mono ?_
  rintro e w6 ⟨A_x, n_x, c_x, rfl, hc, hn, hr, hb⟩
  replace HT_t := Lib.hid (HT_t.out.mv hb)
  replace HT_u := Lib.hid (HT_u.out.mv hb)
  replace HB := Lib.hid (below_mv HB.out hb)
  clear hb
  have HR_x := Lib.hid (show RdP _ _ A_x (Nw.newsL t u) from hr); have HN_x := Lib.hid (show List.length (Nw.newsL t u) = n_x from hn); have HQ_x : Hid (n_x ≤ 17000) := Lib.hid (by have h1 := Nw.news_len H60_t.out H60_u.out HK40_t.out HK40_u.out; have h2 := HN_x.out; omega)
  have HL_x := Lib.hid (Nw.news_lt HM_t.out HM_u.out H60_t.out H60_u.out)
  clear hr hn hc
  go_wp2_with fail
  refine (Td.TightL A_x n_x c_x (Nw.newsL t u) w6 true HN_x.out (by have := HQ_x.out; omega) HL_x.out HR_x.out (Nw.news_tight (mayT_up HM_t.out) (mayT_up HM_u.out))).mono ?_
  rintro e w7 ⟨rfl, hb⟩
  replace HT_t := Lib.hid (HT_t.out.mv hb)
  replace HT_u := Lib.hid (HT_u.out.mv hb)
  replace HR_x := Lib.hid (HR_x.out.mv hb)
  replace HB := Lib.hid (below_mv HB.out hb)
  clear hb
  go_wp2
  go_ret
  exact ⟨rfl, HB.out⟩

end NwL
open NwL
open Tx
open Go.ChangeShapes Go.WideShapes Go.ChangeAt

theorem newsTight_own : ownKnob Try.prog.godebug = none := by kernel_rfl
theorem newsTight_laidOut : laidOutB Try.prog = true := by kernel_rfl

set_option maxRecDepth 100000 in
theorem newsTight_lifted (os : Os) (started : os.Started) (H : Type) (enc : TypeId × Value → H) :
    ReturnsInHanded {} Try.checked os 4 .any (Rows.newsTightSpec.pre6 enc Try.prog Try.f4 Rows.newsTightRow.domain false) (Rows.newsTightSpec.post enc Try.prog Try.f4 false true false false) := by
  refine returnsInHanded_of_change (C := Try.checked) newsTight_own started (by kernel_rfl) Try.func4
    (ChangeSpec.witness6 (enc := enc) (C := Try.checked) false ⟨#[], #[.slice none 0 0, .slice none 0 0], []⟩ 8 (by kernel_rfl) (by kernel_rfl) (by kernel_rfl) (by kernel_rfl)) ?_
  intro W base args ds gs before hval0 hW hcnd _
  have hval : ∀ (j : Nat) t v, Try.f4.params[j]? = some t → args[j]? = some v → Value.okWide Try.prog W .any base t v := hval0
  have hW' := hW
  obtain ⟨p, q, hA0, hV, rfl, hfz, hnd⟩ := hW
  have hA : DataW.TrodAll enc Try.prog W 0 (fun _ => true) true Try.f4.params.toList args.toList ds p := hA0
  rw [Try.params4] at hA hval
  obtain ⟨v0, vs0, d0, ds0, p0, q0, hargs, rfl, rfl, h0, r0⟩ := trodAll_cons hA
  obtain ⟨v1, vs1, d1, ds1, p1, q1, rfl, rfl, rfl, h1, r1⟩ := trodAll_cons r0
  obtain ⟨rfl, rfl, rfl⟩ := trodAll_nil r1
  obtain rfl : args = #[v0, v1] := by cases args; simp_all
  obtain ⟨rfl, rfl⟩ := trodVars_none hV
  obtain ⟨a0, n0, c0, rfl⟩ := okWide_slice Try.underlying23 (hval 0 23 v0 rfl rfl)
  have k0 := h0
  have lt0 : ∀ x ∈ p0, x.block < W.heap.size := by obtain ⟨m, hm⟩ := k0; exact DataW.trod_lt m _ _ _ hm
  obtain ⟨l0, s0⟩ : ∃ l, TreeArg W a0 n0 c0 l := by
    obtain ⟨fuel, hf⟩ := h0
    exact tree_in hf (by simp [Value.cells])
  obtain ⟨a1, n1, c1, rfl⟩ := okWide_slice Try.underlying23 (hval 1 23 v1 rfl rfl)
  have k1 := h1
  have lt1 : ∀ x ∈ p1, x.block < W.heap.size := by obtain ⟨m, hm⟩ := k1; exact DataW.trod_lt m _ _ _ hm
  obtain ⟨l1, s1⟩ : ∃ l, TreeArg W a1 n1 c1 l := by
    obtain ⟨fuel, hf⟩ := h1
    exact tree_in hf (by simp [Value.cells])
  clear hA0 hval0
  refine (newsTight_walk a0 n0 c0 l0 a1 n1 c1 l1 W s0 s1).mono fun e W' ⟨he, bel⟩ => ?_
  subst he
  exact ⟨_, rfl, _, _, _, [], _, [], hW', trodAll_mk1 (shut_bool Try.underlying4 _), (trodAll_cons_mk (Below.trod newsTight_laidOut (by kernel_rfl) (of_decide_eq_true (by kernel_rfl)) k0 bel lt0) (trodAll_cons_mk (Below.trod newsTight_laidOut (by kernel_rfl) (of_decide_eq_true (by kernel_rfl)) k1 bel lt1) trodAll_mk0)), rfl, bel.frame _, fun h => by cases h⟩

/-- The statement. -/
theorem newsTight_proved : Rows.NewsTightSaid :=
  OpenClaim.holds_of_wide 4 Try.f4 rfl rfl rfl rfl rfl rfl rfl ⟨rfl, rfl, rfl, rfl, rfl⟩ rfl rfl rfl rfl rfl (by kernel_rfl) Try.func4 (by kernel_rfl)
    (of_decide_eq_true (by kernel_rfl)) (by unfold Func.isWrapper; first | (rw [if_pos (by decide +kernel)]; kernel_rfl) | (rw [if_neg (by decide +kernel)]; exact ⟨rfl, rfl⟩))
    (fun os started H enc _ => newsTight_lifted os started H enc)

#print axioms newsTight_proved
end Go.Proofs.Ytjhjmfodpnipiaa
