/-
  The statement NewsGives: what changes one tree into another one changes it so, and, turned, back; there is none just if both are the same.
-/
import Derived.Test.YtjhjmfodpnipiaaGreatFlWide
import Derived.Test.YtjhjmfodpnipiaaGreatFlTurn
import Derived.Test.YtjhjmfodpnipiaaGreatNwAwake
import Derived.Test.YtjhjmfodpnipiaaGreatNwLaw
import Derived.OpenShut
import Derived.ShutString
import Derived.BigQuiet
set_option maxRecDepth 100000
namespace Go.Proofs.YtjhjmfodpnipiaaGreat
open Go.RowKit
set_option linter.unusedVariables false
open Tr Tx Hk Pr Fl
namespace NwL

set_option maxRecDepth 100000 in
set_option maxHeartbeats 8000000 in
theorem newsGives_walk (A_t : Option Addr) (n_t c_t : Nat) (t : TR) (A_u : Option Addr) (n_u c_u : Nat) (u : TR) (w : World) (h_t : TreeArg w A_t n_t c_t t) (h_u : TreeArg w A_u n_u c_u u) :
    Calls Tryz.prog 3 #[.slice A_t n_t c_t, .slice A_u n_u c_u] w (LawEnd w) := by
  have HT_t := Lib.hid h_t.rd; have HN_t := Lib.hid h_t.len; have HF_t := Lib.hid h_t.fit; have HC_t := Lib.hid h_t.le; have HK_t := Lib.hid h_t.cap
  have HT_u := Lib.hid h_u.rd; have HN_u := Lib.hid h_u.len; have HF_u := Lib.hid h_u.fit; have HC_u := Lib.hid h_u.le; have HK_u := Lib.hid h_u.cap
  have HB := Lib.hid (Below.refl w.heap.size w)
  clear h_t h_u
  go_enter Tryz.func3, Tryz.ntmps3
  go_wp2_with fail
  refine (Nw.awake w).mono ?_
  rintro e w1 ⟨rfl, hb⟩
  replace HT_t := Lib.hid (HT_t.out.mv hb)
  replace HT_u := Lib.hid (HT_u.out.mv hb)
  replace HB := Lib.hid (below_mv HB.out hb)
  clear hb
  obtain ⟨b_t, hb⟩ : ∃ b, Nw.shortT t = b := ⟨_, rfl⟩
  have HBL_t := Lib.hid hb; clear hb
  go_wp2_with fail
  refine (Nw.ShortT A_t n_t c_t t _ b_t ⟨HN_t.out, HK_t.out, HC_t.out, HT_t.out, HF_t.out⟩ HBL_t.out).mono ?_
  rintro e w2 ⟨rfl, hb⟩
  replace HT_t := Lib.hid (HT_t.out.mv hb)
  replace HT_u := Lib.hid (HT_u.out.mv hb)
  replace HB := Lib.hid (below_mv HB.out hb)
  clear hb
  obtain ⟨b_u, hb⟩ : ∃ b, Nw.shortT u = b := ⟨_, rfl⟩
  have HBL_u := Lib.hid hb; clear hb
  go_wp2_with fail
  refine (Nw.ShortT A_u n_u c_u u _ b_u ⟨HN_u.out, HK_u.out, HC_u.out, HT_u.out, HF_u.out⟩ HBL_u.out).mono ?_
  rintro e w3 ⟨rfl, hb⟩
  replace HT_t := Lib.hid (HT_t.out.mv hb)
  replace HT_u := Lib.hid (HT_u.out.mv hb)
  replace HB := Lib.hid (below_mv HB.out hb)
  clear hb
  cases b_t with
  | false =>
    go_wp2
    go_ret
    exact ⟨rfl, HB.out⟩
  | true =>
  have HS_t := Lib.hid (lightT_small (Nw.shortT_few HBL_t.out).1).2; have HK40_t := Lib.hid (lightT_small (Nw.shortT_few HBL_t.out).1).1; have H60_t := Lib.hid (Nw.shortT_60 HBL_t.out); clear HF_t HC_t HK_t
  cases b_u with
  | false =>
    go_wp2
    go_ret
    exact ⟨rfl, HB.out⟩
  | true =>
  have HS_u := Lib.hid (lightT_small (Nw.shortT_few HBL_u.out).1).2; have HK40_u := Lib.hid (lightT_small (Nw.shortT_few HBL_u.out).1).1; have H60_u := Lib.hid (Nw.shortT_60 HBL_u.out); clear HF_u HC_u HK_u
  obtain ⟨m_t, hm⟩ : ∃ b, mayT t = b := ⟨_, rfl⟩
  have HM_t := Lib.hid hm; clear hm
  go_wp2_with fail
  refine (MayC (b := m_t) HN_t.out HS_t.out HT_t.out HM_t.out).mono ?_
  rintro e w4 ⟨rfl, hb⟩
  replace HT_t := Lib.hid (HT_t.out.mv hb)
  replace HT_u := Lib.hid (HT_u.out.mv hb)
  replace HB := Lib.hid (below_mv HB.out hb)
  clear hb
  cases m_t with
  | false =>
    go_wp2
    go_ret
    exact ⟨rfl, HB.out⟩
  | true =>
  obtain ⟨m_u, hm⟩ : ∃ b, mayT u = b := ⟨_, rfl⟩
  have HM_u := Lib.hid hm; clear hm
  go_wp2_with fail
  refine (MayC (b := m_u) HN_u.out HS_u.out HT_u.out HM_u.out).mono ?_
  rintro e w5 ⟨rfl, hb⟩
  replace HT_t := Lib.hid (HT_t.out.mv hb)
  replace HT_u := Lib.hid (HT_u.out.mv hb)
  replace HB := Lib.hid (below_mv HB.out hb)
  clear hb
  cases m_u with
  | false =>
    go_wp2
    go_ret
    exact ⟨rfl, HB.out⟩
  | true =>
  go_wp2_with fail
  refine (Nw.OfC HM_t.out HM_u.out (Nw.Of A_t A_u n_t c_t n_u c_u t u w5 HN_t.out HN_u.out HS_t.out HS_u.out HK40_t.out HK40_u.out H60_t.out H60_u.out HT_t.out HT_u.out)).mono ?_
  rintro e w6 ⟨A_l, n_l, c_l, rfl, hc, hn, hr, hb⟩
  replace HT_t := Lib.hid (HT_t.out.mv hb)
  replace HT_u := Lib.hid (HT_u.out.mv hb)
  replace HB := Lib.hid (below_mv HB.out hb)
  clear hb
  have HR_l := Lib.hid (show RdP _ _ A_l (Nw.newsL t u) from hr); have HN_l := Lib.hid (show List.length (Nw.newsL t u) = n_l from hn); have HQ_l : Hid (n_l ≤ 17000) := Lib.hid (by have h1 := Nw.news_len H60_t.out H60_u.out HK40_t.out HK40_u.out; have h2 := HN_l.out; omega)
  have HL_l := Lib.hid (Nw.news_lt HM_t.out HM_u.out H60_t.out H60_u.out)
  clear hr hn hc
  have HGV := Lib.hid (Nw.news_gives HM_t.out HM_u.out H60_t.out H60_u.out); have HGB := Lib.hid (Nw.news_back HM_t.out HM_u.out H60_t.out H60_u.out); have HGM := Lib.hid (Nw.news_may HM_t.out HM_u.out H60_t.out H60_u.out); have HGN := Lib.hid (Nw.news_none HM_t.out HM_u.out H60_t.out H60_u.out)
  go_wp2_with fail
  refine (ApplyLW 40 100 A_t n_t c_t A_l n_l c_l t (Nw.newsL t u) w6 _ HS_t.out ⟨HK40_t.out, H60_t.out⟩ (by have := HQ_l.out; omega) (by have := HQ_l.out; omega) HN_t.out HN_l.out HL_l.out HT_t.out HR_l.out HGV.out).mono ?_
  rintro e w7 ⟨A_v, n_v, c_v, rfl, hc, hn, hr, hb⟩
  replace HT_t := Lib.hid (HT_t.out.mv hb)
  replace HT_u := Lib.hid (HT_u.out.mv hb)
  replace HR_l := Lib.hid (HR_l.out.mv hb)
  replace HB := Lib.hid (below_mv HB.out hb)
  clear hb
  have HT_v := Lib.hid (show RdT _ _ A_v u from hr); have HN_v := Lib.hid (show List.length u = n_v from hn); clear hr hc hn
  go_wp2_with fail
  refine (TurnL A_l n_l c_l (Nw.newsL t u) _ HN_l.out (by have := HQ_l.out; omega) HL_l.out HR_l.out).mono ?_
  rintro e w8 ⟨A_y, c_y, rfl, _, hx, hb⟩
  replace HT_t := Lib.hid (HT_t.out.mv hb)
  replace HT_u := Lib.hid (HT_u.out.mv hb)
  replace HT_v := Lib.hid (HT_v.out.mv hb)
  replace HR_l := Lib.hid (HR_l.out.mv hb)
  replace HB := Lib.hid (below_mv HB.out hb)
  clear hb
  have HR_y := Lib.hid hx; clear hx
  have HN_y : Hid (List.length (turnF (Nw.newsL t u)) = n_l) := Lib.hid ((turnF_len _).trans HN_l.out); have hn := HN_y.out
  rw [hn]
  clear hn
  have HL_y := Lib.hid HL_l.out.turn; have HQ_y := HQ_l
  have HQ_y := HQ_l
  go_wp2_with fail
  refine (ApplyLW 40 100 A_u n_u c_u A_y n_l c_y u (turnF (Nw.newsL t u)) w8 _ HS_u.out ⟨HK40_u.out, H60_u.out⟩ (by have := HQ_y.out; omega) (by have := HQ_y.out; omega) HN_u.out HN_y.out HL_y.out HT_u.out HR_y.out HGB.out).mono ?_
  rintro e w9 ⟨A_z, n_z, c_z, rfl, hc, hn, hr, hb⟩
  replace HT_t := Lib.hid (HT_t.out.mv hb)
  replace HT_u := Lib.hid (HT_u.out.mv hb)
  replace HT_v := Lib.hid (HT_v.out.mv hb)
  replace HR_l := Lib.hid (HR_l.out.mv hb)
  replace HR_y := Lib.hid (HR_y.out.mv hb)
  replace HB := Lib.hid (below_mv HB.out hb)
  clear hb
  have HT_z := Lib.hid (show RdT _ _ A_z t from hr); have HN_z := Lib.hid (show List.length t = n_z from hn); clear hr hc hn
  go_wp2_with fail
  refine (SameC (b := true) HN_v.out HN_u.out HS_u.out HT_v.out HT_u.out (decide_eq_true rfl)).mono ?_
  rintro e w10 ⟨rfl, hb⟩
  replace HT_t := Lib.hid (HT_t.out.mv hb)
  replace HT_u := Lib.hid (HT_u.out.mv hb)
  replace HT_v := Lib.hid (HT_v.out.mv hb)
  replace HT_z := Lib.hid (HT_z.out.mv hb)
  replace HR_l := Lib.hid (HR_l.out.mv hb)
  replace HR_y := Lib.hid (HR_y.out.mv hb)
  replace HB := Lib.hid (below_mv HB.out hb)
  clear hb
  go_wp2_with fail
  refine (SameC (b := true) HN_z.out HN_t.out HS_t.out HT_z.out HT_t.out (decide_eq_true rfl)).mono ?_
  rintro e w11 ⟨rfl, hb⟩
  replace HT_t := Lib.hid (HT_t.out.mv hb)
  replace HT_u := Lib.hid (HT_u.out.mv hb)
  replace HT_v := Lib.hid (HT_v.out.mv hb)
  replace HT_z := Lib.hid (HT_z.out.mv hb)
  replace HR_l := Lib.hid (HR_l.out.mv hb)
  replace HR_y := Lib.hid (HR_y.out.mv hb)
  replace HB := Lib.hid (below_mv HB.out hb)
  clear hb
  obtain ⟨bs, hbs⟩ : ∃ b, decide (t = u) = b := ⟨_, rfl⟩
  have HBS := Lib.hid hbs; clear hbs
  go_wp2_with fail
  refine (SameC (b := bs) HN_t.out HN_u.out HS_t.out HT_t.out HT_u.out HBS.out).mono ?_
  rintro e w12 ⟨rfl, hb⟩
  replace HT_t := Lib.hid (HT_t.out.mv hb)
  replace HT_u := Lib.hid (HT_u.out.mv hb)
  replace HT_v := Lib.hid (HT_v.out.mv hb)
  replace HT_z := Lib.hid (HT_z.out.mv hb)
  replace HR_l := Lib.hid (HR_l.out.mv hb)
  replace HR_y := Lib.hid (HR_y.out.mv hb)
  replace HB := Lib.hid (below_mv HB.out hb)
  clear hb
  have hz : ((n_l : Int) == 0) = bs := by
    rw [← HBS.out, ← HN_l.out]
    by_cases he : t = u
    · rw [decide_eq_true he, HGN.out.2 he]; rfl
    · rw [decide_eq_false he, beq_eq_false_iff_ne]
      intro h
      exact he (HGN.out.1 (List.eq_nil_of_length_eq_zero (by omega)))
  have hz2 : (bs == bs) = true := by cases bs <;> rfl
  go_wp2_with fail
  refine (MayL A_l n_l c_l (Nw.newsL t u) w12 true HN_l.out (by have := HQ_l.out; omega) HR_l.out HGM.out).mono ?_
  rintro e w13 ⟨rfl, hb⟩
  replace HT_t := Lib.hid (HT_t.out.mv hb)
  replace HT_u := Lib.hid (HT_u.out.mv hb)
  replace HT_v := Lib.hid (HT_v.out.mv hb)
  replace HT_z := Lib.hid (HT_z.out.mv hb)
  replace HR_l := Lib.hid (HR_l.out.mv hb)
  replace HR_y := Lib.hid (HR_y.out.mv hb)
  replace HB := Lib.hid (below_mv HB.out hb)
  clear hb
  go_wp2
  go_ret
  exact ⟨rfl, HB.out⟩

end NwL
open NwL
open Tx
open Go.ChangeShapes Go.WideShapes Go.ChangeAt

theorem newsGives_own : ownKnob Tryz.prog.godebug = none := by kernel_rfl
theorem newsGives_laidOut : laidOutB Tryz.prog = true := by kernel_rfl

set_option maxRecDepth 100000 in
theorem newsGives_lifted (os : Os) (started : os.Started) (H : Type) (enc : TypeId × Value → H) :
    ReturnsInHanded {} Tryz.checked os 3 .any (Rows.newsGivesSpec.pre6 enc Tryz.prog Tryz.f3 Rows.newsGivesRow.domain false) (Rows.newsGivesSpec.post enc Tryz.prog Tryz.f3 false true false false) := by
  refine returnsInHanded_of_change (C := Tryz.checked) newsGives_own started (by kernel_rfl) Tryz.func3
    (ChangeSpec.witness6 (enc := enc) (C := Tryz.checked) false ⟨#[], #[.slice none 0 0, .slice none 0 0], []⟩ 8 (by kernel_rfl) (by kernel_rfl) (by kernel_rfl) (by kernel_rfl)) ?_
  intro W base args ds gs before hval0 hW hcnd _
  have hval : ∀ (j : Nat) t v, Tryz.f3.params[j]? = some t → args[j]? = some v → Value.okWide Tryz.prog W .any base t v := hval0
  have hW' := hW
  obtain ⟨p, q, hA0, hV, rfl, hfz, hnd⟩ := hW
  have hA : DataW.TrodAll enc Tryz.prog W 0 (fun _ => true) true Tryz.f3.params.toList args.toList ds p := hA0
  rw [Tryz.params3] at hA hval
  obtain ⟨v0, vs0, d0, ds0, p0, q0, hargs, rfl, rfl, h0, r0⟩ := trodAll_cons hA
  obtain ⟨v1, vs1, d1, ds1, p1, q1, rfl, rfl, rfl, h1, r1⟩ := trodAll_cons r0
  obtain ⟨rfl, rfl, rfl⟩ := trodAll_nil r1
  obtain rfl : args = #[v0, v1] := by cases args; simp_all
  obtain ⟨rfl, rfl⟩ := trodVars_none hV
  obtain ⟨a0, n0, c0, rfl⟩ := okWide_slice Tryz.underlying23 (hval 0 23 v0 rfl rfl)
  have k0 := h0
  have lt0 : ∀ x ∈ p0, x.block < W.heap.size := by obtain ⟨m, hm⟩ := k0; exact DataW.trod_lt m _ _ _ hm
  obtain ⟨l0, s0⟩ : ∃ l, TreeArg W a0 n0 c0 l := by
    obtain ⟨fuel, hf⟩ := h0
    exact tree_in hf (by simp [Value.cells])
  obtain ⟨a1, n1, c1, rfl⟩ := okWide_slice Tryz.underlying23 (hval 1 23 v1 rfl rfl)
  have k1 := h1
  have lt1 : ∀ x ∈ p1, x.block < W.heap.size := by obtain ⟨m, hm⟩ := k1; exact DataW.trod_lt m _ _ _ hm
  obtain ⟨l1, s1⟩ : ∃ l, TreeArg W a1 n1 c1 l := by
    obtain ⟨fuel, hf⟩ := h1
    exact tree_in hf (by simp [Value.cells])
  clear hA0 hval0
  refine (newsGives_walk a0 n0 c0 l0 a1 n1 c1 l1 W s0 s1).mono fun e W' ⟨he, bel⟩ => ?_
  subst he
  exact ⟨_, rfl, _, _, _, [], _, [], hW', trodAll_mk1 (shut_bool Tryz.underlying4 _), (trodAll_cons_mk (Below.trod newsGives_laidOut (by kernel_rfl) (of_decide_eq_true (by kernel_rfl)) k0 bel lt0) (trodAll_cons_mk (Below.trod newsGives_laidOut (by kernel_rfl) (of_decide_eq_true (by kernel_rfl)) k1 bel lt1) trodAll_mk0)), rfl, bel.frame _, fun h => by cases h⟩

/-- The statement. -/
theorem newsGives_proved : Rows.NewsGivesSaid :=
  OpenClaim.holds_of_wide 3 Tryz.f3 rfl rfl rfl rfl rfl rfl rfl ⟨rfl, rfl, rfl, rfl, rfl⟩ rfl rfl rfl rfl rfl (by kernel_rfl) Tryz.func3 (by kernel_rfl)
    (of_decide_eq_true (by kernel_rfl)) (by unfold Func.isWrapper; first | (rw [if_pos (by decide +kernel)]; kernel_rfl) | (rw [if_neg (by decide +kernel)]; exact ⟨rfl, rfl⟩))
    (fun os started H enc _ => newsGives_lifted os started H enc)

#print axioms newsGives_proved
end Go.Proofs.YtjhjmfodpnipiaaGreat
