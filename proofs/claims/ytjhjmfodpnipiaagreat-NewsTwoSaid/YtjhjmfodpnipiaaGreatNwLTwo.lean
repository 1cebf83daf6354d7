/-
  The statement NewsTwo: from one tree to a second one, and from that to a third one, is, one behind the other, from the first one to the third one.
-/
import Derived.Test.YtjhjmfodpnipiaaGreatFlWide
import Derived.Test.YtjhjmfodpnipiaaGreatNwAwake
import Derived.Test.YtjhjmfodpnipiaaGreatNwLaw
import Derived.OpenShut
import Derived.ShutString
import Derived.BigQuiet
set_option maxRecDepth 100000
namespace Go.Proofs.YtjhjmfodpnipiaaGreat
open Go.RowKit
set_option linter.unusedVariables false
set_option linter.unusedSimpArgs false
open Tr Tx Hk Pr Fl
namespace NwL

set_option maxRecDepth 100000 in
set_option maxHeartbeats 8000000 in
theorem newsTwo_walk (A_t : Option Addr) (n_t c_t : Nat) (t : TR) (A_u : Option Addr) (n_u c_u : Nat) (u : TR) (A_v : Option Addr) (n_v c_v : Nat) (v : TR) (w : World) (h_t : TreeArg w A_t n_t c_t t) (h_u : TreeArg w A_u n_u c_u u) (h_v : TreeArg w A_v n_v c_v v) :
    Calls Tryz.prog 4 #[.slice A_t n_t c_t, .slice A_u n_u c_u, .slice A_v n_v c_v] w (LawEnd w) := by
  have HT_t := Lib.hid h_t.rd; have HN_t := Lib.hid h_t.len; have HF_t := Lib.hid h_t.fit; have HC_t := Lib.hid h_t.le; have HK_t := Lib.hid h_t.cap
  have HT_u := Lib.hid h_u.rd; have HN_u := Lib.hid h_u.len; have HF_u := Lib.hid h_u.fit; have HC_u := Lib.hid h_u.le; have HK_u := Lib.hid h_u.cap
  have HT_v := Lib.hid h_v.rd; have HN_v := Lib.hid h_v.len; have HF_v := Lib.hid h_v.fit; have HC_v := Lib.hid h_v.le; have HK_v := Lib.hid h_v.cap
  have HB := Lib.hid (Below.refl w.heap.size w)
  clear h_t h_u h_v
  go_enter Tryz.func4, Tryz.ntmps4
  go_wp2_with fail
  refine (Nw.awake w).mono ?_
  rintro e w1 ⟨rfl, hb⟩
  replace HT_t := Lib.hid (HT_t.out.mv hb)
  replace HT_u := Lib.hid (HT_u.out.mv hb)
  replace HT_v := Lib.hid (HT_v.out.mv hb)
  replace HB := Lib.hid (below_mv HB.out hb)
  clear hb
  obtain ⟨b_t, hb⟩ : ∃ b, Nw.shortT t = b := ⟨_, rfl⟩
  have HBL_t := Lib.hid hb; clear hb
  go_wp2_with fail
  refine (Nw.ShortT A_t n_t c_t t _ b_t ⟨HN_t.out, HK_t.out, HC_t.out, HT_t.out, HF_t.out⟩ HBL_t.out).mono ?_
  rintro e w2 ⟨rfl, hb⟩
  replace HT_t := Lib.hid (HT_t.out.mv hb)
  replace HT_u := Lib.hid (HT_u.out.mv hb)
  replace HT_v := Lib.hid (HT_v.out.mv hb)
  replace HB := Lib.hid (below_mv HB.out hb)
  clear hb
  obtain ⟨b_u, hb⟩ : ∃ b, Nw.shortT u = b := ⟨_, rfl⟩
  have HBL_u := Lib.hid hb; clear hb
  go_wp2_with fail
  refine (Nw.ShortT A_u n_u c_u u _ b_u ⟨HN_u.out, HK_u.out, HC_u.out, HT_u.out, HF_u.out⟩ HBL_u.out).mono ?_
  rintro e w3 ⟨rfl, hb⟩
  replace HT_t := Lib.hid (HT_t.out.mv hb)
  replace HT_u := Lib.hid (HT_u.out.mv hb)
  replace HT_v := Lib.hid (HT_v.out.mv hb)
  replace HB := Lib.hid (below_mv HB.out hb)
  clear hb
  obtain ⟨b_v, hb⟩ : ∃ b, Nw.shortT v = b := ⟨_, rfl⟩
  have HBL_v := Lib.hid hb; clear hb
  go_wp2_with fail
  refine (Nw.ShortT A_v n_v c_v v _ b_v ⟨HN_v.out, HK_v.out, HC_v.out, HT_v.out, HF_v.out⟩ HBL_v.out).mono ?_
  rintro e w4 ⟨rfl, hb⟩
  replace HT_t := Lib.hid (HT_t.out.mv hb)
  replace HT_u := Lib.hid (HT_u.out.mv hb)
  replace HT_v := Lib.hid (HT_v.out.mv hb)
  replace HB := Lib.hid (below_mv HB.out hb)
  clear hb
  cases b_t with
  | false =>
    go_wp2
    go_ret
    exact ⟨rfl, HB.out⟩
  | true =>
  have HS_t := Lib.hid (lightT_small (Nw.shortT_few HBL_t.out).1).2; have HK40_t := Lib.hid (lightT_small (Nw.shortT_few HBL_t.out).1).1; have H60_t := Lib.hid (Nw.shortT_60 HBL_t.out); clear HF_t HC_t HK_t
  cases b_u with
  | false =>
    go_wp2
    go_ret
    exact ⟨rfl, HB.out⟩
  | true =>
  have HS_u := Lib.hid (lightT_small (Nw.shortT_few HBL_u.out).1).2; have HK40_u := Lib.hid (lightT_small (Nw.shortT_few HBL_u.out).1).1; have H60_u := Lib.hid (Nw.shortT_60 HBL_u.out); clear HF_u HC_u HK_u
  cases b_v with
  | false =>
    go_wp2
    go_ret
    exact ⟨rfl, HB.out⟩
  | true =>
  have HS_v := Lib.hid (lightT_small (Nw.shortT_few HBL_v.out).1).2; have HK40_v := Lib.hid (lightT_small (Nw.shortT_few HBL_v.out).1).1; have H60_v := Lib.hid (Nw.shortT_60 HBL_v.out); clear HF_v HC_v HK_v
  obtain ⟨m_t, hm⟩ : ∃ b, mayT t = b := ⟨_, rfl⟩
  have HM_t := Lib.hid hm; clear hm
  go_wp2_with fail
  refine (MayC (b := m_t) HN_t.out HS_t.out HT_t.out HM_t.out).mono ?_
  rintro e w5 ⟨rfl, hb⟩
  replace HT_t := Lib.hid (HT_t.out.mv hb)
  replace HT_u := Lib.hid (HT_u.out.mv hb)
  replace HT_v := Lib.hid (HT_v.out.mv hb)
  replace HB := Lib.hid (below_mv HB.out hb)
  clear hb
  cases m_t with
  | false =>
    go_wp2
    go_ret
    exact ⟨rfl, HB.out⟩
  | true =>
  obtain ⟨m_u, hm⟩ : ∃ b, mayT u = b := ⟨_, rfl⟩
  have HM_u := Lib.hid hm; clear hm
  go_wp2_with fail
  refine (MayC (b := m_u) HN_u.out HS_u.out HT_u.out HM_u.out).mono ?_
  rintro e w6 ⟨rfl, hb⟩
  replace HT_t := Lib.hid (HT_t.out.mv hb)
  replace HT_u := Lib.hid (HT_u.out.mv hb)
  replace HT_v := Lib.hid (HT_v.out.mv hb)
  replace HB := Lib.hid (below_mv HB.out hb)
  clear hb
  cases m_u with
  | false =>
    go_wp2
    go_ret
    exact ⟨rfl, HB.out⟩
  | true =>
  obtain ⟨m_v, hm⟩ : ∃ b, mayT v = b := ⟨_, rfl⟩
  have HM_v := Lib.hid hm; clear hm
  go_wp2_with fail
  refine (MayC (b := m_v) HN_v.out HS_v.out HT_v.out HM_v.out).mono ?_
  rintro e w7 ⟨rfl, hb⟩
  replace HT_t := Lib.hid (HT_t.out.mv hb)
  replace HT_u := Lib.hid (HT_u.out.mv hb)
  replace HT_v := Lib.hid (HT_v.out.mv hb)
  replace HB := Lib.hid (below_mv HB.out hb)
  clear hb
  cases m_v with
  | false =>
    go_wp2
    go_ret
    exact ⟨rfl, HB.out⟩
  | true =>
  go_wp2_with fail
  refine (Nw.OfC HM_t.out HM_u.out (Nw.Of A_t A_u n_t c_t n_u c_u t u w7 HN_t.out HN_u.out HS_t.out HS_u.out HK40_t.out HK40_u.out H60_t.out H60_u.out HT_t.out HT_u.out)).mono ?_
  rintro e w8 ⟨A_l, n_l, c_l, rfl, hc, hn, hr, hb⟩
  replace HT_t := Lib.hid (HT_t.out.mv hb)
  replace HT_u := Lib.hid (HT_u.out.mv hb)
  replace HT_v := Lib.hid (HT_v.out.mv hb)
  replace HB := Lib.hid (below_mv HB.out hb)
  clear hb
  have HR_l := Lib.hid (show RdP _ _ A_l (Nw.newsL t u) from hr); have HN_l := Lib.hid (show List.length (Nw.newsL t u) = n_l from hn); have HQ_l : Hid (n_l ≤ 17000) := Lib.hid (by have h1 := Nw.news_len H60_t.out H60_u.out HK40_t.out HK40_u.out; have h2 := HN_l.out; omega)
  have HL_l := Lib.hid (Nw.news_lt HM_t.out HM_u.out H60_t.out H60_u.out)
  clear hr hn hc
  go_wp2_with fail
  refine (Nw.OfC HM_u.out HM_v.out (Nw.Of A_u A_v n_u c_u n_v c_v u v w8 HN_u.out HN_v.out HS_u.out HS_v.out HK40_u.out HK40_v.out H60_u.out H60_v.out HT_u.out HT_v.out)).mono ?_
  rintro e w9 ⟨A_m, n_m, c_m, rfl, hc, hn, hr, hb⟩
  replace HT_t := Lib.hid (HT_t.out.mv hb)
  replace HT_u := Lib.hid (HT_u.out.mv hb)
  replace HT_v := Lib.hid (HT_v.out.mv hb)
  replace HR_l := Lib.hid (HR_l.out.mv hb)
  replace HB := Lib.hid (below_mv HB.out hb)
  clear hb
  have HR_m := Lib.hid (show RdP _ _ A_m (Nw.newsL u v) from hr); have HN_m := Lib.hid (show List.length (Nw.newsL u v) = n_m from hn); have HQ_m : Hid (n_m ≤ 17000) := Lib.hid (by have h1 := Nw.news_len H60_u.out H60_v.out HK40_u.out HK40_v.out; have h2 := HN_m.out; omega)
  have HL_m := Lib.hid (Nw.news_lt HM_u.out HM_v.out H60_u.out H60_v.out)
  clear hr hn hc
  go_wp2_with (at_builtin; first
    | (refine wpList_ownPL rfl (.const (.slice none 0 0)) (.tmp 68) rfl w9.heap.size w9.heap.size n_l c_l (.slice none 0 0) A_l [] (Nw.newsL t u) rfl rfl (ownP_nil _ _) HR_l.out (Nat.le_refl _) HN_l.out (by have := HQ_l.out; simp; omega) (Nat.le_refl _) ?_; intro va wa ho hg; have hb2 : Below w9.heap.size w9 wa := (Below.refl _ _).grown hg (Nat.le_refl _) (fun k e => by cases e); have HO_lm := Lib.hid (show OwnP wa w9.heap.size va (Nw.newsL t u) from ho); have HB_lm := Lib.hid hb2; clear ho hg hb2)
    | (refine wpList_ownPL rfl (.tmp 69) (.tmp 70) rfl w9.heap.size w9.heap.size n_m c_m va A_m (Nw.newsL t u) (Nw.newsL u v) rfl rfl HO_lm.out (HR_m.out.below HB_lm.out) (Nat.le_refl _) HN_m.out (by have h1 := HQ_m.out; have h2 := HQ_l.out; have h3 := HN_l.out; omega) HB_lm.out.size ?_; intro vb w10 ho hg; have hb3 : Below w9.heap.size w9 w10 := HB_lm.out.grown hg HB_lm.out.size (fun k e => ownP_ge HO_lm.out k e); have HP_lm := Lib.hid ho; have HD_lm := Lib.hid hb3; clear ho hg hb3 HO_lm HB_lm; obtain ⟨A_lm, c_lm, hv, hc, hr, _⟩ := rdP_own HP_lm.out; have HR_lm := Lib.hid hr; obtain ⟨n_lm, hn⟩ : ∃ n, List.length ((Nw.newsL t u) ++ (Nw.newsL u v)) = n := ⟨_, rfl⟩; rw [hn] at hv; subst hv; have HN_lm := Lib.hid hn; clear hc hr HP_lm hn))
  have hb := HD_lm.out
  clear HD_lm
  replace HT_t := Lib.hid (HT_t.out.mv hb)
  replace HT_u := Lib.hid (HT_u.out.mv hb)
  replace HT_v := Lib.hid (HT_v.out.mv hb)
  replace HR_l := Lib.hid (HR_l.out.mv hb)
  replace HR_m := Lib.hid (HR_m.out.mv hb)
  replace HB := Lib.hid (below_mv HB.out hb)
  clear hb
  have HL_lm := Lib.hid (Lt.app HL_l.out HL_m.out); have HQ_lm : Hid (n_lm ≤ 34000) := Lib.hid (by have h1 := HN_lm.out; rw [List.length_append, HN_l.out, HN_m.out] at h1; have h2 := HQ_l.out; have h3 := HQ_m.out; omega)
  refine (ApplyLW 40 100 A_t n_t c_t A_lm n_lm c_lm t ((Nw.newsL t u) ++ (Nw.newsL u v)) w10 _ HS_t.out ⟨HK40_t.out, H60_t.out⟩ (by have := HQ_lm.out; omega) (by have := HQ_lm.out; omega) HN_t.out HN_lm.out HL_lm.out HT_t.out HR_lm.out (Nw.news_two HM_t.out HM_u.out HM_v.out H60_t.out H60_u.out H60_v.out)).mono ?_
  rintro e w11 ⟨A_z, n_z, c_z, rfl, hc, hn, hr, hb⟩
  replace HT_t := Lib.hid (HT_t.out.mv hb)
  replace HT_u := Lib.hid (HT_u.out.mv hb)
  replace HT_v := Lib.hid (HT_v.out.mv hb)
  replace HR_l := Lib.hid (HR_l.out.mv hb)
  replace HR_m := Lib.hid (HR_m.out.mv hb)
  replace HR_lm := Lib.hid (HR_lm.out.mv hb)
  replace HB := Lib.hid (below_mv HB.out hb)
  clear hb
  have HT_z := Lib.hid (show RdT _ _ A_z v from hr); have HN_z := Lib.hid (show List.length v = n_z from hn); clear hr hc hn
  go_wp2_with fail
  refine (SameC (b := true) HN_z.out HN_v.out HS_v.out HT_z.out HT_v.out (decide_eq_true rfl)).mono ?_
  rintro e w12 ⟨rfl, hb⟩
  replace HT_t := Lib.hid (HT_t.out.mv hb)
  replace HT_u := Lib.hid (HT_u.out.mv hb)
  replace HT_v := Lib.hid (HT_v.out.mv hb)
  replace HT_z := Lib.hid (HT_z.out.mv hb)
  replace HR_l := Lib.hid (HR_l.out.mv hb)
  replace HR_m := Lib.hid (HR_m.out.mv hb)
  replace HR_lm := Lib.hid (HR_lm.out.mv hb)
  replace HB := Lib.hid (below_mv HB.out hb)
  clear hb
  go_wp2
  go_ret
  exact ⟨rfl, HB.out⟩

end NwL
open NwL
open Tx
open Go.ChangeShapes Go.WideShapes Go.ChangeAt

theorem newsTwo_own : ownKnob Tryz.prog.godebug = none := by kernel_rfl
theorem newsTwo_laidOut : laidOutB Tryz.prog = true := by kernel_rfl

set_option maxRecDepth 100000 in
theorem newsTwo_lifted (os : Os) (started : os.Started) (H : Type) (enc : TypeId × Value → H) :
    ReturnsInHanded {} Tryz.checked os 4 .any (Rows.newsTwoSpec.pre6 enc Tryz.prog Tryz.f4 Rows.newsTwoRow.domain false) (Rows.newsTwoSpec.post enc Tryz.prog Tryz.f4 false true false false) := by
  refine returnsInHanded_of_change (C := Tryz.checked) newsTwo_own started (by kernel_rfl) Tryz.func4
    (ChangeSpec.witness6 (enc := enc) (C := Tryz.checked) false ⟨#[], #[.slice none 0 0, .slice none 0 0, .slice none 0 0], []⟩ 8 (by kernel_rfl) (by kernel_rfl) (by kernel_rfl) (by kernel_rfl)) ?_
  intro W base args ds gs before hval0 hW hcnd _
  have hval : ∀ (j : Nat) t v, Tryz.f4.params[j]? = some t → args[j]? = some v → Value.okWide Tryz.prog W .any base t v := hval0
  have hW' := hW
  obtain ⟨p, q, hA0, hV, rfl, hfz, hnd⟩ := hW
  have hA : DataW.TrodAll enc Tryz.prog W 0 (fun _ => true) true Tryz.f4.params.toList args.toList ds p := hA0
  rw [Tryz.params4] at hA hval
  obtain ⟨v0, vs0, d0, ds0, p0, q0, hargs, rfl, rfl, h0, r0⟩ := trodAll_cons hA
  obtain ⟨v1, vs1, d1, ds1, p1, q1, rfl, rfl, rfl, h1, r1⟩ := trodAll_cons r0
  obtain ⟨v2, vs2, d2, ds2, p2, q2, rfl, rfl, rfl, h2, r2⟩ := trodAll_cons r1
  obtain ⟨rfl, rfl, rfl⟩ := trodAll_nil r2
  obtain rfl : args = #[v0, v1, v2] := by cases args; simp_all
  obtain ⟨rfl, rfl⟩ := trodVars_none hV
  obtain ⟨a0, n0, c0, rfl⟩ := okWide_slice Tryz.underlying23 (hval 0 23 v0 rfl rfl)
  have k0 := h0
  have lt0 : ∀ x ∈ p0, x.block < W.heap.size := by obtain ⟨m, hm⟩ := k0; exact DataW.trod_lt m _ _ _ hm
  obtain ⟨l0, s0⟩ : ∃ l, TreeArg W a0 n0 c0 l := by
    obtain ⟨fuel, hf⟩ := h0
    exact tree_in hf (by simp [Value.cells])
  obtain ⟨a1, n1, c1, rfl⟩ := okWide_slice Tryz.underlying23 (hval 1 23 v1 rfl rfl)
  have k1 := h1
  have lt1 : ∀ x ∈ p1, x.block < W.heap.size := by obtain ⟨m, hm⟩ := k1; exact DataW.trod_lt m _ _ _ hm
  obtain ⟨l1, s1⟩ : ∃ l, TreeArg W a1 n1 c1 l := by
    obtain ⟨fuel, hf⟩ := h1
    exact tree_in hf (by simp [Value.cells])
  obtain ⟨a2, n2, c2, rfl⟩ := okWide_slice Tryz.underlying23 (hval 2 23 v2 rfl rfl)
  have k2 := h2
  have lt2 : ∀ x ∈ p2, x.block < W.heap.size := by obtain ⟨m, hm⟩ := k2; exact DataW.trod_lt m _ _ _ hm
  obtain ⟨l2, s2⟩ : ∃ l, TreeArg W a2 n2 c2 l := by
    obtain ⟨fuel, hf⟩ := h2
    exact tree_in hf (by simp [Value.cells])
  clear hA0 hval0
  refine (newsTwo_walk a0 n0 c0 l0 a1 n1 c1 l1 a2 n2 c2 l2 W s0 s1 s2).mono fun e W' ⟨he, bel⟩ => ?_
  subst he
  exact ⟨_, rfl, _, _, _, [], _, [], hW', trodAll_mk1 (shut_bool Tryz.underlying4 _), (trodAll_cons_mk (Below.trod newsTwo_laidOut (by kernel_rfl) (of_decide_eq_true (by kernel_rfl)) k0 bel lt0) (trodAll_cons_mk (Below.trod newsTwo_laidOut (by kernel_rfl) (of_decide_eq_true (by kernel_rfl)) k1 bel lt1) (trodAll_cons_mk (Below.trod newsTwo_laidOut (by kernel_rfl) (of_decide_eq_true (by kernel_rfl)) k2 bel lt2) trodAll_mk0))), rfl, bel.frame _, fun h => by cases h⟩

/-- The statement. -/
theorem newsTwo_proved : Rows.NewsTwoSaid :=
  OpenClaim.holds_of_wide 4 Tryz.f4 rfl rfl rfl rfl rfl rfl rfl ⟨rfl, rfl, rfl, rfl, rfl⟩ rfl rfl rfl rfl rfl (by kernel_rfl) Tryz.func4 (by kernel_rfl)
    (of_decide_eq_true (by kernel_rfl)) (by unfold Func.isWrapper; first | (rw [if_pos (by decide +kernel)]; kernel_rfl) | (rw [if_neg (by decide +kernel)]; exact ⟨rfl, rfl⟩))
    (fun os started H enc _ => newsTwo_lifted os started H enc)

#print axioms newsTwo_proved
end Go.Proofs.YtjhjmfodpnipiaaGreat
