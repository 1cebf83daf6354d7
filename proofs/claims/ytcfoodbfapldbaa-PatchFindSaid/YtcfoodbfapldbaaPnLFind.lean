/-
  The statement PatchFind: an Id is found where it stands first; all changes of two lists, one behind the other, are those of both.
-/
import Derived.Test.YtcfoodbfapldbaaPnAwake
import Derived.Test.YtcfoodbfapldbaaGQ
import Derived.OpenShut
import Derived.ShutString
import Derived.BigQuiet
set_option maxRecDepth 100000
namespace Go.Proofs.Ytcfoodbfapldbaa
open Go.RowKit
set_option linter.unusedVariables false
set_option linter.unusedSimpArgs false
open Tr Tx Hk Pr Fl Pn
namespace PnL
attribute [local go_sem] eq_id

set_option maxRecDepth 100000 in
set_option maxHeartbeats 8000000 in
theorem patchFind_walk (A_a : Option Addr) (n_a c_a : Nat) (a : List Nm) (A_b : Option Addr) (n_b c_b : Nat) (b : List Nm) (x : Id_) (w : World) (h_a : NmsArg w A_a n_a c_a a) (h_b : NmsArg w A_b n_b c_b b) :
    Calls Try.prog 7 #[.slice A_a n_a c_a, .slice A_b n_b c_b, .agg #[.int .i64 x.1, .int .i64 x.2]] w (LawEnd w) := by
  have b0 := (Blk.new w 23 #[.int .i64 x.1, .int .i64 x.2])
  have hb : Below w.heap.size w (w.alloc (.cells #[.int .i64 x.1, .int .i64 x.2] 23)) := ((Below.refl w.heap.size w).alloc (by simp; try omega) (.cells #[.int .i64 x.1, .int .i64 x.2] 23))
  have HR_a := Lib.hid h_a.rd; have HN_a := Lib.hid h_a.len; have HC_a := Lib.hid h_a.cap; have HM_a := Lib.hid h_a.le
  clear h_a
  have HR_b := Lib.hid h_b.rd; have HN_b := Lib.hid h_b.len; have HC_b := Lib.hid h_b.cap; have HM_b := Lib.hid h_b.le
  clear h_b
  replace HR_a := Lib.hid (RdN.mv HR_a.out hb); replace HR_b := Lib.hid (RdN.mv HR_b.out hb)
  go_enter Try.func7, Try.ntmps7
  go_upto_region 1 with fail
  generalize (w.alloc (.cells #[.int .i64 x.1, .int .i64 x.2] 23)) = w_1 at b0 HR_a HR_b hb ⊢
  obtain ⟨z, hz⟩ : ∃ z, w.heap.size = z := ⟨_, rfl⟩
  rw [hz] at b0 ⊢
  have BX := Lib.hid b0
  have HZ := Lib.hid hz
  clear b0 hz
  have HB := Lib.hid hb; clear hb
  go_wp2_with fail
  refine (Pn.awake w_1).mono ?_
  rintro e w_2 ⟨rfl, hb⟩
  replace HR_a := Lib.hid (RdN.mv HR_a.out hb)
  replace HR_b := Lib.hid (RdN.mv HR_b.out hb)
  replace BX := Lib.hid (BX.out.below hb BX.out.lt)
  replace HB := Lib.hid (below_mv HB.out hb)
  clear hb
  obtain ⟨bl_a, hbl⟩ : ∃ bb, fewN a 12 = bb := ⟨_, rfl⟩
  have HBL_a := Lib.hid hbl; clear hbl
  go_wp2_with fail
  refine (FewN A_a n_a c_a 12 a w_2 bl_a (by decide) ⟨HN_a.out, HC_a.out, HM_a.out, HR_a.out⟩ HBL_a.out).mono ?_
  rintro e w_3 ⟨rfl, hb⟩
  replace HR_a := Lib.hid (RdN.mv HR_a.out hb)
  replace HR_b := Lib.hid (RdN.mv HR_b.out hb)
  replace BX := Lib.hid (BX.out.below hb BX.out.lt)
  replace HB := Lib.hid (below_mv HB.out hb)
  clear hb
  obtain ⟨bl_b, hbl⟩ : ∃ bb, fewN b 12 = bb := ⟨_, rfl⟩
  have HBL_b := Lib.hid hbl; clear hbl
  go_wp2_with fail
  refine (FewN A_b n_b c_b 12 b w_3 bl_b (by decide) ⟨HN_b.out, HC_b.out, HM_b.out, HR_b.out⟩ HBL_b.out).mono ?_
  rintro e w_4 ⟨rfl, hb⟩
  replace HR_a := Lib.hid (RdN.mv HR_a.out hb)
  replace HR_b := Lib.hid (RdN.mv HR_b.out hb)
  replace BX := Lib.hid (BX.out.below hb BX.out.lt)
  replace HB := Lib.hid (below_mv HB.out hb)
  clear hb
  cases bl_a with
  | false =>
    go_wp2
    go_ret
    exact ⟨rfl, HB.out⟩
  | true =>
  have HQ_a : Hid (n_a ≤ 12) := Lib.hid (by have h1 := fewN_len HBL_a.out; rw [HN_a.out] at h1; exact h1)
  have HT_a : Hid ((allN a).length ≤ 120 ∧ Lt (allN a)) := Lib.hid (by
    obtain ⟨h1, h2⟩ := allN_few (fewN_all HBL_a.out)
    have h3 := fewN_len HBL_a.out
    exact ⟨by omega, h2⟩)
  cases bl_b with
  | false =>
    go_wp2
    go_ret
    exact ⟨rfl, HB.out⟩
  | true =>
  have HQ_b : Hid (n_b ≤ 12) := Lib.hid (by have h1 := fewN_len HBL_b.out; rw [HN_b.out] at h1; exact h1)
  have HT_b : Hid ((allN b).length ≤ 120 ∧ Lt (allN b)) := Lib.hid (by
    obtain ⟨h1, h2⟩ := allN_few (fewN_all HBL_b.out)
    have h3 := fewN_len HBL_b.out
    exact ⟨by omega, h2⟩)
  go_upto_region 7 with (at_builtin; first
    | (refine wpList_ownM rfl (.const (.slice none 0 0)) (.tmp 30) rfl w_4.heap.size w_4.heap.size n_a c_a (.slice none 0 0) A_a [] a rfl rfl (ownM_nil _ _ _) HR_a.out HN_a.out (by have := HQ_a.out; simp; omega) (Nat.le_refl _) (Nat.le_refl _) ?_; intro va wa ho hg; have hb2 : Below w_4.heap.size w_4 wa := (Below.refl _ _).grown hg (Nat.le_refl _) (fun k e => by cases e); have HO_j := Lib.hid (show OwnM wa w_4.heap.size w_4.heap.size va a from ho); have HB_j := Lib.hid hb2; clear ho hg hb2)
    | (refine wpList_ownM rfl (.tmp 31) (.tmp 32) rfl w_4.heap.size w_4.heap.size n_b c_b va A_b a b rfl rfl HO_j.out (HR_b.out.below HB_j.out) HN_b.out (by have h1 := HQ_b.out; have h2 := HQ_a.out; have h3 := HN_a.out; omega) (Nat.le_refl _) HB_j.out.size ?_; intro vb w_5 ho hg; have hb3 : Below w_4.heap.size w_4 w_5 := HB_j.out.grown hg HB_j.out.size (fun k e => ownM_ge HO_j.out k e); have HP_j := Lib.hid ho; have HD_j := Lib.hid hb3; clear ho hg hb3 HO_j HB_j; obtain ⟨A_j, c_j, hv, hc, hr⟩ := rdN_own HP_j.out HD_j.out.size; have HR_j := Lib.hid hr; obtain ⟨n_j, hn⟩ : ∃ n, List.length (a ++ b) = n := ⟨_, rfl⟩; rw [hn] at hv; subst hv; have HN_j := Lib.hid hn; clear hc hr HP_j hn))
  have hb := HD_j.out
  clear HD_j
  replace HR_a := Lib.hid (RdN.mv HR_a.out hb)
  replace HR_b := Lib.hid (RdN.mv HR_b.out hb)
  replace BX := Lib.hid (BX.out.below hb BX.out.lt)
  replace HB := Lib.hid (below_mv HB.out hb)
  clear hb
  have HQ_j : Hid (n_j ≤ 24) := Lib.hid (by have h1 := HN_j.out; rw [List.length_append, HN_a.out, HN_b.out] at h1; have h2 := HQ_a.out; have h3 := HQ_b.out; omega)
  have HT_j : Hid ((allN (a ++ b)).length ≤ 240 ∧ Lt (allN (a ++ b))) := Lib.hid (by
    rw [allN_app]
    refine ⟨by rw [List.length_append]; have h1 := HT_a.out.1; have h2 := HT_b.out.1; omega, fun y hy => ?_⟩
    rcases List.mem_append.1 hy with h | h
    · exact HT_a.out.2 y h
    · exact HT_b.out.2 y h)
  obtain ⟨f, hf⟩ : ∃ f, findN (a ++ b) x = f := ⟨_, rfl⟩
  obtain ⟨g, hg⟩ : ∃ g, findN a x = g := ⟨_, rfl⟩
  obtain ⟨h, hh⟩ : ∃ h, findN b x = h := ⟨_, rfl⟩
  have HF := Lib.hid hf; have HG := Lib.hid hg; have HH := Lib.hid hh; have HFF := Lib.hid (findN_first (a := a) (b := b) (id := x)); have HLE := Lib.hid (findN_le b x)
  rw [hf, hg, hh, HN_a.out] at HFF
  rw [hh, HN_b.out] at HLE
  clear hf hg hh
  have bx_0 := BX.out.cell 0 rfl
  have bx_1 := BX.out.cell 1 rfl
  go_wp2_with fail
  refine (FindN x A_j n_j c_j (a ++ b) w_5 HN_j.out (by have := HQ_j.out; omega) HR_j.out).mono ?_
  rintro e w_6 ⟨rfl, hb⟩
  replace HR_a := Lib.hid (RdN.mv HR_a.out hb)
  replace HR_b := Lib.hid (RdN.mv HR_b.out hb)
  replace BX := Lib.hid (BX.out.below hb BX.out.lt)
  replace HR_j := Lib.hid (RdN.mv HR_j.out hb)
  replace HB := Lib.hid (below_mv HB.out hb)
  clear hb
  rw [HF.out]
  clear bx_0 bx_1
  have bx_0 := BX.out.cell 0 rfl
  have bx_1 := BX.out.cell 1 rfl
  go_wp2_with fail
  refine (FindN x A_a n_a c_a a w_6 HN_a.out (by have := HQ_a.out; omega) HR_a.out).mono ?_
  rintro e w_7 ⟨rfl, hb⟩
  replace HR_a := Lib.hid (RdN.mv HR_a.out hb)
  replace HR_b := Lib.hid (RdN.mv HR_b.out hb)
  replace BX := Lib.hid (BX.out.below hb BX.out.lt)
  replace HR_j := Lib.hid (RdN.mv HR_j.out hb)
  replace HB := Lib.hid (below_mv HB.out hb)
  clear hb
  rw [HG.out]
  clear bx_0 bx_1
  have bx_0 := BX.out.cell 0 rfl
  have bx_1 := BX.out.cell 1 rfl
  go_wp2_with fail
  refine (FindN x A_b n_b c_b b w_7 HN_b.out (by have := HQ_b.out; omega) HR_b.out).mono ?_
  rintro e w_8 ⟨rfl, hb⟩
  replace HR_a := Lib.hid (RdN.mv HR_a.out hb)
  replace HR_b := Lib.hid (RdN.mv HR_b.out hb)
  replace BX := Lib.hid (BX.out.below hb BX.out.lt)
  replace HR_j := Lib.hid (RdN.mv HR_j.out hb)
  replace HB := Lib.hid (below_mv HB.out hb)
  clear hb
  rw [HH.out]
  clear bx_0 bx_1
  clear BX
  by_cases hg0 : 0 ≤ g
  case pos =>
    obtain rfl : f = g := by have h1 := HFF.out; rw [if_pos hg0] at h1; exact h1
    have e1 : decide (0 ≤ f) = true := decide_eq_true hg0; have e2 : decide (f < 0) = false := decide_eq_false (by omega)
    clear HFF
    go_wp2_with fail
    refine (AllN A_j n_j c_j (a ++ b) w_8 HN_j.out (by have := HQ_j.out; omega) (by have := HT_j.out.1; omega) HT_j.out.2 HR_j.out).mono ?_
    rintro e w_9 ⟨A_u, c_u, rfl, _, hx, hb⟩
    replace HR_a := Lib.hid (RdN.mv HR_a.out hb)
    replace HR_b := Lib.hid (RdN.mv HR_b.out hb)
    replace HR_j := Lib.hid (RdN.mv HR_j.out hb)
    replace HB := Lib.hid (below_mv HB.out hb)
    clear hb
    obtain ⟨n_u, hn⟩ : ∃ n, (allN (a ++ b)).length = n := ⟨_, rfl⟩
    rw [hn]
    have HN_u := Lib.hid hn; clear hn
    have HR_u := Lib.hid (hx.mono fun b hb => hb.2)
    clear hx
    go_wp2_with fail
    refine (AllN A_a n_a c_a a w_9 HN_a.out (by have := HQ_a.out; omega) (by have := HT_a.out.1; omega) HT_a.out.2 HR_a.out).mono ?_
    rintro e w_10 ⟨A_v, c_v, rfl, _, hx, hb⟩
    replace HR_a := Lib.hid (RdN.mv HR_a.out hb)
    replace HR_b := Lib.hid (RdN.mv HR_b.out hb)
    replace HR_j := Lib.hid (RdN.mv HR_j.out hb)
    replace HR_u := Lib.hid (RdP.mv HR_u.out hb)
    replace HB := Lib.hid (below_mv HB.out hb)
    clear hb
    obtain ⟨n_v, hn⟩ : ∃ n, (allN a).length = n := ⟨_, rfl⟩
    rw [hn]
    have HN_v := Lib.hid hn; clear hn
    have HR_v := Lib.hid (hx.mono fun b hb => hb.2)
    clear hx
    have HRU := HR_u; have HBU := HB; have HBC := Lib.hid (Below.refl w_10.heap.size w_10)
    go_wp2_with (at_builtin; refine wpList_ownPL rfl (.const (.slice none 0 0)) (.tmp 81) rfl w_10.heap.size w_10.heap.size n_v c_v (.slice none 0 0) A_v [] (allN a) rfl rfl (ownP_nil _ _) HR_v.out (Nat.le_refl _) HN_v.out (by have h1 := HT_a.out.1; have h2 := HN_v.out; simp; omega) (Nat.le_refl _) ?_; intro vk wk ho hg; have hb : Below w_10.heap.size w_10 wk := (Below.refl _ _).grown hg (Nat.le_refl _) (fun k e => by cases e); have HO_k := Lib.hid (show OwnP wk w_10.heap.size vk (allN a) from ho); clear ho hg)
    replace HR_a := Lib.hid (RdN.mv HR_a.out hb)
    replace HR_b := Lib.hid (RdN.mv HR_b.out hb)
    replace HR_j := Lib.hid (RdN.mv HR_j.out hb)
    replace HR_v := Lib.hid (RdP.mv HR_v.out hb)
    replace HBC := Lib.hid (below_mv HBC.out hb)
    replace HB := Lib.hid (below_mv HB.out hb)
    clear hb
    have HLT_k := Lib.hid (ownP_lt HO_k.out)
    refine (AllN A_b n_b c_b b wk HN_b.out (by have := HQ_b.out; omega) (by have := HT_b.out.1; omega) HT_b.out.2 HR_b.out).mono ?_
    rintro e w_11 ⟨A_y, c_y, rfl, _, hx, hb⟩
    have HH_y := Lib.hid hx; replace HO_k := Lib.hid (HO_k.out.below hb)
    replace HR_a := Lib.hid (RdN.mv HR_a.out hb)
    replace HR_b := Lib.hid (RdN.mv HR_b.out hb)
    replace HR_j := Lib.hid (RdN.mv HR_j.out hb)
    replace HR_v := Lib.hid (RdP.mv HR_v.out hb)
    replace HBC := Lib.hid (below_mv HBC.out hb)
    replace HB := Lib.hid (below_mv HB.out hb)
    clear hb
    obtain ⟨n_y, hn⟩ : ∃ n, (allN b).length = n := ⟨_, rfl⟩
    rw [hn]
    have HN_y := Lib.hid hn; clear hn hx
    go_wp2_with (at_builtin; refine wpList_ownPH rfl (.tmp 82) (.tmp 84) rfl w_10.heap.size wk.heap.size n_y c_y vk A_y (allN a) (allN b) rfl rfl HO_k.out HLT_k.out HH_y.out HN_y.out (by have h1 := HT_a.out.1; have h2 := HT_b.out.1; have h3 := HN_y.out; omega) HBC.out.size ?_; intro vj w_12 ho hg; have hb : Below w_10.heap.size w_10 w_12 := HBC.out.grown hg HBC.out.size (fun k e => ownP_ge HO_k.out k e); clear hg; obtain ⟨A_i, c_i, hv, hc, hr, _⟩ := rdP_own ho; obtain ⟨n_i, hn⟩ : ∃ n, List.length (allN a ++ allN b) = n := ⟨_, rfl⟩; rw [hn] at hv; subst hv; have HR_i := Lib.hid hr; have HN_i := Lib.hid hn; replace HRU := Lib.hid (HRU.out.mv hb); replace HBU := Lib.hid (below_mv HBU.out hb); clear hc hr ho hn hb)
    refine (SameL A_u n_u c_u A_i n_i c_i (allN (a ++ b)) (allN a ++ allN b) w_12 true HN_u.out HN_i.out (by have h1 := HT_j.out.1; have h2 := HN_u.out; omega) HRU.out HR_i.out (by rw [allN_app]; exact listP_self _)).mono ?_
    rintro e w_13 ⟨rfl, hb⟩
    replace HBU := Lib.hid (below_mv HBU.out hb)
    go_wp2
    go_ret
    exact ⟨rfl, HBU.out⟩
  have e1 : decide (0 ≤ g) = false := decide_eq_false hg0; have e2 : decide (g < 0) = true := decide_eq_true (by omega)
  by_cases hh0 : 0 ≤ h
  case pos =>
    have hf : f = (n_a : Int) + h := by have h1 := HFF.out; rw [if_neg hg0, if_pos hh0] at h1; exact h1
    subst hf
    have e3 : decide (0 ≤ h) = true := decide_eq_true hh0; have e4 : decide (h < 0) = false := decide_eq_false (by omega)
    have e5 : IntKind.i64.wrap ((n_a : Int) + h) = (n_a : Int) + h := IntWalk.i64_in _ (by have := HQ_a.out; have := HQ_b.out; have := HLE.out; omega)
    clear HFF
    go_wp2_with fail
    refine (AllN A_j n_j c_j (a ++ b) w_8 HN_j.out (by have := HQ_j.out; omega) (by have := HT_j.out.1; omega) HT_j.out.2 HR_j.out).mono ?_
    rintro e w_9 ⟨A_u, c_u, rfl, _, hx, hb⟩
    replace HR_a := Lib.hid (RdN.mv HR_a.out hb)
    replace HR_b := Lib.hid (RdN.mv HR_b.out hb)
    replace HR_j := Lib.hid (RdN.mv HR_j.out hb)
    replace HB := Lib.hid (below_mv HB.out hb)
    clear hb
    obtain ⟨n_u, hn⟩ : ∃ n, (allN (a ++ b)).length = n := ⟨_, rfl⟩
    rw [hn]
    have HN_u := Lib.hid hn; clear hn
    have HR_u := Lib.hid (hx.mono fun b hb => hb.2)
    clear hx
    go_wp2_with fail
    refine (AllN A_a n_a c_a a w_9 HN_a.out (by have := HQ_a.out; omega) (by have := HT_a.out.1; omega) HT_a.out.2 HR_a.out).mono ?_
    rintro e w_10 ⟨A_v, c_v, rfl, _, hx, hb⟩
    replace HR_a := Lib.hid (RdN.mv HR_a.out hb)
    replace HR_b := Lib.hid (RdN.mv HR_b.out hb)
    replace HR_j := Lib.hid (RdN.mv HR_j.out hb)
    replace HR_u := Lib.hid (RdP.mv HR_u.out hb)
    replace HB := Lib.hid (below_mv HB.out hb)
    clear hb
    obtain ⟨n_v, hn⟩ : ∃ n, (allN a).length = n := ⟨_, rfl⟩
    rw [hn]
    have HN_v := Lib.hid hn; clear hn
    have HR_v := Lib.hid (hx.mono fun b hb => hb.2)
    clear hx
    have HRU := HR_u; have HBU := HB; have HBC := Lib.hid (Below.refl w_10.heap.size w_10)
    go_wp2_with (at_builtin; refine wpList_ownPL rfl (.const (.slice none 0 0)) (.tmp 81) rfl w_10.heap.size w_10.heap.size n_v c_v (.slice none 0 0) A_v [] (allN a) rfl rfl (ownP_nil _ _) HR_v.out (Nat.le_refl _) HN_v.out (by have h1 := HT_a.out.1; have h2 := HN_v.out; simp; omega) (Nat.le_refl _) ?_; intro vk wk ho hg; have hb : Below w_10.heap.size w_10 wk := (Below.refl _ _).grown hg (Nat.le_refl _) (fun k e => by cases e); have HO_k := Lib.hid (show OwnP wk w_10.heap.size vk (allN a) from ho); clear ho hg)
    replace HR_a := Lib.hid (RdN.mv HR_a.out hb)
    replace HR_b := Lib.hid (RdN.mv HR_b.out hb)
    replace HR_j := Lib.hid (RdN.mv HR_j.out hb)
    replace HR_v := Lib.hid (RdP.mv HR_v.out hb)
    replace HBC := Lib.hid (below_mv HBC.out hb)
    replace HB := Lib.hid (below_mv HB.out hb)
    clear hb
    have HLT_k := Lib.hid (ownP_lt HO_k.out)
    refine (AllN A_b n_b c_b b wk HN_b.out (by have := HQ_b.out; omega) (by have := HT_b.out.1; omega) HT_b.out.2 HR_b.out).mono ?_
    rintro e w_11 ⟨A_y, c_y, rfl, _, hx, hb⟩
    have HH_y := Lib.hid hx; replace HO_k := Lib.hid (HO_k.out.below hb)
    replace HR_a := Lib.hid (RdN.mv HR_a.out hb)
    replace HR_b := Lib.hid (RdN.mv HR_b.out hb)
    replace HR_j := Lib.hid (RdN.mv HR_j.out hb)
    replace HR_v := Lib.hid (RdP.mv HR_v.out hb)
    replace HBC := Lib.hid (below_mv HBC.out hb)
    replace HB := Lib.hid (below_mv HB.out hb)
    clear hb
    obtain ⟨n_y, hn⟩ : ∃ n, (allN b).length = n := ⟨_, rfl⟩
    rw [hn]
    have HN_y := Lib.hid hn; clear hn hx
    go_wp2_with (at_builtin; refine wpList_ownPH rfl (.tmp 82) (.tmp 84) rfl w_10.heap.size wk.heap.size n_y c_y vk A_y (allN a) (allN b) rfl rfl HO_k.out HLT_k.out HH_y.out HN_y.out (by have h1 := HT_a.out.1; have h2 := HT_b.out.1; have h3 := HN_y.out; omega) HBC.out.size ?_; intro vj w_12 ho hg; have hb : Below w_10.heap.size w_10 w_12 := HBC.out.grown hg HBC.out.size (fun k e => ownP_ge HO_k.out k e); clear hg; obtain ⟨A_i, c_i, hv, hc, hr, _⟩ := rdP_own ho; obtain ⟨n_i, hn⟩ : ∃ n, List.length (allN a ++ allN b) = n := ⟨_, rfl⟩; rw [hn] at hv; subst hv; have HR_i := Lib.hid hr; have HN_i := Lib.hid hn; replace HRU := Lib.hid (HRU.out.mv hb); replace HBU := Lib.hid (below_mv HBU.out hb); clear hc hr ho hn hb)
    refine (SameL A_u n_u c_u A_i n_i c_i (allN (a ++ b)) (allN a ++ allN b) w_12 true HN_u.out HN_i.out (by have h1 := HT_j.out.1; have h2 := HN_u.out; omega) HRU.out HR_i.out (by rw [allN_app]; exact listP_self _)).mono ?_
    rintro e w_13 ⟨rfl, hb⟩
    replace HBU := Lib.hid (below_mv HBU.out hb)
    go_wp2
    go_ret
    exact ⟨rfl, HBU.out⟩
  case neg =>
    obtain rfl : f = -1 := by have h1 := HFF.out; rw [if_neg hg0, if_neg hh0] at h1; exact h1
    have e3 : decide (0 ≤ h) = false := decide_eq_false hh0; have e4 : decide (h < 0) = true := decide_eq_true (by omega)
    clear HFF
    go_wp2_with fail
    refine (AllN A_j n_j c_j (a ++ b) w_8 HN_j.out (by have := HQ_j.out; omega) (by have := HT_j.out.1; omega) HT_j.out.2 HR_j.out).mono ?_
    rintro e w_9 ⟨A_u, c_u, rfl, _, hx, hb⟩
    replace HR_a := Lib.hid (RdN.mv HR_a.out hb)
    replace HR_b := Lib.hid (RdN.mv HR_b.out hb)
    replace HR_j := Lib.hid (RdN.mv HR_j.out hb)
    replace HB := Lib.hid (below_mv HB.out hb)
    clear hb
    obtain ⟨n_u, hn⟩ : ∃ n, (allN (a ++ b)).length = n := ⟨_, rfl⟩
    rw [hn]
    have HN_u := Lib.hid hn; clear hn
    have HR_u := Lib.hid (hx.mono fun b hb => hb.2)
    clear hx
    go_wp2_with fail
    refine (AllN A_a n_a c_a a w_9 HN_a.out (by have := HQ_a.out; omega) (by have := HT_a.out.1; omega) HT_a.out.2 HR_a.out).mono ?_
    rintro e w_10 ⟨A_v, c_v, rfl, _, hx, hb⟩
    replace HR_a := Lib.hid (RdN.mv HR_a.out hb)
    replace HR_b := Lib.hid (RdN.mv HR_b.out hb)
    replace HR_j := Lib.hid (RdN.mv HR_j.out hb)
    replace HR_u := Lib.hid (RdP.mv HR_u.out hb)
    replace HB := Lib.hid (below_mv HB.out hb)
    clear hb
    obtain ⟨n_v, hn⟩ : ∃ n, (allN a).length = n := ⟨_, rfl⟩
    rw [hn]
    have HN_v := Lib.hid hn; clear hn
    have HR_v := Lib.hid (hx.mono fun b hb => hb.2)
    clear hx
    have HRU := HR_u; have HBU := HB; have HBC := Lib.hid (Below.refl w_10.heap.size w_10)
    go_wp2_with (at_builtin; refine wpList_ownPL rfl (.const (.slice none 0 0)) (.tmp 81) rfl w_10.heap.size w_10.heap.size n_v c_v (.slice none 0 0) A_v [] (allN a) rfl rfl (ownP_nil _ _) HR_v.out (Nat.le_refl _) HN_v.out (by have h1 := HT_a.out.1; have h2 := HN_v.out; simp; omega) (Nat.le_refl _) ?_; intro vk wk ho hg; have hb : Below w_10.heap.size w_10 wk := (Below.refl _ _).grown hg (Nat.le_refl _) (fun k e => by cases e); have HO_k := Lib.hid (show OwnP wk w_10.heap.size vk (allN a) from ho); clear ho hg)
    replace HR_a := Lib.hid (RdN.mv HR_a.out hb)
    replace HR_b := Lib.hid (RdN.mv HR_b.out hb)
    replace HR_j := Lib.hid (RdN.mv HR_j.out hb)
    replace HR_v := Lib.hid (RdP.mv HR_v.out hb)
    replace HBC := Lib.hid (below_mv HBC.out hb)
    replace HB := Lib.hid (below_mv HB.out hb)
    clear hb
    have HLT_k := Lib.hid (ownP_lt HO_k.out)
    refine (AllN A_b n_b c_b b wk HN_b.out (by have := HQ_b.out; omega) (by have := HT_b.out.1; omega) HT_b.out.2 HR_b.out).mono ?_
    rintro e w_11 ⟨A_y, c_y, rfl, _, hx, hb⟩
    have HH_y := Lib.hid hx; replace HO_k := Lib.hid (HO_k.out.below hb)
    replace HR_a := Lib.hid (RdN.mv HR_a.out hb)
    replace HR_b := Lib.hid (RdN.mv HR_b.out hb)
    replace HR_j := Lib.hid (RdN.mv HR_j.out hb)
    replace HR_v := Lib.hid (RdP.mv HR_v.out hb)
    replace HBC := Lib.hid (below_mv HBC.out hb)
    replace HB := Lib.hid (below_mv HB.out hb)
    clear hb
    obtain ⟨n_y, hn⟩ : ∃ n, (allN b).length = n := ⟨_, rfl⟩
    rw [hn]
    have HN_y := Lib.hid hn; clear hn hx
    go_wp2_with (at_builtin; refine wpList_ownPH rfl (.tmp 82) (.tmp 84) rfl w_10.heap.size wk.heap.size n_y c_y vk A_y (allN a) (allN b) rfl rfl HO_k.out HLT_k.out HH_y.out HN_y.out (by have h1 := HT_a.out.1; have h2 := HT_b.out.1; have h3 := HN_y.out; omega) HBC.out.size ?_; intro vj w_12 ho hg; have hb : Below w_10.heap.size w_10 w_12 := HBC.out.grown hg HBC.out.size (fun k e => ownP_ge HO_k.out k e); clear hg; obtain ⟨A_i, c_i, hv, hc, hr, _⟩ := rdP_own ho; obtain ⟨n_i, hn⟩ : ∃ n, List.length (allN a ++ allN b) = n := ⟨_, rfl⟩; rw [hn] at hv; subst hv; have HR_i := Lib.hid hr; have HN_i := Lib.hid hn; replace HRU := Lib.hid (HRU.out.mv hb); replace HBU := Lib.hid (below_mv HBU.out hb); clear hc hr ho hn hb)
    refine (SameL A_u n_u c_u A_i n_i c_i (allN (a ++ b)) (allN a ++ allN b) w_12 true HN_u.out HN_i.out (by have h1 := HT_j.out.1; have h2 := HN_u.out; omega) HRU.out HR_i.out (by rw [allN_app]; exact listP_self _)).mono ?_
    rintro e w_13 ⟨rfl, hb⟩
    replace HBU := Lib.hid (below_mv HBU.out hb)
    go_wp2
    go_ret
    exact ⟨rfl, HBU.out⟩

end PnL
open PnL
open Tx
open Go.ChangeShapes Go.WideShapes Go.ChangeAt

theorem patchFind_own : ownKnob Try.prog.godebug = none := by kernel_rfl
theorem patchFind_laidOut : laidOutB Try.prog = true := by kernel_rfl

set_option maxRecDepth 100000 in
theorem patchFind_lifted (os : Os) (started : os.Started) (H : Type) (enc : TypeId × Value → H) :
    ReturnsInHanded {} Try.checked os 7 .any (Rows.patchFindSpec.pre6 enc Try.prog Try.f7 Rows.patchFindRow.domain false) (Rows.patchFindSpec.post enc Try.prog Try.f7 false true false false) := by
  refine returnsInHanded_of_change (C := Try.checked) patchFind_own started (by kernel_rfl) Try.func7
    (ChangeSpec.witness6 (enc := enc) (C := Try.checked) false ⟨#[], #[.slice none 0 0, .slice none 0 0, .agg #[.int .i64 0, .int .i64 0]], []⟩ 8 (by kernel_rfl) (by kernel_rfl) (by kernel_rfl) (by kernel_rfl)) ?_
  intro W base args ds gs before hval0 hW hcnd _
  have hval : ∀ (j : Nat) t v, Try.f7.params[j]? = some t → args[j]? = some v → Value.okWide Try.prog W .any base t v := hval0
  have hW' := hW
  obtain ⟨p, q, hA0, hV, rfl, hfz, hnd⟩ := hW
  have hA : DataW.TrodAll enc Try.prog W 0 (fun _ => true) true Try.f7.params.toList args.toList ds p := hA0
  rw [Try.params7] at hA hval
  obtain ⟨v0, vs0, d0, ds0, p0, q0, hargs, rfl, rfl, h0, r0⟩ := trodAll_cons hA
  obtain ⟨v1, vs1, d1, ds1, p1, q1, rfl, rfl, rfl, h1, r1⟩ := trodAll_cons r0
  obtain ⟨v2, vs2, d2, ds2, p2, q2, rfl, rfl, rfl, h2, r2⟩ := trodAll_cons r1
  obtain ⟨rfl, rfl, rfl⟩ := trodAll_nil r2
  obtain rfl : args = #[v0, v1, v2] := by cases args; simp_all
  obtain ⟨rfl, rfl⟩ := trodVars_none hV
  obtain ⟨a0, n0, c0, rfl⟩ := okWide_slice Try.underlying35 (hval 0 35 v0 rfl rfl)
  have k0 := h0
  have lt0 : ∀ x ∈ p0, x.block < W.heap.size := by obtain ⟨m, hm⟩ := k0; exact DataW.trod_lt m _ _ _ hm
  obtain ⟨l0, s0⟩ : ∃ l, NmsArg W a0 n0 c0 l := by
    obtain ⟨fuel, hf⟩ := h0
    exact nms_in hf (by simp [Value.cells])
  obtain ⟨a1, n1, c1, rfl⟩ := okWide_slice Try.underlying35 (hval 1 35 v1 rfl rfl)
  have k1 := h1
  have lt1 : ∀ x ∈ p1, x.block < W.heap.size := by obtain ⟨m, hm⟩ := k1; exact DataW.trod_lt m _ _ _ hm
  obtain ⟨l1, s1⟩ : ∃ l, NmsArg W a1 n1 c1 l := by
    obtain ⟨fuel, hf⟩ := h1
    exact nms_in hf (by simp [Value.cells])
  have k2 := h2
  have lt2 : ∀ x ∈ p2, x.block < W.heap.size := by obtain ⟨m, hm⟩ := k2; exact DataW.trod_lt m _ _ _ hm
  obtain ⟨i2, rfl⟩ := id_in (hval 2 23 v2 rfl rfl) h2
  clear hA0 hval0
  refine (patchFind_walk a0 n0 c0 l0 a1 n1 c1 l1 i2 W s0 s1).mono fun e W' ⟨he, bel⟩ => ?_
  subst he
  exact ⟨_, rfl, _, _, _, [], _, [], hW', trodAll_mk1 (shut_bool Try.underlying4 _), (trodAll_cons_mk (Below.trod patchFind_laidOut (by kernel_rfl) (of_decide_eq_true (by kernel_rfl)) k0 bel lt0) (trodAll_cons_mk (Below.trod patchFind_laidOut (by kernel_rfl) (of_decide_eq_true (by kernel_rfl)) k1 bel lt1) (trodAll_cons_mk (Below.trod patchFind_laidOut (by kernel_rfl) (of_decide_eq_true (by kernel_rfl)) k2 bel lt2) trodAll_mk0))), rfl, bel.frame _, fun h => by cases h⟩

/-- The statement. -/
theorem patchFind_proved : Rows.PatchFindSaid :=
  OpenClaim.holds_of_wide 7 Try.f7 rfl rfl rfl rfl rfl rfl rfl ⟨rfl, rfl, rfl, rfl, rfl⟩ rfl rfl rfl rfl rfl (by kernel_rfl) Try.func7 (by kernel_rfl)
    (of_decide_eq_true (by kernel_rfl)) (by unfold Func.isWrapper; first | (rw [if_pos (by decide +kernel)]; kernel_rfl) | (rw [if_neg (by decide +kernel)]; exact ⟨rfl, rfl⟩))
    (fun os started H enc _ => patchFind_lifted os started H enc)

#print axioms patchFind_proved
end Go.Proofs.Ytcfoodbfapldbaa
