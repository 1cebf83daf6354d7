/-
  The statement TradeSame: where both change a tree, one behind the other, those that are told do so, in their order, to the same.
-/
import Derived.Test.YtbiiabfhngdeiaaTgLaw
import Derived.Test.YtbiiabfhngdeiaaFlLaw
import Derived.OpenShut
import Derived.ShutString
import Derived.BigQuiet
set_option maxRecDepth 100000
namespace Go.Proofs.Ytbiiabfhngdeiaa
open Go.RowKit
set_option linter.unusedVariables false
set_option linter.unusedSimpArgs false
open Tr Tx Hk Pr Fl Pn Tg
namespace TgL
attribute [local go_sem] eq_id

set_option maxRecDepth 100000 in
set_option maxHeartbeats 8000000 in
theorem tradeSame_walk (A_t : Option Addr) (n_t c_t : Nat) (t : TR) (D_p : Option Addr) (d_p e_p : Nat) (A_p : Option Addr) (n_p c_p : Nat) (p : Nm) (D_q : Option Addr) (d_q e_q : Nat) (A_q : Option Addr) (n_q c_q : Nat) (q : Nm) (w : World) (h_t : TreeArg w A_t n_t c_t t) (h_p : NV w w.heap.size D_p d_p e_p A_p n_p c_p p) (h_q : NV w w.heap.size D_q d_q e_q A_q n_q c_q q) :
    Calls Try.prog 4 #[.slice A_t n_t c_t, nmV p.id D_p d_p e_p p.txt A_p n_p c_p, nmV q.id D_q d_q e_q q.txt A_q n_q c_q] w (LawEnd w) := by
  have b0 := ((Blk.new w 28 #[.int .i64 p.id.1, .int .i64 p.id.2, .slice D_p d_p e_p, strV p.txt, .slice A_p n_p c_p]).alloc (.cells #[.int .i64 q.id.1, .int .i64 q.id.2, .slice D_q d_q e_q, strV q.txt, .slice A_q n_q c_q] 28))
  have b1 := (Blk.new (w.alloc (.cells #[.int .i64 p.id.1, .int .i64 p.id.2, .slice D_p d_p e_p, strV p.txt, .slice A_p n_p c_p] 28)) 28 #[.int .i64 q.id.1, .int .i64 q.id.2, .slice D_q d_q e_q, strV q.txt, .slice A_q n_q c_q])
  have hb : Below w.heap.size w ((w.alloc (.cells #[.int .i64 p.id.1, .int .i64 p.id.2, .slice D_p d_p e_p, strV p.txt, .slice A_p n_p c_p] 28)).alloc (.cells #[.int .i64 q.id.1, .int .i64 q.id.2, .slice D_q d_q e_q, strV q.txt, .slice A_q n_q c_q] 28)) := (((Below.refl w.heap.size w).alloc (by simp; try omega) (.cells #[.int .i64 p.id.1, .int .i64 p.id.2, .slice D_p d_p e_p, strV p.txt, .slice A_p n_p c_p] 28)).alloc (by simp; try omega) (.cells #[.int .i64 q.id.1, .int .i64 q.id.2, .slice D_q d_q e_q, strV q.txt, .slice A_q n_q c_q] 28))
  simp only [World.size_alloc] at b1
  have HV_p := Lib.hid (h_p.mv hb); have HV_q := Lib.hid (h_q.mv hb)
  clear h_p h_q
  have HT_t := Lib.hid h_t.rd; have HN_t := Lib.hid h_t.len; have HF_t := Lib.hid h_t.fit; have HC_t := Lib.hid h_t.le; have HK_t := Lib.hid h_t.cap
  clear h_t
  replace HT_t := Lib.hid (HT_t.out.mv hb)
  go_enter Try.func4, Try.ntmps4
  go_upto_region 1 with fail
  generalize ((w.alloc (.cells #[.int .i64 p.id.1, .int .i64 p.id.2, .slice D_p d_p e_p, strV p.txt, .slice A_p n_p c_p] 28)).alloc (.cells #[.int .i64 q.id.1, .int .i64 q.id.2, .slice D_q d_q e_q, strV q.txt, .slice A_q n_q c_q] 28)) = w_1 at b0 b1 HV_p HV_q HT_t hb ⊢
  obtain ⟨z, hz⟩ : ∃ z, w.heap.size = z := ⟨_, rfl⟩
  rw [hz] at b0 b1 ⊢
  have BP := Lib.hid b0
  have BQ := Lib.hid b1
  have HZ := Lib.hid hz
  clear b0 b1 hz
  have HB := Lib.hid hb; clear hb
  go_wp2_with fail
  refine (Tg.awake w_1).mono ?_
  rintro e w_2 ⟨rfl, hb⟩
  replace HT_t := Lib.hid (HT_t.out.mv hb)
  replace BP := Lib.hid (BP.out.below hb BP.out.lt)
  replace BQ := Lib.hid (BQ.out.below hb BQ.out.lt)
  replace HV_p := Lib.hid (HV_p.out.mv hb)
  replace HV_q := Lib.hid (HV_q.out.mv hb)
  replace HB := Lib.hid (below_mv HB.out hb)
  clear hb
  go_wp2_with fail
  refine (LightT A_t c_t n_t _ t _ HN_t.out HC_t.out HF_t.out HT_t.out).mono ?_
  rintro e w' ⟨rfl, rfl⟩
  obtain ⟨bt_t, hbl⟩ : ∃ bb, lightT t = bb := ⟨_, rfl⟩
  rw [hbl]
  have HBL_t := Lib.hid hbl; clear hbl
  have bp_0 := BP.out.cell 0 rfl
  have bp_1 := BP.out.cell 1 rfl
  have bp_2 := BP.out.cell 2 rfl
  have bp_3 := BP.out.cell 3 rfl
  have bp_4 := BP.out.cell 4 rfl
  have bq_0 := BQ.out.cell 0 rfl
  have bq_1 := BQ.out.cell 1 rfl
  have bq_2 := BQ.out.cell 2 rfl
  have bq_3 := BQ.out.cell 3 rfl
  have bq_4 := BQ.out.cell 4 rfl
  have bp_l := BP.out.lt; have bq_l := BQ.out.lt
  go_wp2_with fail
  clear bp_0 bp_1 bp_2 bp_3 bp_4 bq_0 bq_1 bq_2 bq_3 bq_4 bp_l bq_l
  have b0 := Blk.new w_2 28 #[.int .i64 p.id.1, .int .i64 p.id.2, .slice D_p d_p e_p, strV p.txt, .slice A_p n_p c_p, .int .i64 q.id.1, .int .i64 q.id.2, .slice D_q d_q e_q, strV q.txt, .slice A_q n_q c_q]
  have hb : Below w_2.heap.size w_2 (w_2.alloc (.cells #[.int .i64 p.id.1, .int .i64 p.id.2, .slice D_p d_p e_p, strV p.txt, .slice A_p n_p c_p, .int .i64 q.id.1, .int .i64 q.id.2, .slice D_q d_q e_q, strV q.txt, .slice A_q n_q c_q] 28)) := (Below.refl _ _).alloc (Nat.le_refl _) _
  generalize (w_2.alloc (.cells #[.int .i64 p.id.1, .int .i64 p.id.2, .slice D_p d_p e_p, strV p.txt, .slice A_p n_p c_p, .int .i64 q.id.1, .int .i64 q.id.2, .slice D_q d_q e_q, strV q.txt, .slice A_q n_q c_q] 28)) = w_3 at b0 hb ⊢
  obtain ⟨z_w_3, hz⟩ : ∃ z, w_2.heap.size = z := ⟨_, rfl⟩
  rw [hz] at b0 ⊢
  clear hz
  replace HT_t := Lib.hid (HT_t.out.mv hb)
  replace BP := Lib.hid (BP.out.below hb BP.out.lt)
  replace BQ := Lib.hid (BQ.out.below hb BQ.out.lt)
  replace HV_p := Lib.hid (HV_p.out.mv hb)
  replace HV_q := Lib.hid (HV_q.out.mv hb)
  replace HB := Lib.hid (below_mv HB.out hb)
  clear hb
  have B_2 := Lib.hid b0
  clear b0
  obtain ⟨bl, hbl⟩ : ∃ bb, fewN [p, q] 2 = bb := ⟨_, rfl⟩
  have HBL := Lib.hid hbl; clear hbl
  refine (FewN (some ⟨z_w_3, 0, none⟩) 2 2 2 [p, q] w_3 bl (by decide) ⟨rfl, Nat.le_refl _, by unfold maxLen; decide, rdN_two B_2.out HV_p.out HV_q.out B_2.out.lt⟩ HBL.out).mono ?_
  rintro e w_4 ⟨rfl, hb⟩
  replace HT_t := Lib.hid (HT_t.out.mv hb)
  replace BP := Lib.hid (BP.out.below hb BP.out.lt)
  replace BQ := Lib.hid (BQ.out.below hb BQ.out.lt)
  replace HV_p := Lib.hid (HV_p.out.mv hb)
  replace HV_q := Lib.hid (HV_q.out.mv hb)
  replace B_2 := Lib.hid (B_2.out.below hb B_2.out.lt)
  replace HB := Lib.hid (below_mv HB.out hb)
  clear hb
  clear B_2
  cases bt_t with
  | false =>
    go_wp2
    go_ret
    exact ⟨rfl, HB.out⟩
  | true =>
  have HS_t := Lib.hid (lightT_small HBL_t.out).2; have HM40_t := Lib.hid (most_light HBL_t.out); clear HF_t HC_t
  cases bl with
  | false =>
    go_wp2
    go_ret
    exact ⟨rfl, HB.out⟩
  | true =>
  have HL_p := Lib.hid ((few_two HBL.out).1)
  have HN_p : Hid (n_p ≤ 10 ∧ d_p ≤ 100) := Lib.hid (by
    have h1 := HL_p.out.2
    rw [HV_p.out.l, HV_p.out.dl] at h1
    exact h1)
  have HL_q := Lib.hid ((few_two HBL.out).2)
  have HN_q : Hid (n_q ≤ 10 ∧ d_q ≤ 100) := Lib.hid (by
    have h1 := HL_q.out.2
    rw [HV_q.out.l, HV_q.out.dl] at h1
    exact h1)
  obtain ⟨m, hm⟩ : ∃ b, mayT t = b := ⟨_, rfl⟩
  have HM := Lib.hid hm; clear hm
  go_wp2_with fail
  refine (MayC (b := m) HN_t.out HS_t.out HT_t.out HM.out).mono ?_
  rintro e w_5 ⟨rfl, hb⟩
  replace HT_t := Lib.hid (HT_t.out.mv hb)
  replace BP := Lib.hid (BP.out.below hb BP.out.lt)
  replace BQ := Lib.hid (BQ.out.below hb BQ.out.lt)
  replace HV_p := Lib.hid (HV_p.out.mv hb)
  replace HV_q := Lib.hid (HV_q.out.mv hb)
  replace HB := Lib.hid (below_mv HB.out hb)
  clear hb
  cases m with
  | false =>
    go_wp2
    go_ret
    exact ⟨rfl, HB.out⟩
  | true =>
  obtain ⟨x, y, ho⟩ : ∃ x y, outN (passN p q) = (x, y) := ⟨_, _, rfl⟩
  obtain ⟨bo, hbo⟩ : ∃ b, (passN p q).isSome = b := ⟨_, rfl⟩
  have HO := Lib.hid ho; have HBO := Lib.hid hbo; clear ho hbo
  have bp_0 := BP.out.cell 0 rfl
  have bp_1 := BP.out.cell 1 rfl
  have bp_2 := BP.out.cell 2 rfl
  have bp_3 := BP.out.cell 3 rfl
  have bp_4 := BP.out.cell 4 rfl
  have bq_0 := BQ.out.cell 0 rfl
  have bq_1 := BQ.out.cell 1 rfl
  have bq_2 := BQ.out.cell 2 rfl
  have bq_3 := BQ.out.cell 3 rfl
  have bq_4 := BQ.out.cell 4 rfl
  go_wp2_with fail
  refine (PassN D_p d_p e_p A_p n_p c_p D_q d_q e_q A_q n_q c_q p q x y w_5 bo (by have := HN_p.out; omega) (by have := HN_q.out; omega) (by have := HN_p.out; omega) (by have := HN_q.out; omega) HL_p.out.1 HL_q.out.1 HV_p.out HV_q.out HO.out HBO.out).mono ?_
  clear bp_0 bp_1 bp_2 bp_3 bp_4 bq_0 bq_1 bq_2 bq_3 bq_4
  rintro e w_6 ⟨D_x, d_x, e_x, A_x, n_x, c_x, D_y, d_y, e_y, A_y, n_y, c_y, rfl, h1, h2, hb⟩
  have HV_x := Lib.hid (h1.mono since_lt).nv; have HV_y := Lib.hid (h2.mono since_lt).nv
  clear h1 h2
  replace HT_t := Lib.hid (HT_t.out.mv hb)
  replace BP := Lib.hid (BP.out.below hb BP.out.lt)
  replace BQ := Lib.hid (BQ.out.below hb BQ.out.lt)
  replace HV_p := Lib.hid (HV_p.out.mv hb)
  replace HV_q := Lib.hid (HV_q.out.mv hb)
  replace HB := Lib.hid (below_mv HB.out hb)
  clear hb
  have HFX := Lib.hid (out_few HO.out HBO.out HL_p.out HL_q.out)
  have HL_x := Lib.hid (HFX.out.1)
  have HN_x : Hid (n_x ≤ 10 ∧ d_x ≤ 100) := Lib.hid (by
    have h1 := HL_x.out.2
    rw [HV_x.out.l, HV_x.out.dl] at h1
    exact h1)
  have HL_y := Lib.hid (HFX.out.2)
  have HN_y : Hid (n_y ≤ 10 ∧ d_y ≤ 100) := Lib.hid (by
    have h1 := HL_y.out.2
    rw [HV_y.out.l, HV_y.out.dl] at h1
    exact h1)
  go_upto_region 7 with fail
  have b0 := (Blk.new w_6 28 #[.int .i64 x.id.1, .int .i64 x.id.2, .slice D_x d_x e_x, strV x.txt, .slice A_x n_x c_x]).alloc (.cells #[.int .i64 y.id.1, .int .i64 y.id.2, .slice D_y d_y e_y, strV y.txt, .slice A_y n_y c_y] 28)
  have b1 := Blk.new (w_6.alloc (.cells #[.int .i64 x.id.1, .int .i64 x.id.2, .slice D_x d_x e_x, strV x.txt, .slice A_x n_x c_x] 28)) 28 #[.int .i64 y.id.1, .int .i64 y.id.2, .slice D_y d_y e_y, strV y.txt, .slice A_y n_y c_y]
  have hb := two_box w_6 (.cells #[.int .i64 x.id.1, .int .i64 x.id.2, .slice D_x d_x e_x, strV x.txt, .slice A_x n_x c_x] 28) (.cells #[.int .i64 y.id.1, .int .i64 y.id.2, .slice D_y d_y e_y, strV y.txt, .slice A_y n_y c_y] 28)
  simp only [World.size_alloc] at b1
  generalize ((w_6.alloc (.cells #[.int .i64 x.id.1, .int .i64 x.id.2, .slice D_x d_x e_x, strV x.txt, .slice A_x n_x c_x] 28)).alloc (.cells #[.int .i64 y.id.1, .int .i64 y.id.2, .slice D_y d_y e_y, strV y.txt, .slice A_y n_y c_y] 28)) = w_7 at b0 b1 hb ⊢
  obtain ⟨z_w_7, hz⟩ : ∃ z, w_6.heap.size = z := ⟨_, rfl⟩
  rw [hz] at b0 b1 ⊢
  clear hz
  replace HT_t := Lib.hid (HT_t.out.mv hb)
  replace BP := Lib.hid (BP.out.below hb BP.out.lt)
  replace BQ := Lib.hid (BQ.out.below hb BQ.out.lt)
  replace HV_p := Lib.hid (HV_p.out.mv hb)
  replace HV_q := Lib.hid (HV_q.out.mv hb)
  replace HV_x := Lib.hid (HV_x.out.mv hb)
  replace HV_y := Lib.hid (HV_y.out.mv hb)
  replace HB := Lib.hid (below_mv HB.out hb)
  clear hb
  have BX := Lib.hid b0
  have BY := Lib.hid b1
  clear b0 b1
  obtain ⟨⟨r, u⟩, hD⟩ : ∃ D, doN t [p, q] = D := ⟨_, rfl⟩
  have HD_u := Lib.hid hD; clear hD
  have bp_0 := BP.out.cell 0 rfl
  have bp_1 := BP.out.cell 1 rfl
  have bp_2 := BP.out.cell 2 rfl
  have bp_3 := BP.out.cell 3 rfl
  have bp_4 := BP.out.cell 4 rfl
  have bq_0 := BQ.out.cell 0 rfl
  have bq_1 := BQ.out.cell 1 rfl
  have bq_2 := BQ.out.cell 2 rfl
  have bq_3 := BQ.out.cell 3 rfl
  have bq_4 := BQ.out.cell 4 rfl
  have lb_1 := BP.out.lt; have lb_2 := BQ.out.lt
  go_wp2_with fail
  clear bp_0 bp_1 bp_2 bp_3 bp_4 bq_0 bq_1 bq_2 bq_3 bq_4 lb_1 lb_2
  have b0 := Blk.new w_7 28 #[.int .i64 p.id.1, .int .i64 p.id.2, .slice D_p d_p e_p, strV p.txt, .slice A_p n_p c_p, .int .i64 q.id.1, .int .i64 q.id.2, .slice D_q d_q e_q, strV q.txt, .slice A_q n_q c_q]
  have hb : Below w_7.heap.size w_7 (w_7.alloc (.cells #[.int .i64 p.id.1, .int .i64 p.id.2, .slice D_p d_p e_p, strV p.txt, .slice A_p n_p c_p, .int .i64 q.id.1, .int .i64 q.id.2, .slice D_q d_q e_q, strV q.txt, .slice A_q n_q c_q] 28)) := (Below.refl _ _).alloc (Nat.le_refl _) _
  generalize (w_7.alloc (.cells #[.int .i64 p.id.1, .int .i64 p.id.2, .slice D_p d_p e_p, strV p.txt, .slice A_p n_p c_p, .int .i64 q.id.1, .int .i64 q.id.2, .slice D_q d_q e_q, strV q.txt, .slice A_q n_q c_q] 28)) = w_8 at b0 hb ⊢
  obtain ⟨z_w_8, hz⟩ : ∃ z, w_7.heap.size = z := ⟨_, rfl⟩
  rw [hz] at b0 ⊢
  clear hz
  replace HT_t := Lib.hid (HT_t.out.mv hb)
  replace BP := Lib.hid (BP.out.below hb BP.out.lt)
  replace BQ := Lib.hid (BQ.out.below hb BQ.out.lt)
  replace HV_p := Lib.hid (HV_p.out.mv hb)
  replace HV_q := Lib.hid (HV_q.out.mv hb)
  replace HV_x := Lib.hid (HV_x.out.mv hb)
  replace HV_y := Lib.hid (HV_y.out.mv hb)
  replace BX := Lib.hid (BX.out.below hb BX.out.lt)
  replace BY := Lib.hid (BY.out.below hb BY.out.lt)
  replace HB := Lib.hid (below_mv HB.out hb)
  clear hb
  have B_2 := Lib.hid b0
  clear b0
  have HRN := Lib.hid (rdN_two B_2.out HV_p.out HV_q.out B_2.out.lt)
  refine (ApplyN 40 300 A_t n_t c_t (some ⟨z_w_8, 0, none⟩) 2 2 t [p, q] w_8 (r, u) HM40_t.out (by decide) (by decide) HN_t.out rfl (by decide) (two_all HL_p.out HL_q.out).1 (two_all HL_p.out HL_q.out).2 HT_t.out HRN.out HD_u.out).mono ?_
  rintro e w_9 ⟨A_u, n_u, c_u, rfl, hc, hn, hr, hb⟩
  replace HT_t := Lib.hid (HT_t.out.mv hb)
  replace BP := Lib.hid (BP.out.below hb BP.out.lt)
  replace BQ := Lib.hid (BQ.out.below hb BQ.out.lt)
  replace HV_p := Lib.hid (HV_p.out.mv hb)
  replace HV_q := Lib.hid (HV_q.out.mv hb)
  replace HV_x := Lib.hid (HV_x.out.mv hb)
  replace HV_y := Lib.hid (HV_y.out.mv hb)
  replace BX := Lib.hid (BX.out.below hb BX.out.lt)
  replace BY := Lib.hid (BY.out.below hb BY.out.lt)
  replace B_2 := Lib.hid (B_2.out.below hb B_2.out.lt)
  replace HB := Lib.hid (below_mv HB.out hb)
  clear hb
  have HT_u := Lib.hid hr; have HN_u := Lib.hid (show List.length _ = n_u from hn); clear hr hc hn
  clear HRN
  clear B_2
  have HS_u := Lib.hid (smallF (r := r) HM40_t.out (by have := (two_all HL_p.out HL_q.out).1; omega) (by have := (two_all HL_p.out HL_q.out).1; omega) (two_all HL_p.out HL_q.out).2 HD_u.out)
  cases bo with
  | false =>
    go_wp2
    go_ret
    exact ⟨rfl, HB.out⟩
  | true =>
  by_cases hr : r = 0
  case neg =>
    have e2 : (r != 0) = true := by rw [bne_iff_ne]; exact hr
    go_wp2
    go_ret
    exact ⟨rfl, HB.out⟩
  subst hr
  have HDV := Lib.hid (passN_does (mayT_up HM.out) (outN_some HO.out HBO.out) HD_u.out)
  obtain ⟨v, hv⟩ : ∃ v, u = v := ⟨_, rfl⟩
  have HUV := Lib.hid hv
  replace HDV := Lib.hid (show doN t [x, y] = (0, v) by rw [← hv]; exact HDV.out)
  clear hv
  have bx_0 := BX.out.cell 0 rfl
  have bx_1 := BX.out.cell 1 rfl
  have bx_2 := BX.out.cell 2 rfl
  have bx_3 := BX.out.cell 3 rfl
  have bx_4 := BX.out.cell 4 rfl
  have by_0 := BY.out.cell 0 rfl
  have by_1 := BY.out.cell 1 rfl
  have by_2 := BY.out.cell 2 rfl
  have by_3 := BY.out.cell 3 rfl
  have by_4 := BY.out.cell 4 rfl
  have lb_1 := BX.out.lt; have lb_2 := BY.out.lt
  go_wp2_with fail
  clear bx_0 bx_1 bx_2 bx_3 bx_4 by_0 by_1 by_2 by_3 by_4 lb_1 lb_2
  have b0 := Blk.new w_9 28 #[.int .i64 x.id.1, .int .i64 x.id.2, .slice D_x d_x e_x, strV x.txt, .slice A_x n_x c_x, .int .i64 y.id.1, .int .i64 y.id.2, .slice D_y d_y e_y, strV y.txt, .slice A_y n_y c_y]
  have hb : Below w_9.heap.size w_9 (w_9.alloc (.cells #[.int .i64 x.id.1, .int .i64 x.id.2, .slice D_x d_x e_x, strV x.txt, .slice A_x n_x c_x, .int .i64 y.id.1, .int .i64 y.id.2, .slice D_y d_y e_y, strV y.txt, .slice A_y n_y c_y] 28)) := (Below.refl _ _).alloc (Nat.le_refl _) _
  generalize (w_9.alloc (.cells #[.int .i64 x.id.1, .int .i64 x.id.2, .slice D_x d_x e_x, strV x.txt, .slice A_x n_x c_x, .int .i64 y.id.1, .int .i64 y.id.2, .slice D_y d_y e_y, strV y.txt, .slice A_y n_y c_y] 28)) = w_10 at b0 hb ⊢
  obtain ⟨z_w_10, hz⟩ : ∃ z, w_9.heap.size = z := ⟨_, rfl⟩
  rw [hz] at b0 ⊢
  clear hz
  replace HT_t := Lib.hid (HT_t.out.mv hb)
  replace BP := Lib.hid (BP.out.below hb BP.out.lt)
  replace BQ := Lib.hid (BQ.out.below hb BQ.out.lt)
  replace HV_p := Lib.hid (HV_p.out.mv hb)
  replace HV_q := Lib.hid (HV_q.out.mv hb)
  replace HV_x := Lib.hid (HV_x.out.mv hb)
  replace HV_y := Lib.hid (HV_y.out.mv hb)
  replace BX := Lib.hid (BX.out.below hb BX.out.lt)
  replace BY := Lib.hid (BY.out.below hb BY.out.lt)
  replace HT_u := Lib.hid (HT_u.out.mv hb)
  replace HB := Lib.hid (below_mv HB.out hb)
  clear hb
  have B_2 := Lib.hid b0
  clear b0
  have HRN := Lib.hid (rdN_two B_2.out HV_x.out HV_y.out B_2.out.lt)
  refine (ApplyN 40 300 A_t n_t c_t (some ⟨z_w_10, 0, none⟩) 2 2 t [x, y] w_10 (0, v) HM40_t.out (by decide) (by decide) HN_t.out rfl (by decide) (two_all HL_x.out HL_y.out).1 (two_all HL_x.out HL_y.out).2 HT_t.out HRN.out HDV.out).mono ?_
  rintro e w_11 ⟨A_v, n_v, c_v, rfl, hc, hn, hr, hb⟩
  replace HT_t := Lib.hid (HT_t.out.mv hb)
  replace BP := Lib.hid (BP.out.below hb BP.out.lt)
  replace BQ := Lib.hid (BQ.out.below hb BQ.out.lt)
  replace HV_p := Lib.hid (HV_p.out.mv hb)
  replace HV_q := Lib.hid (HV_q.out.mv hb)
  replace HV_x := Lib.hid (HV_x.out.mv hb)
  replace HV_y := Lib.hid (HV_y.out.mv hb)
  replace BX := Lib.hid (BX.out.below hb BX.out.lt)
  replace BY := Lib.hid (BY.out.below hb BY.out.lt)
  replace HT_u := Lib.hid (HT_u.out.mv hb)
  replace B_2 := Lib.hid (B_2.out.below hb B_2.out.lt)
  replace HB := Lib.hid (below_mv HB.out hb)
  clear hb
  have HT_v := Lib.hid hr; have HN_v := Lib.hid (show List.length _ = n_v from hn); clear hr hc hn
  clear HRN
  clear B_2
  obtain rfl := HUV.out
  go_wp2_with fail
  refine (SameC (b := true) HN_u.out HN_v.out HS_u.out HT_u.out HT_v.out (decide_eq_true rfl)).mono ?_
  rintro e w_12 ⟨rfl, hb⟩
  replace HT_t := Lib.hid (HT_t.out.mv hb)
  replace BP := Lib.hid (BP.out.below hb BP.out.lt)
  replace BQ := Lib.hid (BQ.out.below hb BQ.out.lt)
  replace HV_p := Lib.hid (HV_p.out.mv hb)
  replace HV_q := Lib.hid (HV_q.out.mv hb)
  replace HV_x := Lib.hid (HV_x.out.mv hb)
  replace HV_y := Lib.hid (HV_y.out.mv hb)
  replace BX := Lib.hid (BX.out.below hb BX.out.lt)
  replace BY := Lib.hid (BY.out.below hb BY.out.lt)
  replace HT_u := Lib.hid (HT_u.out.mv hb)
  replace HT_v := Lib.hid (HT_v.out.mv hb)
  replace HB := Lib.hid (below_mv HB.out hb)
  clear hb
  go_wp2
  go_ret
  exact ⟨rfl, HB.out⟩

end TgL
open TgL
open Tx
open Go.ChangeShapes Go.WideShapes Go.ChangeAt

theorem tradeSame_own : ownKnob Try.prog.godebug = none := by kernel_rfl
theorem tradeSame_laidOut : laidOutB Try.prog = true := by kernel_rfl

set_option maxRecDepth 100000 in
theorem tradeSame_lifted (os : Os) (started : os.Started) (H : Type) (enc : TypeId × Value → H) :
    ReturnsInHanded {} Try.checked os 4 .any (Rows.tradeSameSpec.pre6 enc Try.prog Try.f4 Rows.tradeSameRow.domain false) (Rows.tradeSameSpec.post enc Try.prog Try.f4 false true false false) := by
  refine returnsInHanded_of_change (C := Try.checked) tradeSame_own started (by kernel_rfl) Try.func4
    (ChangeSpec.witness6 (enc := enc) (C := Try.checked) false ⟨#[], #[.slice none 0 0, .agg #[.int .i64 0, .int .i64 0, .slice none 0 0, .string ByteArray.empty, .slice none 0 0], .agg #[.int .i64 0, .int .i64 0, .slice none 0 0, .string ByteArray.empty, .slice none 0 0]], []⟩ 8 (by kernel_rfl) (by kernel_rfl) (by kernel_rfl) (by kernel_rfl)) ?_
  intro W base args ds gs before hval0 hW hcnd _
  have hval : ∀ (j : Nat) t v, Try.f4.params[j]? = some t → args[j]? = some v → Value.okWide Try.prog W .any base t v := hval0
  have hW' := hW
  obtain ⟨p, q, hA0, hV, rfl, hfz, hnd⟩ := hW
  have hA : DataW.TrodAll enc Try.prog W 0 (fun _ => true) true Try.f4.params.toList args.toList ds p := hA0
  rw [Try.params4] at hA hval
  obtain ⟨v0, vs0, d0, ds0, p0, q0, hargs, rfl, rfl, h0, r0⟩ := trodAll_cons hA
  obtain ⟨v1, vs1, d1, ds1, p1, q1, rfl, rfl, rfl, h1, r1⟩ := trodAll_cons r0
  obtain ⟨v2, vs2, d2, ds2, p2, q2, rfl, rfl, rfl, h2, r2⟩ := trodAll_cons r1
  obtain ⟨rfl, rfl, rfl⟩ := trodAll_nil r2
  obtain rfl : args = #[v0, v1, v2] := by cases args; simp_all
  obtain ⟨rfl, rfl⟩ := trodVars_none hV
  obtain ⟨a0, n0, c0, rfl⟩ := okWide_slice Try.underlying39 (hval 0 39 v0 rfl rfl)
  have k0 := h0
  have lt0 : ∀ x ∈ p0, x.block < W.heap.size := by obtain ⟨m, hm⟩ := k0; exact DataW.trod_lt m _ _ _ hm
  obtain ⟨l0, s0⟩ : ∃ l, TreeArg W a0 n0 c0 l := by
    obtain ⟨fuel, hf⟩ := h0
    exact tree_in hf (by simp [Value.cells])
  have k1 := h1
  have lt1 : ∀ x ∈ p1, x.block < W.heap.size := by obtain ⟨m, hm⟩ := k1; exact DataW.trod_lt m _ _ _ hm
  obtain ⟨a1, n1, c1, b1, m1, e1, l1, rfl, s1⟩ := nm_in (hval 1 28 v1 rfl rfl) h1
  have k2 := h2
  have lt2 : ∀ x ∈ p2, x.block < W.heap.size := by obtain ⟨m, hm⟩ := k2; exact DataW.trod_lt m _ _ _ hm
  obtain ⟨a2, n2, c2, b2, m2, e2, l2, rfl, s2⟩ := nm_in (hval 2 28 v2 rfl rfl) h2
  clear hA0 hval0
  refine (tradeSame_walk a0 n0 c0 l0 a1 n1 c1 b1 m1 e1 l1 a2 n2 c2 b2 m2 e2 l2 W s0 s1 s2).mono fun e W' ⟨he, bel⟩ => ?_
  subst he
  exact ⟨_, rfl, _, _, _, [], _, [], hW', trodAll_mk1 (shut_bool Try.underlying4 _), (trodAll_cons_mk (Below.trod tradeSame_laidOut (by kernel_rfl) (of_decide_eq_true (by kernel_rfl)) k0 bel lt0) (trodAll_cons_mk (Below.trod tradeSame_laidOut (by kernel_rfl) (of_decide_eq_true (by kernel_rfl)) k1 bel lt1) (trodAll_cons_mk (Below.trod tradeSame_laidOut (by kernel_rfl) (of_decide_eq_true (by kernel_rfl)) k2 bel lt2) trodAll_mk0))), rfl, bel.frame _, fun h => by cases h⟩

/-- The statement. -/
theorem tradeSame_proved : Rows.TradeSameSaid :=
  OpenClaim.holds_of_wide 4 Try.f4 rfl rfl rfl rfl rfl rfl rfl ⟨rfl, rfl, rfl, rfl, rfl⟩ rfl rfl rfl rfl rfl (by kernel_rfl) Try.func4 (by kernel_rfl)
    (of_decide_eq_true (by kernel_rfl)) (by unfold Func.isWrapper; first | (rw [if_pos (by decide +kernel)]; kernel_rfl) | (rw [if_neg (by decide +kernel)]; exact ⟨rfl, rfl⟩))
    (fun os started H enc _ => tradeSame_lifted os started H enc)

#print axioms tradeSame_proved
end Go.Proofs.Ytbiiabfhngdeiaa
