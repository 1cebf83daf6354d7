/-
  The statement TradeDeps: one does not pass another one that it hangs on by its Deps; without Deps it passes just if its changes do.
-/
import Derived.Test.YtbiiabfhngdeiaaTgLaw
import Derived.OpenShut
import Derived.ShutString
import Derived.BigQuiet
set_option maxRecDepth 100000
namespace Go.Proofs.Ytbiiabfhngdeiaa
open Go.RowKit
set_option linter.unusedVariables false
set_option linter.unusedSimpArgs false
open Tr Tx Hk Pr Fl Pn Tg
namespace TgL
attribute [local go_sem] eq_id

set_option maxRecDepth 100000 in
set_option maxHeartbeats 8000000 in
theorem tradeDeps_walk (D_p : Option Addr) (d_p e_p : Nat) (A_p : Option Addr) (n_p c_p : Nat) (p : Nm) (D_q : Option Addr) (d_q e_q : Nat) (A_q : Option Addr) (n_q c_q : Nat) (q : Nm) (w : World) (h_p : NV w w.heap.size D_p d_p e_p A_p n_p c_p p) (h_q : NV w w.heap.size D_q d_q e_q A_q n_q c_q q) :
    Calls Try.prog 7 #[nmV p.id D_p d_p e_p p.txt A_p n_p c_p, nmV q.id D_q d_q e_q q.txt A_q n_q c_q] w (LawEnd w) := by
  have b0 := ((Blk.new w 28 #[.int .i64 p.id.1, .int .i64 p.id.2, .slice D_p d_p e_p, strV p.txt, .slice A_p n_p c_p]).alloc (.cells #[.int .i64 q.id.1, .int .i64 q.id.2, .slice D_q d_q e_q, strV q.txt, .slice A_q n_q c_q] 28))
  have b1 := (Blk.new (w.alloc (.cells #[.int .i64 p.id.1, .int .i64 p.id.2, .slice D_p d_p e_p, strV p.txt, .slice A_p n_p c_p] 28)) 28 #[.int .i64 q.id.1, .int .i64 q.id.2, .slice D_q d_q e_q, strV q.txt, .slice A_q n_q c_q])
  have hb : Below w.heap.size w ((w.alloc (.cells #[.int .i64 p.id.1, .int .i64 p.id.2, .slice D_p d_p e_p, strV p.txt, .slice A_p n_p c_p] 28)).alloc (.cells #[.int .i64 q.id.1, .int .i64 q.id.2, .slice D_q d_q e_q, strV q.txt, .slice A_q n_q c_q] 28)) := (((Below.refl w.heap.size w).alloc (by simp; try omega) (.cells #[.int .i64 p.id.1, .int .i64 p.id.2, .slice D_p d_p e_p, strV p.txt, .slice A_p n_p c_p] 28)).alloc (by simp; try omega) (.cells #[.int .i64 q.id.1, .int .i64 q.id.2, .slice D_q d_q e_q, strV q.txt, .slice A_q n_q c_q] 28))
  simp only [World.size_alloc] at b1
  have HV_p := Lib.hid (h_p.mv hb); have HV_q := Lib.hid (h_q.mv hb)
  clear h_p h_q
  go_enter Try.func7, Try.ntmps7
  go_upto_region 1 with fail
  generalize ((w.alloc (.cells #[.int .i64 p.id.1, .int .i64 p.id.2, .slice D_p d_p e_p, strV p.txt, .slice A_p n_p c_p] 28)).alloc (.cells #[.int .i64 q.id.1, .int .i64 q.id.2, .slice D_q d_q e_q, strV q.txt, .slice A_q n_q c_q] 28)) = w_1 at b0 b1 HV_p HV_q hb ⊢
  obtain ⟨z, hz⟩ : ∃ z, w.heap.size = z := ⟨_, rfl⟩
  rw [hz] at b0 b1 ⊢
  have BP := Lib.hid b0
  have BQ := Lib.hid b1
  have HZ := Lib.hid hz
  clear b0 b1 hz
  have HB := Lib.hid hb; clear hb
  go_wp2_with fail
  refine (Tg.awake w_1).mono ?_
  rintro e w_2 ⟨rfl, hb⟩
  replace BP := Lib.hid (BP.out.below hb BP.out.lt)
  replace BQ := Lib.hid (BQ.out.below hb BQ.out.lt)
  replace HV_p := Lib.hid (HV_p.out.mv hb)
  replace HV_q := Lib.hid (HV_q.out.mv hb)
  replace HB := Lib.hid (below_mv HB.out hb)
  clear hb
  have bp_0 := BP.out.cell 0 rfl
  have bp_1 := BP.out.cell 1 rfl
  have bp_2 := BP.out.cell 2 rfl
  have bp_3 := BP.out.cell 3 rfl
  have bp_4 := BP.out.cell 4 rfl
  have bq_0 := BQ.out.cell 0 rfl
  have bq_1 := BQ.out.cell 1 rfl
  have bq_2 := BQ.out.cell 2 rfl
  have bq_3 := BQ.out.cell 3 rfl
  have bq_4 := BQ.out.cell 4 rfl
  have bp_l := BP.out.lt; have bq_l := BQ.out.lt
  go_wp2_with fail
  clear bp_0 bp_1 bp_2 bp_3 bp_4 bq_0 bq_1 bq_2 bq_3 bq_4 bp_l bq_l
  have b0 := Blk.new w_2 28 #[.int .i64 p.id.1, .int .i64 p.id.2, .slice D_p d_p e_p, strV p.txt, .slice A_p n_p c_p, .int .i64 q.id.1, .int .i64 q.id.2, .slice D_q d_q e_q, strV q.txt, .slice A_q n_q c_q]
  have hb : Below w_2.heap.size w_2 (w_2.alloc (.cells #[.int .i64 p.id.1, .int .i64 p.id.2, .slice D_p d_p e_p, strV p.txt, .slice A_p n_p c_p, .int .i64 q.id.1, .int .i64 q.id.2, .slice D_q d_q e_q, strV q.txt, .slice A_q n_q c_q] 28)) := (Below.refl _ _).alloc (Nat.le_refl _) _
  generalize (w_2.alloc (.cells #[.int .i64 p.id.1, .int .i64 p.id.2, .slice D_p d_p e_p, strV p.txt, .slice A_p n_p c_p, .int .i64 q.id.1, .int .i64 q.id.2, .slice D_q d_q e_q, strV q.txt, .slice A_q n_q c_q] 28)) = w_3 at b0 hb ⊢
  obtain ⟨z_w_3, hz⟩ : ∃ z, w_2.heap.size = z := ⟨_, rfl⟩
  rw [hz] at b0 ⊢
  clear hz
  replace BP := Lib.hid (BP.out.below hb BP.out.lt)
  replace BQ := Lib.hid (BQ.out.below hb BQ.out.lt)
  replace HV_p := Lib.hid (HV_p.out.mv hb)
  replace HV_q := Lib.hid (HV_q.out.mv hb)
  replace HB := Lib.hid (below_mv HB.out hb)
  clear hb
  have B_2 := Lib.hid b0
  clear b0
  obtain ⟨bl, hbl⟩ : ∃ bb, fewN [p, q] 2 = bb := ⟨_, rfl⟩
  have HBL := Lib.hid hbl; clear hbl
  refine (FewN (some ⟨z_w_3, 0, none⟩) 2 2 2 [p, q] w_3 bl (by decide) ⟨rfl, Nat.le_refl _, by unfold maxLen; decide, rdN_two B_2.out HV_p.out HV_q.out B_2.out.lt⟩ HBL.out).mono ?_
  rintro e w_4 ⟨rfl, hb⟩
  replace BP := Lib.hid (BP.out.below hb BP.out.lt)
  replace BQ := Lib.hid (BQ.out.below hb BQ.out.lt)
  replace HV_p := Lib.hid (HV_p.out.mv hb)
  replace HV_q := Lib.hid (HV_q.out.mv hb)
  replace B_2 := Lib.hid (B_2.out.below hb B_2.out.lt)
  replace HB := Lib.hid (below_mv HB.out hb)
  clear hb
  clear B_2
  cases bl with
  | false =>
    go_wp2
    go_ret
    exact ⟨rfl, HB.out⟩
  | true =>
  have HL_p := Lib.hid ((few_two HBL.out).1)
  have HN_p : Hid (n_p ≤ 10 ∧ d_p ≤ 100) := Lib.hid (by
    have h1 := HL_p.out.2
    rw [HV_p.out.l, HV_p.out.dl] at h1
    exact h1)
  have HL_q := Lib.hid ((few_two HBL.out).2)
  have HN_q : Hid (n_q ≤ 10 ∧ d_q ≤ 100) := Lib.hid (by
    have h1 := HL_q.out.2
    rw [HV_q.out.l, HV_q.out.dl] at h1
    exact h1)
  have bq_0 := BQ.out.cell 0 rfl
  have bq_1 := BQ.out.cell 1 rfl
  have bq_2 := BQ.out.cell 2 rfl
  have bq_3 := BQ.out.cell 3 rfl
  have bq_4 := BQ.out.cell 4 rfl
  have lq := BQ.out.lt
  go_upto_region 6 with fail
  clear bq_0 bq_1 bq_2 bq_3 bq_4 lq
  have hba : Below w_4.heap.size w_4 (w_4.alloc (.cells #[.int .i64 q.id.1, .int .i64 q.id.2, .slice D_q d_q e_q, strV q.txt, .slice A_q n_q c_q] 28)) := (Below.refl _ _).alloc (Nat.le_refl _) _
  have br := Blk.new w_4 28 #[.int .i64 q.id.1, .int .i64 q.id.2, .slice D_q d_q e_q, strV q.txt, .slice A_q n_q c_q]
  generalize (w_4.alloc (.cells #[.int .i64 q.id.1, .int .i64 q.id.2, .slice D_q d_q e_q, strV q.txt, .slice A_q n_q c_q] 28)) = w7 at hba br ⊢
  obtain ⟨y, hy⟩ : ∃ y, w_4.heap.size = y := ⟨_, rfl⟩
  rw [hy] at br ⊢
  have HY := Lib.hid hy; have HR5 := Lib.hid br; have HBA := Lib.hid hba
  have HP7 := Lib.hid (BP.out.below hba BP.out.lt); have HQ7 := Lib.hid (BQ.out.below hba BQ.out.lt)
  have HRD := Lib.hid (RdI.mv HV_q.out.dr hba)
  clear br hba hy
  have bp_0 := HP7.out.cell 0 rfl; have bp_1 := HP7.out.cell 1 rfl; have br_2 := HR5.out.cell 2 rfl; have bq_2 := HQ7.out.cell 2 rfl
  have hpl := HP7.out.lt; have hyl := HR5.out.lt; have hql := HQ7.out.lt
  obtain ⟨N, hN⟩ : ∃ N, w7.heap.size = N := ⟨_, rfl⟩
  have HNW := Lib.hid hN
  have HA := Lib.hid (show Below w7.heap.size w7 (w7.alloc (.cells #[.int .i64 p.id.1, .int .i64 p.id.2] 24)).drew from below_drewN ((Below.refl _ _).alloc (Nat.le_refl _) _) 1)
  have HBB := Lib.hid (show Below w7.heap.size w7 w7.drew from below_drewN (Below.refl _ _) 1)
  have HZA := Lib.hid (show Blk (w7.alloc (.cells #[.int .i64 p.id.1, .int .i64 p.id.2] 24)).drew w7.heap.size 24 #[.int .i64 p.id.1, .int .i64 p.id.2] from (Blk.new w7 _ _).drewN 1)
  have HSA := Lib.hid (RdI.mv HRD.out HA.out); have HSB := Lib.hid (RdI.mv HRD.out HBB.out)
  have HDL := Lib.hid HV_q.out.dl
  have HL1 : Hid (([] : List Id_).length + d_q ≤ 100000) := Lib.hid (by have := HN_q.out; simp; omega)
  have HL2 : Hid (([] ++ q.deps : List Id_).length + 1 ≤ 100000) := Lib.hid (by have := HN_q.out; rw [List.nil_append, HDL.out]; omega)
  have HLA : Hid (N ≤ (w7.alloc (.cells #[.int .i64 p.id.1, .int .i64 p.id.2] 24)).drew.heap.size) := Lib.hid (by rw [← hN]; exact HA.out.size)
  have HLB : Hid (N ≤ w7.drew.heap.size) := Lib.hid (by rw [← hN]; exact HBB.out.size)
  clear hN
  go_region_law (first
    | ((with_reducible refine step_ownI (W := (w7.alloc (.cells #[.int .i64 p.id.1, .int .i64 p.id.2] 24)).drew) (base := N) (c := e_q) ?_ (.const (.slice none 0 0)) (.tmp 32) ?_ ?_ ?_ (ownI_nil _ N) HSA.out HDL.out HL1.out HLA.out ?_); rfl; rfl; rfl; rfl; intro v1 u1 ho hg; have hb1 := below_gr hg; have HU1 := Lib.hid (below_mv HA.out hb1); have HO1 := Lib.hid ho; have HS1 := Lib.hid (rdI_lone (x := p.id) (HZA.out.below hb1 HZA.out.lt) (HZA.out.below hb1 HZA.out.lt).lt); have HN1 := Lib.hid (Nat.le_trans HLA.out hb1.size); clear hb1 ho hg)
    | ((with_reducible refine step_ownI (W := w7.drew) (base := N) (c := e_q) ?_ (.const (.slice none 0 0)) (.tmp 32) ?_ ?_ ?_ (ownI_nil _ N) HSB.out HDL.out HL1.out HLB.out ?_); rfl; rfl; rfl; rfl; intro v1 u1 ho hg; have hb0 := below_gr hg; have hbu := below_mv HBB.out hb0; have pu := HP7.out.below hbu HP7.out.lt; have pu0 := pu.cell 0 rfl; have pu1 := pu.cell 1 rfl; have pul := pu.lt; have hbx : Below u1.heap.size u1 (u1.alloc (.cells #[.int .i64 p.id.1, .int .i64 p.id.2] 24)) := (Below.refl _ _).alloc (Nat.le_refl _) _; have hb1 := hb0.trans (hbx.mono hb0.size); have HU1 := Lib.hid (below_mv HBB.out hb1); have HO1 := Lib.hid (own_gr ho (below_gr_row hbx)); have HS1 := Lib.hid (rdI_lone (x := p.id) (Blk.new u1 24 #[.int .i64 p.id.1, .int .i64 p.id.2]) (Blk.new u1 24 #[.int .i64 p.id.1, .int .i64 p.id.2]).lt); have HN1 := Lib.hid (Nat.le_trans HLB.out hb1.size); clear hb0 hbx hb1 ho hg hbu pu)
    | ((with_reducible refine step_ownI (base := N) (c := 1) ?_ (.tmp 33) (.tmp 36) ?_ ?_ ?_ HO1.out HS1.out ?_ HL2.out HN1.out ?_); rfl; rfl; rfl; rfl; rfl; intro v2 u2 ho hg; have hu2 := HU1.out.grown hg HU1.out.size (fun k e => by rw [HNW.out]; exact ownI_ge HO1.out k e); have bq2 := HR5.out.below hu2 HR5.out.lt; have qc := bq2.cell 2 rfl; have qf := bq2.frozen 2; have hyl2 := bq2.lt; have HBQ2 := Lib.hid bq2; obtain ⟨A_m, c_m, hv2, hc2, hr2⟩ := rdI_own ho; have HO2 := Lib.hid ho; obtain ⟨n_m, hn⟩ : ∃ n, List.length ([] ++ q.deps ++ [p.id]) = n := ⟨_, rfl⟩; rw [hn] at hv2; have HN_m := Lib.hid hn; subst hv2; have HU2 := Lib.hid hu2; clear ho hg hn hc2 hr2 bq2 hu2))
  all_goals
    have hyy := HY.out
    have hyN : y < N := by rw [← HNW.out]; exact HR5.out.lt
    have b9 : Blk (u2.setCell ⟨y, 2, none⟩ (.slice A_m n_m c_m)) y 28 #[.int .i64 q.id.1, .int .i64 q.id.2, .slice A_m n_m c_m, strV q.txt, .slice A_q n_q c_q] := HBQ2.out.set 2 _
    have hb : Below w_4.heap.size w_4 (u2.setCell ⟨y, 2, none⟩ (.slice A_m n_m c_m)) := (below_mv HBA.out HU2.out).setCell (p := ⟨y, 2, none⟩) (by rw [hyy]; exact Nat.le_refl _) _
    have ho9 : OwnI (u2.setCell ⟨y, 2, none⟩ (.slice A_m n_m c_m)) N (.slice A_m n_m c_m) ([] ++ q.deps ++ [p.id]) := by
      have h1 := HO2.out
      have h2 := HN_m.out
      exact own_set h1 hyN 2 _
    obtain ⟨A_9, c_9, hv9, hc9, hr9⟩ := rdI_own ho9
    rw [HN_m.out] at hv9 hc9
    injection hv9 with g1 g2 g3
    subst g1 g3
    clear g2 qc qf hyl hyl2 hpl hql bp_0 bp_1 br_2 bq_2 ho9 hyy hyN
    generalize (u2.setCell ⟨y, 2, none⟩ (.slice A_m n_m c_m)) = w9 at b9 hb hr9 ⊢
    replace BP := Lib.hid (BP.out.below hb BP.out.lt)
    replace BQ := Lib.hid (BQ.out.below hb BQ.out.lt)
    replace HV_p := Lib.hid (HV_p.out.mv hb)
    replace HV_q := Lib.hid (HV_q.out.mv hb)
    replace HB := Lib.hid (below_mv HB.out hb)
    clear hb
    have BR := Lib.hid b9
    have HV_r : Hid (NV w9 w9.heap.size A_m n_m c_m A_q n_q c_q ⟨q.id, q.deps ++ [p.id], q.txt, q.l⟩) := Lib.hid ⟨HN_m.out, hc9, by have h1 := HN_m.out; have h2 := HN_q.out; rw [List.nil_append, List.length_append, HDL.out] at h1; unfold maxLen; simp at h1; omega, hr9, HV_q.out.tm, HV_q.out.l, HV_q.out.k, HV_q.out.m, HV_q.out.r⟩
    have HNM : Hid (n_m ≤ 101) := Lib.hid (by have h1 := HN_m.out; have h2 := HN_q.out; rw [List.nil_append, List.length_append, HDL.out] at h1; simp at h1; omega)
    clear b9 hr9 hc9 HR5 HBA HP7 HQ7 HRD HNW HA HBB HZA HSA HSB HL1 HL2 HLA HLB HO1 HS1 HN1 HU1 HBQ2 HO2 HU2
    have bq_0 := BQ.out.cell 0 rfl
    have bq_1 := BQ.out.cell 1 rfl
    have bq_2 := BQ.out.cell 2 rfl
    have bq_3 := BQ.out.cell 3 rfl
    have bq_4 := BQ.out.cell 4 rfl
    have lq := BQ.out.lt
    go_upto_region 9 with fail
    clear bq_0 bq_1 bq_2 bq_3 bq_4 lq
    have b0 := Blk.new w9 28 #[.int .i64 q.id.1, .int .i64 q.id.2, .slice none 0 0, strV q.txt, .slice A_q n_q c_q]
    have hb : Below w9.heap.size w9 (w9.alloc (.cells #[.int .i64 q.id.1, .int .i64 q.id.2, .slice none 0 0, strV q.txt, .slice A_q n_q c_q] 28)) := (Below.refl _ _).alloc (Nat.le_refl _) _
    generalize (w9.alloc (.cells #[.int .i64 q.id.1, .int .i64 q.id.2, .slice none 0 0, strV q.txt, .slice A_q n_q c_q] 28)) = w_5 at b0 hb ⊢
    obtain ⟨z_w_5, hz⟩ : ∃ z, w9.heap.size = z := ⟨_, rfl⟩
    rw [hz] at b0 ⊢
    clear hz
    replace BP := Lib.hid (BP.out.below hb BP.out.lt)
    replace BQ := Lib.hid (BQ.out.below hb BQ.out.lt)
    replace HV_p := Lib.hid (HV_p.out.mv hb)
    replace HV_q := Lib.hid (HV_q.out.mv hb)
    replace BR := Lib.hid (BR.out.below hb BR.out.lt)
    replace HV_r := Lib.hid (HV_r.out.mv hb)
    replace HB := Lib.hid (below_mv HB.out hb)
    clear hb
    have BS := Lib.hid b0
    clear b0
    have HNO : Hid (passN p ⟨q.id, q.deps ++ [p.id], q.txt, q.l⟩ = none) := Lib.hid (by unfold passN; rw [if_pos (by simp)])
    obtain ⟨xs, ys, hos⟩ : ∃ x y, outN (passN p ⟨q.id, [], q.txt, q.l⟩) = (x, y) := ⟨_, _, rfl⟩
    obtain ⟨bs, hbs⟩ : ∃ b, (passN p ⟨q.id, [], q.txt, q.l⟩).isSome = b := ⟨_, rfl⟩
    obtain ⟨xq, yq, hoq⟩ : ∃ x y, outN (passN p q) = (x, y) := ⟨_, _, rfl⟩
    obtain ⟨bq, hbq⟩ : ∃ b, (passN p q).isSome = b := ⟨_, rfl⟩
    have HIB : Hid (bq = true → bs = true) := Lib.hid (fun h => by rw [← hbs]; rw [← hbq] at h; exact bare_some h)
    have HOS := Lib.hid hos; have HBS := Lib.hid hbs; have HOQ := Lib.hid hoq; have HBQ := Lib.hid hbq
    clear hos hbs hoq hbq
    have bp_0 := BP.out.cell 0 rfl
    have bp_1 := BP.out.cell 1 rfl
    have bp_2 := BP.out.cell 2 rfl
    have bp_3 := BP.out.cell 3 rfl
    have bp_4 := BP.out.cell 4 rfl
    have br_0 := BR.out.cell 0 rfl
    have br_1 := BR.out.cell 1 rfl
    have br_2 := BR.out.cell 2 rfl
    have br_3 := BR.out.cell 3 rfl
    have br_4 := BR.out.cell 4 rfl
    have l_1 := BP.out.lt; have l_2 := BR.out.lt
    go_wp2_with fail
    clear bp_0 bp_1 bp_2 bp_3 bp_4 br_0 br_1 br_2 br_3 br_4 l_1 l_2
    refine (PassN D_p d_p e_p A_p n_p c_p A_m n_m c_m A_q n_q c_q p ⟨q.id, q.deps ++ [p.id], q.txt, q.l⟩ noN noN w_5 false (by have := HN_p.out; omega) (by have := HN_q.out; omega) (by have := HN_p.out; omega) (by have := HNM.out; omega) HL_p.out.1 HL_q.out.1 HV_p.out HV_r.out (by rw [HNO.out]; rfl) (by rw [HNO.out]; rfl)).mono ?_
    rintro e w_6 ⟨Da1, da1, ea1, Aa1, na1, ca1, Db1, db1, eb1, Ab1, nb1, cb1, rfl, _, _, hb⟩
    replace BP := Lib.hid (BP.out.below hb BP.out.lt)
    replace BQ := Lib.hid (BQ.out.below hb BQ.out.lt)
    replace HV_p := Lib.hid (HV_p.out.mv hb)
    replace HV_q := Lib.hid (HV_q.out.mv hb)
    replace BR := Lib.hid (BR.out.below hb BR.out.lt)
    replace HV_r := Lib.hid (HV_r.out.mv hb)
    replace BS := Lib.hid (BS.out.below hb BS.out.lt)
    replace HB := Lib.hid (below_mv HB.out hb)
    clear hb
    go_upto_region 10 with fail
    have b0 := (Blk.new w_6 28 #[.int .i64 noN.id.1, .int .i64 noN.id.2, .slice Da1 da1 ea1, strV noN.txt, .slice Aa1 na1 ca1]).alloc (.cells #[.int .i64 noN.id.1, .int .i64 noN.id.2, .slice Db1 db1 eb1, strV noN.txt, .slice Ab1 nb1 cb1] 28)
    have b1 := Blk.new (w_6.alloc (.cells #[.int .i64 noN.id.1, .int .i64 noN.id.2, .slice Da1 da1 ea1, strV noN.txt, .slice Aa1 na1 ca1] 28)) 28 #[.int .i64 noN.id.1, .int .i64 noN.id.2, .slice Db1 db1 eb1, strV noN.txt, .slice Ab1 nb1 cb1]
    have hb := two_box w_6 (.cells #[.int .i64 noN.id.1, .int .i64 noN.id.2, .slice Da1 da1 ea1, strV noN.txt, .slice Aa1 na1 ca1] 28) (.cells #[.int .i64 noN.id.1, .int .i64 noN.id.2, .slice Db1 db1 eb1, strV noN.txt, .slice Ab1 nb1 cb1] 28)
    simp only [World.size_alloc] at b1
    generalize ((w_6.alloc (.cells #[.int .i64 noN.id.1, .int .i64 noN.id.2, .slice Da1 da1 ea1, strV noN.txt, .slice Aa1 na1 ca1] 28)).alloc (.cells #[.int .i64 noN.id.1, .int .i64 noN.id.2, .slice Db1 db1 eb1, strV noN.txt, .slice Ab1 nb1 cb1] 28)) = w_7 at b0 b1 hb ⊢
    obtain ⟨z_w_7, hz⟩ : ∃ z, w_6.heap.size = z := ⟨_, rfl⟩
    rw [hz] at b0 b1 ⊢
    clear hz
    replace BP := Lib.hid (BP.out.below hb BP.out.lt)
    replace BQ := Lib.hid (BQ.out.below hb BQ.out.lt)
    replace HV_p := Lib.hid (HV_p.out.mv hb)
    replace HV_q := Lib.hid (HV_q.out.mv hb)
    replace BR := Lib.hid (BR.out.below hb BR.out.lt)
    replace HV_r := Lib.hid (HV_r.out.mv hb)
    replace BS := Lib.hid (BS.out.below hb BS.out.lt)
    replace HB := Lib.hid (below_mv HB.out hb)
    clear hb
    have B1_1 := Lib.hid b0
    have B2_1 := Lib.hid b1
    clear b0 b1
    clear B1_1 B2_1
    clear BR HV_r
    have bp_0 := BP.out.cell 0 rfl
    have bp_1 := BP.out.cell 1 rfl
    have bp_2 := BP.out.cell 2 rfl
    have bp_3 := BP.out.cell 3 rfl
    have bp_4 := BP.out.cell 4 rfl
    have bs_0 := BS.out.cell 0 rfl
    have bs_1 := BS.out.cell 1 rfl
    have bs_2 := BS.out.cell 2 rfl
    have bs_3 := BS.out.cell 3 rfl
    have bs_4 := BS.out.cell 4 rfl
    have l_1 := BP.out.lt; have l_2 := BS.out.lt
    go_wp2_with fail
    clear bp_0 bp_1 bp_2 bp_3 bp_4 bs_0 bs_1 bs_2 bs_3 bs_4 l_1 l_2
    refine (PassN D_p d_p e_p A_p n_p c_p none 0 0 A_q n_q c_q p ⟨q.id, [], q.txt, q.l⟩ xs ys w_7 bs (by have := HN_p.out; omega) (by have := HN_q.out; omega) (by have := HN_p.out; omega) (by decide) HL_p.out.1 HL_q.out.1 HV_p.out ⟨rfl, Nat.le_refl _, by unfold maxLen; decide, .inl rfl, HV_q.out.tm, HV_q.out.l, HV_q.out.k, HV_q.out.m, HV_q.out.r⟩ HOS.out HBS.out).mono ?_
    rintro e w_8 ⟨Da2, da2, ea2, Aa2, na2, ca2, Db2, db2, eb2, Ab2, nb2, cb2, rfl, _, _, hb⟩
    replace BP := Lib.hid (BP.out.below hb BP.out.lt)
    replace BQ := Lib.hid (BQ.out.below hb BQ.out.lt)
    replace HV_p := Lib.hid (HV_p.out.mv hb)
    replace HV_q := Lib.hid (HV_q.out.mv hb)
    replace BS := Lib.hid (BS.out.below hb BS.out.lt)
    replace HB := Lib.hid (below_mv HB.out hb)
    clear hb
    go_upto_region 11 with fail
    have b0 := (Blk.new w_8 28 #[.int .i64 xs.id.1, .int .i64 xs.id.2, .slice Da2 da2 ea2, strV xs.txt, .slice Aa2 na2 ca2]).alloc (.cells #[.int .i64 ys.id.1, .int .i64 ys.id.2, .slice Db2 db2 eb2, strV ys.txt, .slice Ab2 nb2 cb2] 28)
    have b1 := Blk.new (w_8.alloc (.cells #[.int .i64 xs.id.1, .int .i64 xs.id.2, .slice Da2 da2 ea2, strV xs.txt, .slice Aa2 na2 ca2] 28)) 28 #[.int .i64 ys.id.1, .int .i64 ys.id.2, .slice Db2 db2 eb2, strV ys.txt, .slice Ab2 nb2 cb2]
    have hb := two_box w_8 (.cells #[.int .i64 xs.id.1, .int .i64 xs.id.2, .slice Da2 da2 ea2, strV xs.txt, .slice Aa2 na2 ca2] 28) (.cells #[.int .i64 ys.id.1, .int .i64 ys.id.2, .slice Db2 db2 eb2, strV ys.txt, .slice Ab2 nb2 cb2] 28)
    simp only [World.size_alloc] at b1
    generalize ((w_8.alloc (.cells #[.int .i64 xs.id.1, .int .i64 xs.id.2, .slice Da2 da2 ea2, strV xs.txt, .slice Aa2 na2 ca2] 28)).alloc (.cells #[.int .i64 ys.id.1, .int .i64 ys.id.2, .slice Db2 db2 eb2, strV ys.txt, .slice Ab2 nb2 cb2] 28)) = w_9 at b0 b1 hb ⊢
    obtain ⟨z_w_9, hz⟩ : ∃ z, w_8.heap.size = z := ⟨_, rfl⟩
    rw [hz] at b0 b1 ⊢
    clear hz
    replace BP := Lib.hid (BP.out.below hb BP.out.lt)
    replace BQ := Lib.hid (BQ.out.below hb BQ.out.lt)
    replace HV_p := Lib.hid (HV_p.out.mv hb)
    replace HV_q := Lib.hid (HV_q.out.mv hb)
    replace BS := Lib.hid (BS.out.below hb BS.out.lt)
    replace HB := Lib.hid (below_mv HB.out hb)
    clear hb
    have B1_2 := Lib.hid b0
    have B2_2 := Lib.hid b1
    clear b0 b1
    clear B1_2 B2_2
    clear BS
    have bp_0 := BP.out.cell 0 rfl
    have bp_1 := BP.out.cell 1 rfl
    have bp_2 := BP.out.cell 2 rfl
    have bp_3 := BP.out.cell 3 rfl
    have bp_4 := BP.out.cell 4 rfl
    have bq_0 := BQ.out.cell 0 rfl
    have bq_1 := BQ.out.cell 1 rfl
    have bq_2 := BQ.out.cell 2 rfl
    have bq_3 := BQ.out.cell 3 rfl
    have bq_4 := BQ.out.cell 4 rfl
    have l_1 := BP.out.lt; have l_2 := BQ.out.lt
    go_wp2_with fail
    clear bp_0 bp_1 bp_2 bp_3 bp_4 bq_0 bq_1 bq_2 bq_3 bq_4 l_1 l_2
    refine (PassN D_p d_p e_p A_p n_p c_p D_q d_q e_q A_q n_q c_q p q xq yq w_9 bq (by have := HN_p.out; omega) (by have := HN_q.out; omega) (by have := HN_p.out; omega) (by have := HN_q.out; omega) HL_p.out.1 HL_q.out.1 HV_p.out HV_q.out HOQ.out HBQ.out).mono ?_
    rintro e w_10 ⟨Da3, da3, ea3, Aa3, na3, ca3, Db3, db3, eb3, Ab3, nb3, cb3, rfl, _, _, hb⟩
    replace BP := Lib.hid (BP.out.below hb BP.out.lt)
    replace BQ := Lib.hid (BQ.out.below hb BQ.out.lt)
    replace HV_p := Lib.hid (HV_p.out.mv hb)
    replace HV_q := Lib.hid (HV_q.out.mv hb)
    replace HB := Lib.hid (below_mv HB.out hb)
    clear hb
    go_upto_region 12 with fail
    have b0 := (Blk.new w_10 28 #[.int .i64 xq.id.1, .int .i64 xq.id.2, .slice Da3 da3 ea3, strV xq.txt, .slice Aa3 na3 ca3]).alloc (.cells #[.int .i64 yq.id.1, .int .i64 yq.id.2, .slice Db3 db3 eb3, strV yq.txt, .slice Ab3 nb3 cb3] 28)
    have b1 := Blk.new (w_10.alloc (.cells #[.int .i64 xq.id.1, .int .i64 xq.id.2, .slice Da3 da3 ea3, strV xq.txt, .slice Aa3 na3 ca3] 28)) 28 #[.int .i64 yq.id.1, .int .i64 yq.id.2, .slice Db3 db3 eb3, strV yq.txt, .slice Ab3 nb3 cb3]
    have hb := two_box w_10 (.cells #[.int .i64 xq.id.1, .int .i64 xq.id.2, .slice Da3 da3 ea3, strV xq.txt, .slice Aa3 na3 ca3] 28) (.cells #[.int .i64 yq.id.1, .int .i64 yq.id.2, .slice Db3 db3 eb3, strV yq.txt, .slice Ab3 nb3 cb3] 28)
    simp only [World.size_alloc] at b1
    generalize ((w_10.alloc (.cells #[.int .i64 xq.id.1, .int .i64 xq.id.2, .slice Da3 da3 ea3, strV xq.txt, .slice Aa3 na3 ca3] 28)).alloc (.cells #[.int .i64 yq.id.1, .int .i64 yq.id.2, .slice Db3 db3 eb3, strV yq.txt, .slice Ab3 nb3 cb3] 28)) = w_11 at b0 b1 hb ⊢
    obtain ⟨z_w_11, hz⟩ : ∃ z, w_10.heap.size = z := ⟨_, rfl⟩
    rw [hz] at b0 b1 ⊢
    clear hz
    replace BP := Lib.hid (BP.out.below hb BP.out.lt)
    replace BQ := Lib.hid (BQ.out.below hb BQ.out.lt)
    replace HV_p := Lib.hid (HV_p.out.mv hb)
    replace HV_q := Lib.hid (HV_q.out.mv hb)
    replace HB := Lib.hid (below_mv HB.out hb)
    clear hb
    have B1_3 := Lib.hid b0
    have B2_3 := Lib.hid b1
    clear b0 b1
    clear B1_3 B2_3
    have hib := HIB.out
    cases bq with
    | false =>
      go_wp2
      go_ret
      exact ⟨rfl, HB.out⟩
    | true =>
      obtain rfl := hib rfl
      go_wp2
      go_ret
      exact ⟨rfl, HB.out⟩

end TgL
open TgL
open Tx
open Go.ChangeShapes Go.WideShapes Go.ChangeAt

theorem tradeDeps_own : ownKnob Try.prog.godebug = none := by kernel_rfl
theorem tradeDeps_laidOut : laidOutB Try.prog = true := by kernel_rfl

set_option maxRecDepth 100000 in
theorem tradeDeps_lifted (os : Os) (started : os.Started) (H : Type) (enc : TypeId × Value → H) :
    ReturnsInHanded {} Try.checked os 7 .any (Rows.tradeDepsSpec.pre6 enc Try.prog Try.f7 Rows.tradeDepsRow.domain false) (Rows.tradeDepsSpec.post enc Try.prog Try.f7 false true false false) := by
  refine returnsInHanded_of_change (C := Try.checked) tradeDeps_own started (by kernel_rfl) Try.func7
    (ChangeSpec.witness6 (enc := enc) (C := Try.checked) false ⟨#[], #[.agg #[.int .i64 0, .int .i64 0, .slice none 0 0, .string ByteArray.empty, .slice none 0 0], .agg #[.int .i64 0, .int .i64 0, .slice none 0 0, .string ByteArray.empty, .slice none 0 0]], []⟩ 8 (by kernel_rfl) (by kernel_rfl) (by kernel_rfl) (by kernel_rfl)) ?_
  intro W base args ds gs before hval0 hW hcnd _
  have hval : ∀ (j : Nat) t v, Try.f7.params[j]? = some t → args[j]? = some v → Value.okWide Try.prog W .any base t v := hval0
  have hW' := hW
  obtain ⟨p, q, hA0, hV, rfl, hfz, hnd⟩ := hW
  have hA : DataW.TrodAll enc Try.prog W 0 (fun _ => true) true Try.f7.params.toList args.toList ds p := hA0
  rw [Try.params7] at hA hval
  obtain ⟨v0, vs0, d0, ds0, p0, q0, hargs, rfl, rfl, h0, r0⟩ := trodAll_cons hA
  obtain ⟨v1, vs1, d1, ds1, p1, q1, rfl, rfl, rfl, h1, r1⟩ := trodAll_cons r0
  obtain ⟨rfl, rfl, rfl⟩ := trodAll_nil r1
  obtain rfl : args = #[v0, v1] := by cases args; simp_all
  obtain ⟨rfl, rfl⟩ := trodVars_none hV
  have k0 := h0
  have lt0 : ∀ x ∈ p0, x.block < W.heap.size := by obtain ⟨m, hm⟩ := k0; exact DataW.trod_lt m _ _ _ hm
  obtain ⟨a0, n0, c0, b0, m0, e0, l0, rfl, s0⟩ := nm_in (hval 0 28 v0 rfl rfl) h0
  have k1 := h1
  have lt1 : ∀ x ∈ p1, x.block < W.heap.size := by obtain ⟨m, hm⟩ := k1; exact DataW.trod_lt m _ _ _ hm
  obtain ⟨a1, n1, c1, b1, m1, e1, l1, rfl, s1⟩ := nm_in (hval 1 28 v1 rfl rfl) h1
  clear hA0 hval0
  refine (tradeDeps_walk a0 n0 c0 b0 m0 e0 l0 a1 n1 c1 b1 m1 e1 l1 W s0 s1).mono fun e W' ⟨he, bel⟩ => ?_
  subst he
  exact ⟨_, rfl, _, _, _, [], _, [], hW', trodAll_mk1 (shut_bool Try.underlying4 _), (trodAll_cons_mk (Below.trod tradeDeps_laidOut (by kernel_rfl) (of_decide_eq_true (by kernel_rfl)) k0 bel lt0) (trodAll_cons_mk (Below.trod tradeDeps_laidOut (by kernel_rfl) (of_decide_eq_true (by kernel_rfl)) k1 bel lt1) trodAll_mk0)), rfl, bel.frame _, fun h => by cases h⟩

/-- The statement. -/
theorem tradeDeps_proved : Rows.TradeDepsSaid :=
  OpenClaim.holds_of_wide 7 Try.f7 rfl rfl rfl rfl rfl rfl rfl ⟨rfl, rfl, rfl, rfl, rfl⟩ rfl rfl rfl rfl rfl (by kernel_rfl) Try.func7 (by kernel_rfl)
    (of_decide_eq_true (by kernel_rfl)) (by unfold Func.isWrapper; first | (rw [if_pos (by decide +kernel)]; kernel_rfl) | (rw [if_neg (by decide +kernel)]; exact ⟨rfl, rfl⟩))
    (fun os started H enc _ => tradeDeps_lifted os started H enc)

#print axioms tradeDeps_proved
end Go.Proofs.Ytbiiabfhngdeiaa
