/-
  The statement PatchDeps: a patch that may be may be with fewer Deps, and with fewer changes; not with one of Deps twice.
-/
import Derived.Test.YtcfoodbfapldbaaPnAwake
import Derived.Test.YtcfoodbfapldbaaGQ
import Derived.OpenShut
import Derived.ShutString
import Derived.BigQuiet
set_option maxRecDepth 100000
namespace Go.Proofs.Ytcfoodbfapldbaa
open Go.RowKit
set_option linter.unusedVariables false
set_option linter.unusedSimpArgs false
open Tr Tx Hk Pr Fl Pn
namespace PnL
attribute [local go_sem] eq_id

set_option maxRecDepth 100000 in
set_option maxHeartbeats 8000000 in
theorem patchDeps_walk (D_p : Option Addr) (d_p e_p : Nat) (A_p : Option Addr) (n_p c_p : Nat) (p : Nm) (n : Int) (k : Int) (w : World) (h_p : NV w w.heap.size D_p d_p e_p A_p n_p c_p p) :
    Calls Try.prog 6 #[nmV p.id D_p d_p e_p p.txt A_p n_p c_p, .int .i64 n, .int .i64 k] w (LawEnd w) := by
  have b0 := (Blk.new w 27 #[.int .i64 p.id.1, .int .i64 p.id.2, .slice D_p d_p e_p, strV p.txt, .slice A_p n_p c_p])
  have hb : Below w.heap.size w (w.alloc (.cells #[.int .i64 p.id.1, .int .i64 p.id.2, .slice D_p d_p e_p, strV p.txt, .slice A_p n_p c_p] 27)) := ((Below.refl w.heap.size w).alloc (by simp; try omega) (.cells #[.int .i64 p.id.1, .int .i64 p.id.2, .slice D_p d_p e_p, strV p.txt, .slice A_p n_p c_p] 27))
  have HV_p := Lib.hid (h_p.mv hb)
  clear h_p
  go_enter Try.func6, Try.ntmps6
  go_upto_region 1 with fail
  generalize (w.alloc (.cells #[.int .i64 p.id.1, .int .i64 p.id.2, .slice D_p d_p e_p, strV p.txt, .slice A_p n_p c_p] 27)) = w_1 at b0 HV_p hb ⊢
  obtain ⟨z, hz⟩ : ∃ z, w.heap.size = z := ⟨_, rfl⟩
  rw [hz] at b0 ⊢
  have BP := Lib.hid b0
  have HZ := Lib.hid hz
  clear b0 hz
  have HB := Lib.hid hb; clear hb
  go_wp2_with fail
  refine (Pn.awake w_1).mono ?_
  rintro e w_2 ⟨rfl, hb⟩
  replace BP := Lib.hid (BP.out.below hb BP.out.lt)
  replace HV_p := Lib.hid (HV_p.out.mv hb)
  replace HB := Lib.hid (below_mv HB.out hb)
  clear hb
  obtain ⟨bl_p, hbl⟩ : ∃ bb, lightN p 60 = bb := ⟨_, rfl⟩
  have HBL_p := Lib.hid hbl; clear hbl
  have bp_0 := BP.out.cell 0 rfl
  have bp_1 := BP.out.cell 1 rfl
  have bp_2 := BP.out.cell 2 rfl
  have bp_3 := BP.out.cell 3 rfl
  have bp_4 := BP.out.cell 4 rfl
  go_wp2_with fail
  refine (LightN D_p d_p e_p A_p n_p c_p 60 p w_2 bl_p (by decide) HV_p.out HBL_p.out).mono ?_
  rintro e w_3 ⟨rfl, hb⟩
  replace BP := Lib.hid (BP.out.below hb BP.out.lt)
  replace HV_p := Lib.hid (HV_p.out.mv hb)
  replace HB := Lib.hid (below_mv HB.out hb)
  clear hb
  clear bp_0 bp_1 bp_2 bp_3 bp_4
  cases bl_p with
  | false =>
    go_wp2
    go_ret
    exact ⟨rfl, HB.out⟩
  | true =>
  have HQ_p : Hid (n_p ≤ 60 ∧ d_p ≤ 100) := Lib.hid (by
    obtain ⟨h1, h2⟩ := lightN_len HBL_p.out
    rw [HV_p.out.l] at h1
    rw [HV_p.out.dl] at h2
    exact ⟨h1, h2⟩)
  obtain ⟨bm, hbm⟩ : ∃ b, mayN p = b := ⟨_, rfl⟩
  have HBM := Lib.hid hbm; clear hbm
  have bp_0 := BP.out.cell 0 rfl
  have bp_1 := BP.out.cell 1 rfl
  have bp_2 := BP.out.cell 2 rfl
  have bp_3 := BP.out.cell 3 rfl
  have bp_4 := BP.out.cell 4 rfl
  go_wp2_with fail
  refine (MayN D_p d_p e_p A_p n_p c_p p w_3 bm HV_p.out HBM.out).mono ?_
  rintro e w_4 ⟨rfl, hb⟩
  replace BP := Lib.hid (BP.out.below hb BP.out.lt)
  replace HV_p := Lib.hid (HV_p.out.mv hb)
  replace HB := Lib.hid (below_mv HB.out hb)
  clear hb
  clear bp_0 bp_1 bp_2 bp_3 bp_4
  cases bm with
  | false =>
    go_wp2
    go_ret
    exact ⟨rfl, HB.out⟩
  | true =>
  have bp_0 := BP.out.cell 0 rfl
  have bp_1 := BP.out.cell 1 rfl
  have bp_2 := BP.out.cell 2 rfl
  have bp_3 := BP.out.cell 3 rfl
  have bp_4 := BP.out.cell 4 rfl
  by_cases h0 : n < 0
  case pos =>
    have e0 : decide (n < 0) = true := decide_eq_true h0
    go_wp2
    go_ret
    exact ⟨rfl, HB.out⟩
  have e0 : decide (n < 0) = false := decide_eq_false h0
  by_cases h1 : (d_p : Int) < n
  case pos =>
    have e1 : decide ((d_p : Int) < n) = true := decide_eq_true h1
    go_wp2
    go_ret
    exact ⟨rfl, HB.out⟩
  have e1 : decide ((d_p : Int) < n) = false := decide_eq_false h1
  by_cases h2 : k < 0
  case pos =>
    have e2 : decide (k < 0) = true := decide_eq_true h2
    go_wp2
    go_ret
    exact ⟨rfl, HB.out⟩
  have e2 : decide (k < 0) = false := decide_eq_false h2
  by_cases h3 : (n_p : Int) < k
  case pos =>
    have e3 : decide ((n_p : Int) < k) = true := decide_eq_true h3
    go_wp2
    go_ret
    exact ⟨rfl, HB.out⟩
  have e3 : decide ((n_p : Int) < k) = false := decide_eq_false h3
  obtain ⟨i, rfl⟩ : ∃ i : Nat, n = (i : Int) := ⟨n.toNat, by omega⟩
  obtain ⟨j, rfl⟩ : ∃ j : Nat, k = (j : Int) := ⟨k.toNat, by omega⟩
  have hv := HV_p.out
  have hin : i ≤ d_p := by omega
  have hjn : j ≤ n_p := by omega
  have hie : i ≤ e_p := Nat.le_trans hin hv.dk
  have hjc : j ≤ c_p := Nat.le_trans hjn hv.k
  have i0 : (0 : Int) ≤ (i : Int) := by omega
  have i1 : (i : Int) ≤ (e_p : Int) := by omega
  have i2 : (i : Int) ≤ (d_p : Int) := by omega
  have j0 : (0 : Int) ≤ (j : Int) := by omega
  have j1 : (j : Int) ≤ (c_p : Int) := by omega
  have j2 : (j : Int) ≤ (n_p : Int) := by omega
  have HLD := Lib.hid (show (p.deps.drop i).length = d_p - i by rw [List.length_drop, hv.dl])
  have HLT := Lib.hid (show (p.l.take j).length = j by rw [List.length_take, hv.l]; omega)
  have HQM := Lib.hid (mayN_less HBM.out i j)
  clear hv
  have hzl := BP.out.lt
  have HW5 := Lib.hid (show w.heap.size ≤ w_4.heap.size from HB.out.size)
  by_cases hck : e_p = i
  case pos =>
    have HRD := Lib.hid (show RdI w_4 w_4.heap.size D_p (p.deps.drop i) from (by rw [List.drop_of_length_le (by rw [HV_p.out.dl]; have := HV_p.out.dk; omega)]; exact .inl rfl))
    have bq := Blk.new w_4 27 #[.int .i64 p.id.1, .int .i64 p.id.2, .slice D_p (d_p - i) 0, strV p.txt, .slice A_p j c_p]
    have hb : Below w_4.heap.size w_4 (w_4.alloc (.cells #[.int .i64 p.id.1, .int .i64 p.id.2, .slice D_p (d_p - i) 0, strV p.txt, .slice A_p j c_p] 27)) := (Below.refl _ _).alloc (Nat.le_refl _) _
    have HV5 := HV_p; have HB5 := Lib.hid (Below.refl w_4.heap.size w_4)
    go_wp2_with fail
    clear bp_0 bp_1 bp_2 bp_3 bp_4 hzl
    generalize (w_4.alloc (.cells #[.int .i64 p.id.1, .int .i64 p.id.2, .slice D_p (d_p - i) 0, strV p.txt, .slice A_p j c_p] 27)) = w_5 at bq hb ⊢
    obtain ⟨y, hy⟩ : ∃ y, w_4.heap.size = y := ⟨_, rfl⟩
    rw [hy] at bq ⊢
    have HY := Lib.hid hy; have BQ := Lib.hid bq
    clear hy bq
    replace BP := Lib.hid (BP.out.below hb BP.out.lt)
    replace HV_p := Lib.hid (HV_p.out.mv hb)
    replace HB5 := Lib.hid (below_mv HB5.out hb)
    replace HRD := Lib.hid (RdI.mv HRD.out hb)
    replace HB := Lib.hid (below_mv HB.out hb)
    clear hb
    refine (MayN D_p (d_p - i) 0 A_p j c_p ⟨p.id, p.deps.drop i, p.txt, p.l.take j⟩ w_5 true ⟨HLD.out, (by have := HV_p.out.dk; omega), Nat.le_trans (Nat.sub_le _ _) HV_p.out.dm, HRD.out, HV_p.out.tm, HLT.out, hjc, Nat.le_trans hjn HV_p.out.m, rdP_pre HV_p.out.r j⟩ HQM.out).mono ?_
    rintro e w_6 ⟨rfl, hb⟩
    replace BP := Lib.hid (BP.out.below hb BP.out.lt)
    replace HV_p := Lib.hid (HV_p.out.mv hb)
    replace HB5 := Lib.hid (below_mv HB5.out hb)
    replace HRD := Lib.hid (RdI.mv HRD.out hb)
    replace BQ := Lib.hid (BQ.out.below hb BQ.out.lt)
    replace HB := Lib.hid (below_mv HB.out hb)
    clear hb
    have bp_2 := BP.out.cell 2 rfl
    by_cases hd0 : d_p = 0
    case pos =>
      have e4 : ((d_p : Int) == 0) = true := by rw [hd0]; rfl
      go_wp2
      go_ret
      exact ⟨rfl, HB.out⟩
    have e4 : ((d_p : Int) == 0) = false := by rw [beq_eq_false_iff_ne]; omega
    obtain ⟨m, hm⟩ : ∃ m, d_p = m + 1 := ⟨d_p - 1, by omega⟩
    obtain ⟨ad, x, hDA, hS, hx, q0, q1⟩ := RdI.elem HV_p.out.dr (k := m) (by rw [HV_p.out.dl]; omega)
    have HTW : Hid (mayN ⟨p.id, p.deps ++ [x], p.txt, p.l.take j⟩ = false) := Lib.hid (mayN_twice (p := ⟨p.id, p.deps, p.txt, p.l.take j⟩) (ds := p.deps.take m) (by
      show p.deps = p.deps.take m ++ [x]
      rw [← take_at hx, List.take_of_length_le (by rw [HV_p.out.dl]; omega)]))
    subst hDA
    have HSD : Hid ((ad.add (m * 2)).block < w_6.heap.size) := Lib.hid (by rw [add_block]; exact hS)
    have Q0 := Lib.hid q0; have Q1 := Lib.hid q1
    have hzl := BP.out.lt
    have m1 : (d_p : Int) - 1 = (m : Int) := by omega
    have m2 : (0 : Int) ≤ (m : Int) := by omega
    have m3 : (m : Int) < (d_p : Int) := by omega
    have m4 : IntKind.i64.wrap (m : Int) = (m : Int) := IntWalk.i64_in _ (by have := HQ_p.out; omega)
    obtain ⟨N, hN⟩ : ∃ N, w_6.heap.size = N := ⟨_, rfl⟩
    have HNW := Lib.hid hN
    have HA := Lib.hid (show Below w_6.heap.size w_6 (w_6.alloc (.cells #[.int .i64 x.1, .int .i64 x.2] 23)).drew from below_drewN ((Below.refl _ _).alloc (Nat.le_refl _) _) 1)
    have HBB := Lib.hid (show Below w_6.heap.size w_6 w_6.drew from below_drewN (Below.refl _ _) 1)
    have HZA := Lib.hid (show Blk (w_6.alloc (.cells #[.int .i64 x.1, .int .i64 x.2] 23)).drew w_6.heap.size 23 #[.int .i64 x.1, .int .i64 x.2] from (Blk.new w_6 _ _).drewN 1)
    have HSA := Lib.hid (RdI.mv HV_p.out.dr HA.out); have HSB := Lib.hid (RdI.mv HV_p.out.dr HBB.out)
    have HDL := Lib.hid HV_p.out.dl
    have HL1 : Hid (([] : List Id_).length + d_p ≤ 100000) := Lib.hid (by have := HQ_p.out; simp; omega)
    have HL2 : Hid (([] ++ p.deps : List Id_).length + 1 ≤ 100000) := Lib.hid (by have := HQ_p.out; rw [List.nil_append, HDL.out]; omega)
    have HLA : Hid (N ≤ (w_6.alloc (.cells #[.int .i64 x.1, .int .i64 x.2] 23)).drew.heap.size) := Lib.hid (by rw [← hN]; exact HA.out.size)
    have HLB : Hid (N ≤ w_6.drew.heap.size) := Lib.hid (by rw [← hN]; exact HBB.out.size)
    clear hN hm hx hS
    go_upto_region 12 with fail
    go_region_law (first
      | ((with_reducible refine step_ownI (W := (w_6.alloc (.cells #[.int .i64 x.1, .int .i64 x.2] 23)).drew) (base := N) (c := i) ?_ (.const (.slice none 0 0)) (.tmp 66) ?_ ?_ ?_ (ownI_nil _ N) HSA.out HDL.out HL1.out HLA.out ?_); rfl; rfl; rfl; rfl; intro v1 u1 ho hg; have hb1 := below_gr hg; have HU1 := Lib.hid (below_mv HA.out hb1); have HO1 := Lib.hid ho; have HS1 := Lib.hid (rdI_lone (HZA.out.below hb1 HZA.out.lt) (HZA.out.below hb1 HZA.out.lt).lt); have HN1 := Lib.hid (Nat.le_trans HLA.out hb1.size); clear hb1 ho hg)
      | ((with_reducible refine step_ownI (W := w_6.drew) (base := N) (c := i) ?_ (.const (.slice none 0 0)) (.tmp 66) ?_ ?_ ?_ (ownI_nil _ N) HSB.out HDL.out HL1.out HLB.out ?_); rfl; rfl; rfl; rfl; intro v1 u1 ho hg; have hb0 := below_gr hg; have hbu := below_mv HBB.out hb0; have pu := BP.out.below hbu BP.out.lt; have pu2 := pu.cell 2 rfl; have pul := pu.lt; have qu0 := cellB Q0.out hbu HSD.out; have qu1 := cellB Q1.out hbu HSD.out; have hbx : Below u1.heap.size u1 (u1.alloc (.cells #[.int .i64 x.1, .int .i64 x.2] 23)) := (Below.refl _ _).alloc (Nat.le_refl _) _; have hb1 := hb0.trans (hbx.mono hb0.size); have HU1 := Lib.hid (below_mv HBB.out hb1); have HO1 := Lib.hid (own_gr ho (below_gr_row hbx)); have HS1 := Lib.hid (rdI_lone (Blk.new u1 23 #[.int .i64 x.1, .int .i64 x.2]) (Blk.new u1 23 #[.int .i64 x.1, .int .i64 x.2]).lt); have HN1 := Lib.hid (Nat.le_trans HLB.out hb1.size); clear hb0 hbx hb1 ho hg hbu pu)
      | ((with_reducible refine step_ownI (base := N) (c := 1) ?_ (.tmp 67) (.tmp 76) ?_ ?_ ?_ HO1.out HS1.out ?_ HL2.out HN1.out ?_); rfl; rfl; rfl; rfl; rfl; intro v2 u2 ho hg; have hu2 := HU1.out.grown hg HU1.out.size (fun k e => by rw [HNW.out]; exact ownI_ge HO1.out k e); have bq2 := BQ.out.below hu2 BQ.out.lt; have qc := bq2.cell 2 rfl; have qf := bq2.frozen 2; have hyl := bq2.lt; have HBQ2 := Lib.hid bq2; obtain ⟨A_m, c_m, hv2, hc2, hr2⟩ := rdI_own ho; have HO2 := Lib.hid ho; obtain ⟨n_m, hn⟩ : ∃ n, List.length ([] ++ p.deps ++ [x]) = n := ⟨_, rfl⟩; rw [hn] at hv2; have HN_m := Lib.hid hn; subst hv2; have HU2 := Lib.hid hu2; clear ho hg hn hc2 hr2 bq2 hu2))
    all_goals
      have hyy := HY.out
      have hx2 : Below w_6.heap.size w_6 u2 := HU2.out
      have b9 : Blk (u2.setCell ⟨y, 2, none⟩ (.slice A_m n_m c_m)) y 27 #[.int .i64 p.id.1, .int .i64 p.id.2, .slice A_m n_m c_m, strV p.txt, .slice A_p j c_p] := HBQ2.out.set 2 _
      have hb5 : Below w_4.heap.size w_4 (u2.setCell ⟨y, 2, none⟩ (.slice A_m n_m c_m)) := (below_mv HB5.out hx2).setCell (p := ⟨y, 2, none⟩) (by rw [hyy]; exact Nat.le_refl _) _
      have hbw : Below w.heap.size w (u2.setCell ⟨y, 2, none⟩ (.slice A_m n_m c_m)) := (below_mv HB.out hx2).setCell (p := ⟨y, 2, none⟩) (by rw [← hyy]; exact HW5.out) _
      have hyN : y < N := by rw [← HNW.out]; exact BQ.out.lt
      have ho9 : OwnI (u2.setCell ⟨y, 2, none⟩ (.slice A_m n_m c_m)) N (.slice A_m n_m c_m) ([] ++ p.deps ++ [x]) := by
        have h1 := HO2.out
        have h2 := HN_m.out
        exact own_set h1 hyN 2 _
      obtain ⟨A_9, c_9, hv9, hc9, hr9⟩ := rdI_own ho9
      rw [HN_m.out] at hv9 hc9
      injection hv9 with g1 g2 g3
      subst g1 g3
      have HR9 := Lib.hid hr9; have HC9 := Lib.hid hc9; have B9 := Lib.hid b9; have HB9 := Lib.hid hbw; have HV9 := Lib.hid (HV5.out.mv hb5)
      clear hyy hx2 b9 hb5 hbw hyN ho9 hr9 hc9 g2 qc qf hyl bp_2 q0 q1 hzl
      generalize (u2.setCell ⟨y, 2, none⟩ (.slice A_m n_m c_m)) = w9 at HR9 B9 HB9 HV9 ⊢
      have y0 := B9.out.cell 0 rfl; have y1 := B9.out.cell 1 rfl; have y2 := B9.out.cell 2 rfl; have y3 := B9.out.cell 3 rfl; have y4 := B9.out.cell 4 rfl
      go_wp2_with fail
      refine (MayN A_m n_m c_m A_p j c_p ⟨p.id, p.deps ++ [x], p.txt, p.l.take j⟩ w9 false ⟨HN_m.out, HC9.out, by have h1 := HN_m.out; have h2 := HQ_p.out; rw [List.nil_append, List.length_append, HDL.out] at h1; unfold maxLen; simp at h1; omega, HR9.out, HV9.out.tm, HLT.out, hjc, Nat.le_trans hjn HV9.out.m, rdP_pre HV9.out.r j⟩ HTW.out).mono ?_
      rintro e w10 ⟨rfl, hb⟩
      replace HB9 := Lib.hid (below_mv HB9.out hb)
      go_wp2
      go_ret
      exact ⟨rfl, HB9.out⟩
  have HRD := Lib.hid (show RdI w_4 w_4.heap.size (D_p.map (·.add (i * 2))) (p.deps.drop i) from (RdI.drop HV_p.out.dr i))
  have bq := Blk.new w_4 27 #[.int .i64 p.id.1, .int .i64 p.id.2, .slice (D_p.map (·.add (i * 2))) (d_p - i) (e_p - i), strV p.txt, .slice A_p j c_p]
  have hb : Below w_4.heap.size w_4 (w_4.alloc (.cells #[.int .i64 p.id.1, .int .i64 p.id.2, .slice (D_p.map (·.add (i * 2))) (d_p - i) (e_p - i), strV p.txt, .slice A_p j c_p] 27)) := (Below.refl _ _).alloc (Nat.le_refl _) _
  have HV5 := HV_p; have HB5 := Lib.hid (Below.refl w_4.heap.size w_4)
  go_wp2_with fail
  clear bp_0 bp_1 bp_2 bp_3 bp_4 hzl
  generalize (w_4.alloc (.cells #[.int .i64 p.id.1, .int .i64 p.id.2, .slice (D_p.map (·.add (i * 2))) (d_p - i) (e_p - i), strV p.txt, .slice A_p j c_p] 27)) = w_5 at bq hb ⊢
  obtain ⟨y, hy⟩ : ∃ y, w_4.heap.size = y := ⟨_, rfl⟩
  rw [hy] at bq ⊢
  have HY := Lib.hid hy; have BQ := Lib.hid bq
  clear hy bq
  replace BP := Lib.hid (BP.out.below hb BP.out.lt)
  replace HV_p := Lib.hid (HV_p.out.mv hb)
  replace HB5 := Lib.hid (below_mv HB5.out hb)
  replace HRD := Lib.hid (RdI.mv HRD.out hb)
  replace HB := Lib.hid (below_mv HB.out hb)
  clear hb
  refine (MayN (D_p.map (·.add (i * 2))) (d_p - i) (e_p - i) A_p j c_p ⟨p.id, p.deps.drop i, p.txt, p.l.take j⟩ w_5 true ⟨HLD.out, (Nat.sub_le_sub_right HV_p.out.dk i), Nat.le_trans (Nat.sub_le _ _) HV_p.out.dm, HRD.out, HV_p.out.tm, HLT.out, hjc, Nat.le_trans hjn HV_p.out.m, rdP_pre HV_p.out.r j⟩ HQM.out).mono ?_
  rintro e w_6 ⟨rfl, hb⟩
  replace BP := Lib.hid (BP.out.below hb BP.out.lt)
  replace HV_p := Lib.hid (HV_p.out.mv hb)
  replace HB5 := Lib.hid (below_mv HB5.out hb)
  replace HRD := Lib.hid (RdI.mv HRD.out hb)
  replace BQ := Lib.hid (BQ.out.below hb BQ.out.lt)
  replace HB := Lib.hid (below_mv HB.out hb)
  clear hb
  have bp_2 := BP.out.cell 2 rfl
  by_cases hd0 : d_p = 0
  case pos =>
    have e4 : ((d_p : Int) == 0) = true := by rw [hd0]; rfl
    go_wp2
    go_ret
    exact ⟨rfl, HB.out⟩
  have e4 : ((d_p : Int) == 0) = false := by rw [beq_eq_false_iff_ne]; omega
  obtain ⟨m, hm⟩ : ∃ m, d_p = m + 1 := ⟨d_p - 1, by omega⟩
  obtain ⟨ad, x, hDA, hS, hx, q0, q1⟩ := RdI.elem HV_p.out.dr (k := m) (by rw [HV_p.out.dl]; omega)
  have HTW : Hid (mayN ⟨p.id, p.deps ++ [x], p.txt, p.l.take j⟩ = false) := Lib.hid (mayN_twice (p := ⟨p.id, p.deps, p.txt, p.l.take j⟩) (ds := p.deps.take m) (by
    show p.deps = p.deps.take m ++ [x]
    rw [← take_at hx, List.take_of_length_le (by rw [HV_p.out.dl]; omega)]))
  subst hDA
  have HSD : Hid ((ad.add (m * 2)).block < w_6.heap.size) := Lib.hid (by rw [add_block]; exact hS)
  have Q0 := Lib.hid q0; have Q1 := Lib.hid q1
  have hzl := BP.out.lt
  have m1 : (d_p : Int) - 1 = (m : Int) := by omega
  have m2 : (0 : Int) ≤ (m : Int) := by omega
  have m3 : (m : Int) < (d_p : Int) := by omega
  have m4 : IntKind.i64.wrap (m : Int) = (m : Int) := IntWalk.i64_in _ (by have := HQ_p.out; omega)
  obtain ⟨N, hN⟩ : ∃ N, w_6.heap.size = N := ⟨_, rfl⟩
  have HNW := Lib.hid hN
  have HA := Lib.hid (show Below w_6.heap.size w_6 (w_6.alloc (.cells #[.int .i64 x.1, .int .i64 x.2] 23)).drew from below_drewN ((Below.refl _ _).alloc (Nat.le_refl _) _) 1)
  have HBB := Lib.hid (show Below w_6.heap.size w_6 w_6.drew from below_drewN (Below.refl _ _) 1)
  have HZA := Lib.hid (show Blk (w_6.alloc (.cells #[.int .i64 x.1, .int .i64 x.2] 23)).drew w_6.heap.size 23 #[.int .i64 x.1, .int .i64 x.2] from (Blk.new w_6 _ _).drewN 1)
  have HSA := Lib.hid (RdI.mv HV_p.out.dr HA.out); have HSB := Lib.hid (RdI.mv HV_p.out.dr HBB.out)
  have HDL := Lib.hid HV_p.out.dl
  have HL1 : Hid (([] : List Id_).length + d_p ≤ 100000) := Lib.hid (by have := HQ_p.out; simp; omega)
  have HL2 : Hid (([] ++ p.deps : List Id_).length + 1 ≤ 100000) := Lib.hid (by have := HQ_p.out; rw [List.nil_append, HDL.out]; omega)
  have HLA : Hid (N ≤ (w_6.alloc (.cells #[.int .i64 x.1, .int .i64 x.2] 23)).drew.heap.size) := Lib.hid (by rw [← hN]; exact HA.out.size)
  have HLB : Hid (N ≤ w_6.drew.heap.size) := Lib.hid (by rw [← hN]; exact HBB.out.size)
  clear hN hm hx hS
  go_upto_region 12 with fail
  go_region_law (first
    | ((with_reducible refine step_ownI (W := (w_6.alloc (.cells #[.int .i64 x.1, .int .i64 x.2] 23)).drew) (base := N) (c := e_p) ?_ (.const (.slice none 0 0)) (.tmp 66) ?_ ?_ ?_ (ownI_nil _ N) HSA.out HDL.out HL1.out HLA.out ?_); rfl; rfl; rfl; rfl; intro v1 u1 ho hg; have hb1 := below_gr hg; have HU1 := Lib.hid (below_mv HA.out hb1); have HO1 := Lib.hid ho; have HS1 := Lib.hid (rdI_lone (HZA.out.below hb1 HZA.out.lt) (HZA.out.below hb1 HZA.out.lt).lt); have HN1 := Lib.hid (Nat.le_trans HLA.out hb1.size); clear hb1 ho hg)
    | ((with_reducible refine step_ownI (W := w_6.drew) (base := N) (c := e_p) ?_ (.const (.slice none 0 0)) (.tmp 66) ?_ ?_ ?_ (ownI_nil _ N) HSB.out HDL.out HL1.out HLB.out ?_); rfl; rfl; rfl; rfl; intro v1 u1 ho hg; have hb0 := below_gr hg; have hbu := below_mv HBB.out hb0; have pu := BP.out.below hbu BP.out.lt; have pu2 := pu.cell 2 rfl; have pul := pu.lt; have qu0 := cellB Q0.out hbu HSD.out; have qu1 := cellB Q1.out hbu HSD.out; have hbx : Below u1.heap.size u1 (u1.alloc (.cells #[.int .i64 x.1, .int .i64 x.2] 23)) := (Below.refl _ _).alloc (Nat.le_refl _) _; have hb1 := hb0.trans (hbx.mono hb0.size); have HU1 := Lib.hid (below_mv HBB.out hb1); have HO1 := Lib.hid (own_gr ho (below_gr_row hbx)); have HS1 := Lib.hid (rdI_lone (Blk.new u1 23 #[.int .i64 x.1, .int .i64 x.2]) (Blk.new u1 23 #[.int .i64 x.1, .int .i64 x.2]).lt); have HN1 := Lib.hid (Nat.le_trans HLB.out hb1.size); clear hb0 hbx hb1 ho hg hbu pu)
    | ((with_reducible refine step_ownI (base := N) (c := 1) ?_ (.tmp 67) (.tmp 76) ?_ ?_ ?_ HO1.out HS1.out ?_ HL2.out HN1.out ?_); rfl; rfl; rfl; rfl; rfl; intro v2 u2 ho hg; have hu2 := HU1.out.grown hg HU1.out.size (fun k e => by rw [HNW.out]; exact ownI_ge HO1.out k e); have bq2 := BQ.out.below hu2 BQ.out.lt; have qc := bq2.cell 2 rfl; have qf := bq2.frozen 2; have hyl := bq2.lt; have HBQ2 := Lib.hid bq2; obtain ⟨A_m, c_m, hv2, hc2, hr2⟩ := rdI_own ho; have HO2 := Lib.hid ho; obtain ⟨n_m, hn⟩ : ∃ n, List.length ([] ++ p.deps ++ [x]) = n := ⟨_, rfl⟩; rw [hn] at hv2; have HN_m := Lib.hid hn; subst hv2; have HU2 := Lib.hid hu2; clear ho hg hn hc2 hr2 bq2 hu2))
  all_goals
    have hyy := HY.out
    have hx2 : Below w_6.heap.size w_6 u2 := HU2.out
    have b9 : Blk (u2.setCell ⟨y, 2, none⟩ (.slice A_m n_m c_m)) y 27 #[.int .i64 p.id.1, .int .i64 p.id.2, .slice A_m n_m c_m, strV p.txt, .slice A_p j c_p] := HBQ2.out.set 2 _
    have hb5 : Below w_4.heap.size w_4 (u2.setCell ⟨y, 2, none⟩ (.slice A_m n_m c_m)) := (below_mv HB5.out hx2).setCell (p := ⟨y, 2, none⟩) (by rw [hyy]; exact Nat.le_refl _) _
    have hbw : Below w.heap.size w (u2.setCell ⟨y, 2, none⟩ (.slice A_m n_m c_m)) := (below_mv HB.out hx2).setCell (p := ⟨y, 2, none⟩) (by rw [← hyy]; exact HW5.out) _
    have hyN : y < N := by rw [← HNW.out]; exact BQ.out.lt
    have ho9 : OwnI (u2.setCell ⟨y, 2, none⟩ (.slice A_m n_m c_m)) N (.slice A_m n_m c_m) ([] ++ p.deps ++ [x]) := by
      have h1 := HO2.out
      have h2 := HN_m.out
      exact own_set h1 hyN 2 _
    obtain ⟨A_9, c_9, hv9, hc9, hr9⟩ := rdI_own ho9
    rw [HN_m.out] at hv9 hc9
    injection hv9 with g1 g2 g3
    subst g1 g3
    have HR9 := Lib.hid hr9; have HC9 := Lib.hid hc9; have B9 := Lib.hid b9; have HB9 := Lib.hid hbw; have HV9 := Lib.hid (HV5.out.mv hb5)
    clear hyy hx2 b9 hb5 hbw hyN ho9 hr9 hc9 g2 qc qf hyl bp_2 q0 q1 hzl
    generalize (u2.setCell ⟨y, 2, none⟩ (.slice A_m n_m c_m)) = w9 at HR9 B9 HB9 HV9 ⊢
    have y0 := B9.out.cell 0 rfl; have y1 := B9.out.cell 1 rfl; have y2 := B9.out.cell 2 rfl; have y3 := B9.out.cell 3 rfl; have y4 := B9.out.cell 4 rfl
    go_wp2_with fail
    refine (MayN A_m n_m c_m A_p j c_p ⟨p.id, p.deps ++ [x], p.txt, p.l.take j⟩ w9 false ⟨HN_m.out, HC9.out, by have h1 := HN_m.out; have h2 := HQ_p.out; rw [List.nil_append, List.length_append, HDL.out] at h1; unfold maxLen; simp at h1; omega, HR9.out, HV9.out.tm, HLT.out, hjc, Nat.le_trans hjn HV9.out.m, rdP_pre HV9.out.r j⟩ HTW.out).mono ?_
    rintro e w10 ⟨rfl, hb⟩
    replace HB9 := Lib.hid (below_mv HB9.out hb)
    go_wp2
    go_ret
    exact ⟨rfl, HB9.out⟩

end PnL
open PnL
open Tx
open Go.ChangeShapes Go.WideShapes Go.ChangeAt

theorem patchDeps_own : ownKnob Try.prog.godebug = none := by kernel_rfl
theorem patchDeps_laidOut : laidOutB Try.prog = true := by kernel_rfl

set_option maxRecDepth 100000 in
theorem patchDeps_lifted (os : Os) (started : os.Started) (H : Type) (enc : TypeId × Value → H) :
    ReturnsInHanded {} Try.checked os 6 .any (Rows.patchDepsSpec.pre6 enc Try.prog Try.f6 Rows.patchDepsRow.domain false) (Rows.patchDepsSpec.post enc Try.prog Try.f6 false true false false) := by
  refine returnsInHanded_of_change (C := Try.checked) patchDeps_own started (by kernel_rfl) Try.func6
    (ChangeSpec.witness6 (enc := enc) (C := Try.checked) false ⟨#[], #[.agg #[.int .i64 0, .int .i64 0, .slice none 0 0, .string ByteArray.empty, .slice none 0 0], .int .i64 0, .int .i64 0], []⟩ 8 (by kernel_rfl) (by kernel_rfl) (by kernel_rfl) (by kernel_rfl)) ?_
  intro W base args ds gs before hval0 hW hcnd _
  have hval : ∀ (j : Nat) t v, Try.f6.params[j]? = some t → args[j]? = some v → Value.okWide Try.prog W .any base t v := hval0
  have hW' := hW
  obtain ⟨p, q, hA0, hV, rfl, hfz, hnd⟩ := hW
  have hA : DataW.TrodAll enc Try.prog W 0 (fun _ => true) true Try.f6.params.toList args.toList ds p := hA0
  rw [Try.params6] at hA hval
  obtain ⟨v0, vs0, d0, ds0, p0, q0, hargs, rfl, rfl, h0, r0⟩ := trodAll_cons hA
  obtain ⟨v1, vs1, d1, ds1, p1, q1, rfl, rfl, rfl, h1, r1⟩ := trodAll_cons r0
  obtain ⟨v2, vs2, d2, ds2, p2, q2, rfl, rfl, rfl, h2, r2⟩ := trodAll_cons r1
  obtain ⟨rfl, rfl, rfl⟩ := trodAll_nil r2
  obtain rfl : args = #[v0, v1, v2] := by cases args; simp_all
  obtain ⟨rfl, rfl⟩ := trodVars_none hV
  have k0 := h0
  have lt0 : ∀ x ∈ p0, x.block < W.heap.size := by obtain ⟨m, hm⟩ := k0; exact DataW.trod_lt m _ _ _ hm
  obtain ⟨a0, n0, c0, b0, m0, e0, l0, rfl, s0⟩ := nm_in (hval 0 27 v0 rfl rfl) h0
  have k1 := h1
  have lt1 : ∀ x ∈ p1, x.block < W.heap.size := by obtain ⟨m, hm⟩ := k1; exact DataW.trod_lt m _ _ _ hm
  obtain ⟨i1, rfl, rfl, rfl, w1⟩ := open_int Try.underlying3 (hval 1 3 v1 rfl rfl) h1
  have k2 := h2
  have lt2 : ∀ x ∈ p2, x.block < W.heap.size := by obtain ⟨m, hm⟩ := k2; exact DataW.trod_lt m _ _ _ hm
  obtain ⟨i2, rfl, rfl, rfl, w2⟩ := open_int Try.underlying3 (hval 2 3 v2 rfl rfl) h2
  clear hA0 hval0
  refine (patchDeps_walk a0 n0 c0 b0 m0 e0 l0 i1 i2 W s0).mono fun e W' ⟨he, bel⟩ => ?_
  subst he
  exact ⟨_, rfl, _, _, _, [], _, [], hW', trodAll_mk1 (shut_bool Try.underlying4 _), (trodAll_cons_mk (Below.trod patchDeps_laidOut (by kernel_rfl) (of_decide_eq_true (by kernel_rfl)) k0 bel lt0) (trodAll_cons_mk (Below.trod patchDeps_laidOut (by kernel_rfl) (of_decide_eq_true (by kernel_rfl)) k1 bel lt1) (trodAll_cons_mk (Below.trod patchDeps_laidOut (by kernel_rfl) (of_decide_eq_true (by kernel_rfl)) k2 bel lt2) trodAll_mk0))), rfl, bel.frame _, fun h => by cases h⟩

/-- The statement. -/
theorem patchDeps_proved : Rows.PatchDepsSaid :=
  OpenClaim.holds_of_wide 6 Try.f6 rfl rfl rfl rfl rfl rfl rfl ⟨rfl, rfl, rfl, rfl, rfl⟩ rfl rfl rfl rfl rfl (by kernel_rfl) Try.func6 (by kernel_rfl)
    (of_decide_eq_true (by kernel_rfl)) (by unfold Func.isWrapper; first | (rw [if_pos (by decide +kernel)]; kernel_rfl) | (rw [if_neg (by decide +kernel)]; exact ⟨rfl, rfl⟩))
    (fun os started H enc _ => patchDeps_lifted os started H enc)

#print axioms patchDeps_proved
end Go.Proofs.Ytcfoodbfapldbaa
