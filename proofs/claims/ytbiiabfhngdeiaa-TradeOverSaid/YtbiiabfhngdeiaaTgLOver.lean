/-
  The statement TradeOver: one that passes all changes a tree, with them behind it, as they do with it behind them; passing changes no Id, Deps or Text, and how many changes each has.
-/
import Derived.Test.YtbiiabfhngdeiaaTgMore
import Derived.Test.YtbiiabfhngdeiaaFlLaw
import Derived.Test.YtbiiabfhngdeiaaPnApply
import Derived.OpenShut
import Derived.ShutString
import Derived.BigQuiet
set_option maxRecDepth 100000
namespace Go.Proofs.Ytbiiabfhngdeiaa
open Go.RowKit
set_option linter.unusedVariables false
set_option linter.unusedSimpArgs false
open Tr Tx Hk Pr Fl Pn Tg
namespace TgL
attribute [local go_sem] eq_id

set_option maxRecDepth 100000 in
set_option maxHeartbeats 8000000 in
theorem tradeOver_walk (A_t : Option Addr) (n_t c_t : Nat) (t : TR) (A_l : Option Addr) (n_l c_l : Nat) (l : List Nm) (D_q : Option Addr) (d_q e_q : Nat) (A_q : Option Addr) (n_q c_q : Nat) (q : Nm) (w : World) (h_t : TreeArg w A_t n_t c_t t) (h_l : NmsArg w A_l n_l c_l l) (z_l : n_l ≤ 1759218604390) (h_q : NV w w.heap.size D_q d_q e_q A_q n_q c_q q) :
    Calls Try.prog 6 #[.slice A_t n_t c_t, .slice A_l n_l c_l, nmV q.id D_q d_q e_q q.txt A_q n_q c_q] w (LawEnd w) := by
  have b0 := (Blk.new w 28 #[.int .i64 q.id.1, .int .i64 q.id.2, .slice D_q d_q e_q, strV q.txt, .slice A_q n_q c_q])
  have hb : Below w.heap.size w (w.alloc (.cells #[.int .i64 q.id.1, .int .i64 q.id.2, .slice D_q d_q e_q, strV q.txt, .slice A_q n_q c_q] 28)) := ((Below.refl w.heap.size w).alloc (by simp; try omega) (.cells #[.int .i64 q.id.1, .int .i64 q.id.2, .slice D_q d_q e_q, strV q.txt, .slice A_q n_q c_q] 28))
  have HV_q := Lib.hid (h_q.mv hb)
  clear h_q
  have HT_t := Lib.hid h_t.rd; have HN_t := Lib.hid h_t.len; have HF_t := Lib.hid h_t.fit; have HC_t := Lib.hid h_t.le; have HK_t := Lib.hid h_t.cap
  clear h_t
  have HR_l := Lib.hid h_l.rd; have HN_l := Lib.hid h_l.len; have HC_l := Lib.hid h_l.cap; have HM_l := Lib.hid h_l.le
  clear h_l
  have HZ_l := Lib.hid z_l; clear z_l
  replace HR_l := Lib.hid (RdN.mv HR_l.out hb); replace HT_t := Lib.hid (HT_t.out.mv hb)
  go_enter Try.func6, Try.ntmps6
  go_upto_region 1 with fail
  generalize (w.alloc (.cells #[.int .i64 q.id.1, .int .i64 q.id.2, .slice D_q d_q e_q, strV q.txt, .slice A_q n_q c_q] 28)) = w_1 at b0 HV_q HR_l HT_t hb ⊢
  obtain ⟨z, hz⟩ : ∃ z, w.heap.size = z := ⟨_, rfl⟩
  rw [hz] at b0 ⊢
  have BQ := Lib.hid b0
  have HZ := Lib.hid hz
  clear b0 hz
  have HB := Lib.hid hb; clear hb
  go_wp2_with fail
  refine (Tg.awake w_1).mono ?_
  rintro e w_2 ⟨rfl, hb⟩
  replace HT_t := Lib.hid (HT_t.out.mv hb)
  replace HR_l := Lib.hid (RdN.mv HR_l.out hb)
  replace BQ := Lib.hid (BQ.out.below hb BQ.out.lt)
  replace HV_q := Lib.hid (HV_q.out.mv hb)
  replace HB := Lib.hid (below_mv HB.out hb)
  clear hb
  go_wp2_with fail
  refine (LightT A_t c_t n_t _ t _ HN_t.out HC_t.out HF_t.out HT_t.out).mono ?_
  rintro e w' ⟨rfl, rfl⟩
  obtain ⟨bt_t, hbl⟩ : ∃ bb, lightT t = bb := ⟨_, rfl⟩
  rw [hbl]
  have HBL_t := Lib.hid hbl; clear hbl
  obtain ⟨bl, hbl⟩ : ∃ b, fewN (l ++ [q]) 9 = b := ⟨_, rfl⟩
  have HBL := Lib.hid hbl; clear hbl
  have bq_0 := BQ.out.cell 0 rfl
  have bq_1 := BQ.out.cell 1 rfl
  have bq_2 := BQ.out.cell 2 rfl
  have bq_3 := BQ.out.cell 3 rfl
  have bq_4 := BQ.out.cell 4 rfl
  have l_2 := BQ.out.lt
  go_upto_region 3 with fail
  obtain ⟨N, hN⟩ : ∃ N, w_2.heap.size = N := ⟨_, rfl⟩
  have HNW := Lib.hid hN
  have HA := Lib.hid (show Below w_2.heap.size w_2 (w_2.alloc (.cells #[.int .i64 q.id.1, .int .i64 q.id.2, .slice D_q d_q e_q, strV q.txt, .slice A_q n_q c_q] 28)).drew from below_drewN ((Below.refl _ _).alloc (Nat.le_refl _) _) 1)
  have HBB := Lib.hid (show Below w_2.heap.size w_2 w_2.drew from below_drewN (Below.refl _ _) 1)
  have HZA := Lib.hid (show Blk (w_2.alloc (.cells #[.int .i64 q.id.1, .int .i64 q.id.2, .slice D_q d_q e_q, strV q.txt, .slice A_q n_q c_q] 28)).drew w_2.heap.size 28 #[.int .i64 q.id.1, .int .i64 q.id.2, .slice D_q d_q e_q, strV q.txt, .slice A_q n_q c_q] from (Blk.new w_2 _ _).drewN 1)
  have HSA : Hid (RdN (w_2.alloc (.cells #[.int .i64 q.id.1, .int .i64 q.id.2, .slice D_q d_q e_q, strV q.txt, .slice A_q n_q c_q] 28)).drew N A_l l) := Lib.hid (by rw [← hN]; exact RdN.below HR_l.out HA.out)
  have HSB : Hid (RdN w_2.drew N A_l l) := Lib.hid (by rw [← hN]; exact RdN.below HR_l.out HBB.out)
  have HVN : Hid (∀ X, Below w_2.heap.size w_2 X → NCells X N [q] [.int .i64 q.id.1, .int .i64 q.id.2, .slice D_q d_q e_q, strV q.txt, .slice A_q n_q c_q]) := Lib.hid (fun X hb => by rw [← hN]; exact NCells.one (HV_q.out.below hb))
  have HL1 : Hid (([] : List Nm).length + n_l ≤ 1759218604440) := Lib.hid (by have := HZ_l.out; simp; omega)
  have HL2 : Hid (([] ++ l : List Nm).length + 1 ≤ 1759218604440) := Lib.hid (by have := HZ_l.out; rw [List.nil_append, HN_l.out]; omega)
  have HY1 : Hid (List.length ([.int .i64 q.id.1, .int .i64 q.id.2, .slice D_q d_q e_q, strV q.txt, .slice A_q n_q c_q] : List Value) = [q].length * 5) := Lib.hid rfl
  have HM1 : Hid ([q].length = 1) := Lib.hid rfl
  have HLE := Lib.hid (Nat.le_refl N)
  have HLA : Hid (N ≤ (w_2.alloc (.cells #[.int .i64 q.id.1, .int .i64 q.id.2, .slice D_q d_q e_q, strV q.txt, .slice A_q n_q c_q] 28)).drew.heap.size) := Lib.hid (by rw [← hN]; exact HA.out.size)
  have HLB : Hid (N ≤ w_2.drew.heap.size) := Lib.hid (by rw [← hN]; exact HBB.out.size)
  have HM9 : Hid (9 ≤ 1000) := Lib.hid (by decide)
  clear hN
  go_cut [9] from 21 (fun s9 wx => s9 = .bool bl ∧ Below w_2.heap.size w_2 wx)
  case first =>
    go_region_law (first
      | ((with_reducible refine step_ownMW (W := (w_2.alloc (.cells #[.int .i64 q.id.1, .int .i64 q.id.2, .slice D_q d_q e_q, strV q.txt, .slice A_q n_q c_q] 28)).drew) (N := N) (base := N) (c := c_l) ?_ (.const (.slice none 0 0)) (.tmp 21) ?_ ?_ ?_ (ownM_nil _ N N) HSA.out HN_l.out HL1.out HLE.out HLA.out ?_); rfl; rfl; rfl; rfl; intro v1 u1 ho hg; have hb1 := below_gr hg; have HU1 := Lib.hid (below_mv HA.out hb1); have HO1 := Lib.hid ho; have HS1 := Lib.hid (one_srcN (x := q) (HZA.out.below hb1 HZA.out.lt)); have HN1 := Lib.hid (Nat.le_trans HLA.out hb1.size); have HC1 := Lib.hid (HVN.out _ HU1.out); clear hb1 ho hg)
      | ((with_reducible refine step_ownMW (W := w_2.drew) (N := N) (base := N) (c := c_l) ?_ (.const (.slice none 0 0)) (.tmp 21) ?_ ?_ ?_ (ownM_nil _ N N) HSB.out HN_l.out HL1.out HLE.out HLB.out ?_); rfl; rfl; rfl; rfl; intro v1 u1 ho hg; have hb0 := below_gr hg; have hbu := below_mv HBB.out hb0; have pu := BQ.out.below hbu BQ.out.lt; have pu0 := pu.cell 0 rfl; have pu1 := pu.cell 1 rfl; have pu2 := pu.cell 2 rfl; have pu3 := pu.cell 3 rfl; have pu4 := pu.cell 4 rfl; have pul := pu.lt; have hbx : Below u1.heap.size u1 (u1.alloc (.cells #[.int .i64 q.id.1, .int .i64 q.id.2, .slice D_q d_q e_q, strV q.txt, .slice A_q n_q c_q] 28)) := (Below.refl _ _).alloc (Nat.le_refl _) _; have hb1 := hb0.trans (hbx.mono hb0.size); have HU1 := Lib.hid (below_mv HBB.out hb1); have HN1 := Lib.hid (Nat.le_trans HLB.out hb1.size); have HO1 := Lib.hid (OwnM.below ho (Nat.le_trans HLB.out hb0.size) hbx); have HS1 := Lib.hid (one_srcN (x := q) (Blk.new u1 28 #[.int .i64 q.id.1, .int .i64 q.id.2, .slice D_q d_q e_q, strV q.txt, .slice A_q n_q c_q])); have HC1 := Lib.hid (HVN.out _ HU1.out); clear hb0 hbx hb1 ho hg hbu pu)
      | ((with_reducible refine step_ownMC (N := N) (base := N) (c := 1) ?_ (.tmp 22) (.tmp 24) ?_ ?_ ?_ HO1.out HC1.out HY1.out HS1.out HM1.out Nat.zero_lt_one HL2.out HLE.out HN1.out ?_); rfl; rfl; rfl; rfl; intro v2 u2 ho hg; have hu2 := HU1.out.grown hg HU1.out.size (fun k e => by rw [HNW.out]; exact ownM_ge HO1.out k e); have HU2 := Lib.hid hu2; obtain ⟨A_j, c_j, hv2, hc2, hr2⟩ := rdN_own ho (by rw [← HNW.out]; exact hu2.size); obtain ⟨n_j, hn⟩ : ∃ n, List.length ([] ++ l ++ [q]) = n := ⟨_, rfl⟩; rw [hn] at hv2 hc2; subst hv2; have hle : n_j ≤ maxLen := joint_le hn HN_l.out HZ_l.out; have HFW := Lib.hid (show Calls Try.prog 9 #[.slice A_j n_j c_j, .int .i64 9] u2 (BoolEnd u2 bl) from FewN A_j n_j c_j 9 (l ++ [q]) u2 bl HM9.out ⟨hn, hc2, hle, hr2⟩ HBL.out); clear ho hg hn hc2 hr2 hu2 hle)
      | (go_simp; go_at_call 9; (with_reducible refine HFW.out.mono ?_); rintro e u3 ⟨rfl, hb3⟩; have HU3 := Lib.hid (below_mv HU2.out hb3); clear hb3))
    all_goals (try go_wp2_with fail)
    all_goals go_meet
    all_goals exact ⟨rfl, HU3.out⟩
  case rest =>
    obtain ⟨rfl, hb⟩ := hcut
    clear HNW HA HBB HZA HSA HSB HVN HL1 HL2 HY1 HM1 HLE HLA HLB bq_0 bq_1 bq_2 bq_3 bq_4 l_2
    replace HT_t := Lib.hid (HT_t.out.mv hb)
    replace HR_l := Lib.hid (RdN.mv HR_l.out hb)
    replace BQ := Lib.hid (BQ.out.below hb BQ.out.lt)
    replace HV_q := Lib.hid (HV_q.out.mv hb)
    replace HB := Lib.hid (below_mv HB.out hb)
    clear hb
    cases bt_t with
    | false =>
      go_wp2
      go_ret
      exact ⟨rfl, HB.out⟩
    | true =>
    have HS_t := Lib.hid (lightT_small HBL_t.out).2; have HM40_t := Lib.hid (most_light HBL_t.out); clear HF_t HC_t
    cases bl with
    | false =>
      go_wp2
      go_ret
      exact ⟨rfl, HB.out⟩
    | true =>
    have HAL := Lib.hid (few_all HBL.out)
    have HL_l := Lib.hid (fun p (hp : p ∈ l) => HAL.out p (List.mem_append_left _ hp))
    have HQ_l : Hid (n_l ≤ 8) := Lib.hid (by have h1 := fewN_len HBL.out; rw [List.length_append, List.length_singleton, HN_l.out] at h1; omega)
    have HL_q := Lib.hid (HAL.out q (by simp))
    have HN_q : Hid (n_q ≤ 10 ∧ d_q ≤ 100) := Lib.hid (by
      have h1 := HL_q.out.2
      rw [HV_q.out.l, HV_q.out.dl] at h1
      exact h1)
    obtain ⟨m, hm⟩ : ∃ b, mayT t = b := ⟨_, rfl⟩
    have HM := Lib.hid hm; clear hm
    go_wp2_with fail
    refine (MayC (b := m) HN_t.out HS_t.out HT_t.out HM.out).mono ?_
    rintro e w_3 ⟨rfl, hb⟩
    replace HT_t := Lib.hid (HT_t.out.mv hb)
    replace HR_l := Lib.hid (RdN.mv HR_l.out hb)
    replace BQ := Lib.hid (BQ.out.below hb BQ.out.lt)
    replace HV_q := Lib.hid (HV_q.out.mv hb)
    replace HB := Lib.hid (below_mv HB.out hb)
    clear hb
    cases m with
    | false =>
      go_wp2
      go_ret
      exact ⟨rfl, HB.out⟩
    | true =>
    obtain ⟨x, ys, hoo⟩ : ∃ x y, outO (overN l q) = (x, y) := ⟨_, _, rfl⟩
    obtain ⟨bv, hbv⟩ : ∃ b, (overN l q).isSome = b := ⟨_, rfl⟩
    have HLO := Lib.hid (over_lit hoo hbv HL_l.out HL_q.out)
    have HOO := Lib.hid hoo; have HBV := Lib.hid hbv; clear hoo hbv
    have bq_0 := BQ.out.cell 0 rfl
    have bq_1 := BQ.out.cell 1 rfl
    have bq_2 := BQ.out.cell 2 rfl
    have bq_3 := BQ.out.cell 3 rfl
    have bq_4 := BQ.out.cell 4 rfl
    have l_2 := BQ.out.lt
    go_wp2_with fail
    clear bq_0 bq_1 bq_2 bq_3 bq_4 l_2
    refine (OverN A_l n_l c_l l D_q d_q e_q A_q n_q c_q q w_3 (by have := HQ_l.out; omega) (by have := HN_q.out; omega) (by have := HN_q.out; omega) HL_q.out.1 HR_l.out HN_l.out (over_all HL_l.out) HV_q.out x ys bv HOO.out HBV.out).mono ?_
    rintro e w_4 ⟨D_x, d_x, e_x, A_x, n_x, c_x, vr, rfl, h1, h2, hb⟩
    obtain ⟨A_m, c_m, rfl, hcm, hrm⟩ := rdN_ownT h2 (fun b hb => hb.1.2)
    obtain ⟨n_m, hnm⟩ : ∃ n, ys.length = n := ⟨_, rfl⟩
    rw [hnm] at hcm h1 h2 ⊢
    have HN_m := Lib.hid hnm; have HC_m := Lib.hid hcm
    have HV_x := Lib.hid (h1.mono fun b hb => since_lt b hb.1).nv; have HR_m := Lib.hid hrm
    clear h1 h2 hcm hrm hnm
    replace HT_t := Lib.hid (HT_t.out.mv hb)
    replace HR_l := Lib.hid (RdN.mv HR_l.out hb)
    replace BQ := Lib.hid (BQ.out.below hb BQ.out.lt)
    replace HV_q := Lib.hid (HV_q.out.mv hb)
    replace HB := Lib.hid (below_mv HB.out hb)
    clear hb
    cases bv with
    | false =>
      have hnone : overN l q = none := by
        have h := HBV.out
        cases ho : overN l q with
        | none => rfl
        | some z => rw [ho] at h; cases h
      obtain rfl : ys = [] := by
        have h := HOO.out
        rw [hnone] at h
        injection h with _ h
        exact h.symm
      obtain rfl : 0 = n_m := HN_m.out
      go_wp2
      go_ret
      exact ⟨rfl, HB.out.alloc HB.out.size _⟩
    | true =>
      have HOV : Hid (overN l q = some (x, ys)) := Lib.hid (by
        have h := HBV.out; have ho := HOO.out
        cases h1 : overN l q with
        | none => rw [h1] at h; cases h
        | some z => rw [h1] at ho; exact congrArg some ho)
      have HKP := Lib.hid (overN_keeps HOV.out)
      obtain rfl : n_l = n_m := by rw [← HN_l.out, ← HN_m.out]; exact HKP.out.2.1.symm
      obtain rfl : n_q = n_x := by rw [← HV_q.out.l, ← HV_x.out.l]; exact HKP.out.1.2.2.2.symm
      obtain rfl : d_q = d_x := by rw [← HV_q.out.dl, ← HV_x.out.dl, HKP.out.1.2.1]
      go_upto_region 7 with fail
      have b0 := Blk.new w_4 28 #[.int .i64 x.id.1, .int .i64 x.id.2, .slice D_x d_q e_x, strV x.txt, .slice A_x n_q c_x]
      have hb : Below w_4.heap.size w_4 (w_4.alloc (.cells #[.int .i64 x.id.1, .int .i64 x.id.2, .slice D_x d_q e_x, strV x.txt, .slice A_x n_q c_x] 28)) := (Below.refl _ _).alloc (Nat.le_refl _) _
      generalize (w_4.alloc (.cells #[.int .i64 x.id.1, .int .i64 x.id.2, .slice D_x d_q e_x, strV x.txt, .slice A_x n_q c_x] 28)) = w_5 at b0 hb ⊢
      obtain ⟨z_w_5, hz⟩ : ∃ z, w_4.heap.size = z := ⟨_, rfl⟩
      rw [hz] at b0 ⊢
      clear hz
      replace HT_t := Lib.hid (HT_t.out.mv hb)
      replace HR_l := Lib.hid (RdN.mv HR_l.out hb)
      replace BQ := Lib.hid (BQ.out.below hb BQ.out.lt)
      replace HV_q := Lib.hid (HV_q.out.mv hb)
      replace HV_x := Lib.hid (HV_x.out.mv hb)
      replace HR_m := Lib.hid (RdN.mv HR_m.out hb)
      replace HB := Lib.hid (below_mv HB.out hb)
      clear hb
      have BX := Lib.hid b0
      clear b0
      have BX2 := BX.out
      rw [HKP.out.1.1, HKP.out.1.2.2.1] at BX2
      clear BX
      have BX := Lib.hid BX2
      clear BX2
      have bx_0 := BX.out.cell 0 rfl
      have bx_1 := BX.out.cell 1 rfl
      have bx_3 := BX.out.cell 3 rfl
      have bx_4 := BX.out.cell 4 rfl
      have bq_0 := BQ.out.cell 0 rfl
      have bq_1 := BQ.out.cell 1 rfl
      have bq_3 := BQ.out.cell 3 rfl
      have bq_4 := BQ.out.cell 4 rfl
      have l_1 := BX.out.lt; have l_2 := BQ.out.lt
      go_upto_region 12 with fail
      clear bx_0 bx_1 bx_3 bx_4 bq_0 bq_1 bq_3 bq_4 l_1 l_2
      go_loopw [13] (fun i wr => ∃ k : Nat, k ≤ n_l ∧ i = .int .i64 (k : Int) ∧ Below w_5.heap.size w_5 wr) (fun i _ => n_l - (intOf i).toNat)
      case atStart => exact ⟨0, Nat.zero_le _, rfl, Below.refl _ _⟩
      case round =>
        obtain ⟨k, hk, rfl, hb⟩ := hrel
        have HBR := Lib.hid hb
        replace HT_t := Lib.hid (HT_t.out.mv hb)
        replace HR_l := Lib.hid (RdN.mv HR_l.out hb)
        replace BQ := Lib.hid (BQ.out.below hb BQ.out.lt)
        replace HV_q := Lib.hid (HV_q.out.mv hb)
        replace HV_x := Lib.hid (HV_x.out.mv hb)
        replace HR_m := Lib.hid (RdN.mv HR_m.out hb)
        replace BX := Lib.hid (BX.out.below hb BX.out.lt)
        replace HB := Lib.hid (below_mv HB.out hb)
        clear hb
        have hl8 := HQ_l.out
        by_cases hlt : k < n_l
        case pos =>
          have hki : (k : Int) < (n_l : Int) := by omega
          obtain ⟨a, p, D, i, j, E, mp, d, ha, _, hp, c0, c1, c2, c3, c4, hvp⟩ := RdN.elem HR_l.out (k := k) (by rw [HN_l.out]; exact hlt)
          obtain ⟨a', y, D', i', j', E', m', d', ha', _, hy, g0, g1, g2, g3, g4, hvy⟩ := RdN.elem HR_m.out (k := k) (by rw [HN_m.out]; exact hlt)
          obtain ⟨y', hy', k1, k2, k3, k4⟩ := HKP.out.2.2 k p hp
          obtain rfl : y = y' := by rw [hy] at hy'; exact Option.some.inj hy'
          rw [k1] at g0 g1
          rw [k3] at g3
          obtain rfl : i = i' := by rw [← hvp.dl, ← hvy.dl, k2]
          obtain rfl : mp = m' := by rw [← hvp.l, ← hvy.l, k4]
          subst ha ha'
          clear hvp hvy hp hy hy' k1 k2 k3 k4
          go_wp2
          go_quiet (fail)
          go_wp2
          refine ⟨⟨k + 1, by omega, by go_num, below_drewN HBR.out _⟩, by simp [intOf]; omega⟩
        have hki : ¬ (k : Int) < (n_l : Int) := by omega
        clear HBR
        obtain ⟨⟨r, u⟩, hD⟩ : ∃ D, doN t ([] ++ l ++ [q]) = D := ⟨_, rfl⟩
        have HD_u := Lib.hid hD; clear hD
        have HTA := Lib.hid (joint_all HL_l.out HL_q.out (show l.length ≤ 8 by rw [HN_l.out]; exact HQ_l.out))
        have bq_0 := BQ.out.cell 0 rfl
        have bq_1 := BQ.out.cell 1 rfl
        have bq_2 := BQ.out.cell 2 rfl
        have bq_3 := BQ.out.cell 3 rfl
        have bq_4 := BQ.out.cell 4 rfl
        have l_2 := BQ.out.lt
        go_upto_region 16 with fail
        obtain ⟨N, hN⟩ : ∃ N, wr.heap.size = N := ⟨_, rfl⟩
        have HNW := Lib.hid hN
        have HA := Lib.hid (show Below wr.heap.size wr (wr.alloc (.cells #[.int .i64 q.id.1, .int .i64 q.id.2, .slice D_q d_q e_q, strV q.txt, .slice A_q n_q c_q] 28)).drew from below_drewN ((Below.refl _ _).alloc (Nat.le_refl _) _) 1)
        have HBB := Lib.hid (show Below wr.heap.size wr wr.drew from below_drewN (Below.refl _ _) 1)
        have HZA := Lib.hid (show Blk (wr.alloc (.cells #[.int .i64 q.id.1, .int .i64 q.id.2, .slice D_q d_q e_q, strV q.txt, .slice A_q n_q c_q] 28)).drew wr.heap.size 28 #[.int .i64 q.id.1, .int .i64 q.id.2, .slice D_q d_q e_q, strV q.txt, .slice A_q n_q c_q] from (Blk.new wr _ _).drewN 1)
        have HSA : Hid (RdN (wr.alloc (.cells #[.int .i64 q.id.1, .int .i64 q.id.2, .slice D_q d_q e_q, strV q.txt, .slice A_q n_q c_q] 28)).drew N A_l l) := Lib.hid (by rw [← hN]; exact RdN.below HR_l.out HA.out)
        have HSB : Hid (RdN wr.drew N A_l l) := Lib.hid (by rw [← hN]; exact RdN.below HR_l.out HBB.out)
        have HVN : Hid (∀ X, Below wr.heap.size wr X → NCells X N [q] [.int .i64 q.id.1, .int .i64 q.id.2, .slice D_q d_q e_q, strV q.txt, .slice A_q n_q c_q]) := Lib.hid (fun X hb => by rw [← hN]; exact NCells.one (HV_q.out.below hb))
        have HL1 : Hid (([] : List Nm).length + n_l ≤ 1759218604440) := Lib.hid (by have := HZ_l.out; simp; omega)
        have HL2 : Hid (([] ++ l : List Nm).length + 1 ≤ 1759218604440) := Lib.hid (by have := HZ_l.out; rw [List.nil_append, HN_l.out]; omega)
        have HY1 : Hid (List.length ([.int .i64 q.id.1, .int .i64 q.id.2, .slice D_q d_q e_q, strV q.txt, .slice A_q n_q c_q] : List Value) = [q].length * 5) := Lib.hid rfl
        have HM1 : Hid ([q].length = 1) := Lib.hid rfl
        have HLE := Lib.hid (Nat.le_refl N)
        have HLA : Hid (N ≤ (wr.alloc (.cells #[.int .i64 q.id.1, .int .i64 q.id.2, .slice D_q d_q e_q, strV q.txt, .slice A_q n_q c_q] 28)).drew.heap.size) := Lib.hid (by rw [← hN]; exact HA.out.size)
        have HLB : Hid (N ≤ wr.drew.heap.size) := Lib.hid (by rw [← hN]; exact HBB.out.size)
        have PF : Hid (∀ (X : World) A n c, Below wr.heap.size wr X → List.length ([] ++ l ++ [q]) = n → RdN X X.heap.size A ([] ++ l ++ [q]) → Calls Try.prog 18 #[.slice A_t n_t c_t, .slice A n c] X (DoEnd X (r, u))) := Lib.hid (fun X A n c hb hn hr => ApplyN 40 300 A_t n_t c_t A n c t ([] ++ l ++ [q]) X (r, u) HM40_t.out (by decide) (by decide) HN_t.out hn (joint_len hn HN_l.out HQ_l.out) HTA.out.1 HTA.out.2 (RdT.mv HT_t.out hb) hr HD_u.out)
        clear hN
        go_cut [14, 15] from 143 (fun s14 s15 wx => ∃ A n c, s14 = .slice A n c ∧ s15 = .int .i64 r ∧ u.length = n ∧ RdT wx wx.heap.size A u ∧ Below wr.heap.size wr wx)
        case first =>
          go_region_law (first
            | ((with_reducible refine step_ownMW (W := (wr.alloc (.cells #[.int .i64 q.id.1, .int .i64 q.id.2, .slice D_q d_q e_q, strV q.txt, .slice A_q n_q c_q] 28)).drew) (N := N) (base := N) (c := c_l) ?_ (.const (.slice none 0 0)) (.tmp 145) ?_ ?_ ?_ (ownM_nil _ N N) HSA.out HN_l.out HL1.out HLE.out HLA.out ?_); rfl; rfl; rfl; rfl; intro v1 u1 ho hg; have hb1 := below_gr hg; have HU1 := Lib.hid (below_mv HA.out hb1); have HO1 := Lib.hid ho; have HS1 := Lib.hid (one_srcN (x := q) (HZA.out.below hb1 HZA.out.lt)); have HN1 := Lib.hid (Nat.le_trans HLA.out hb1.size); have HC1 := Lib.hid (HVN.out _ HU1.out); clear hb1 ho hg)
            | ((with_reducible refine step_ownMW (W := wr.drew) (N := N) (base := N) (c := c_l) ?_ (.const (.slice none 0 0)) (.tmp 145) ?_ ?_ ?_ (ownM_nil _ N N) HSB.out HN_l.out HL1.out HLE.out HLB.out ?_); rfl; rfl; rfl; rfl; intro v1 u1 ho hg; have hb0 := below_gr hg; have hbu := below_mv HBB.out hb0; have pu := BQ.out.below hbu BQ.out.lt; have pu0 := pu.cell 0 rfl; have pu1 := pu.cell 1 rfl; have pu2 := pu.cell 2 rfl; have pu3 := pu.cell 3 rfl; have pu4 := pu.cell 4 rfl; have pul := pu.lt; have hbx : Below u1.heap.size u1 (u1.alloc (.cells #[.int .i64 q.id.1, .int .i64 q.id.2, .slice D_q d_q e_q, strV q.txt, .slice A_q n_q c_q] 28)) := (Below.refl _ _).alloc (Nat.le_refl _) _; have hb1 := hb0.trans (hbx.mono hb0.size); have HU1 := Lib.hid (below_mv HBB.out hb1); have HN1 := Lib.hid (Nat.le_trans HLB.out hb1.size); have HO1 := Lib.hid (OwnM.below ho (Nat.le_trans HLB.out hb0.size) hbx); have HS1 := Lib.hid (one_srcN (x := q) (Blk.new u1 28 #[.int .i64 q.id.1, .int .i64 q.id.2, .slice D_q d_q e_q, strV q.txt, .slice A_q n_q c_q])); have HC1 := Lib.hid (HVN.out _ HU1.out); clear hb0 hbx hb1 ho hg hbu pu)
            | ((with_reducible refine step_ownMC (N := N) (base := N) (c := 1) ?_ (.tmp 146) (.tmp 148) ?_ ?_ ?_ HO1.out HC1.out HY1.out HS1.out HM1.out Nat.zero_lt_one HL2.out HLE.out HN1.out ?_); rfl; rfl; rfl; rfl; intro v2 u2 ho hg; have hu2 := HU1.out.grown hg HU1.out.size (fun k e => by rw [HNW.out]; exact ownM_ge HO1.out k e); have HU2 := Lib.hid hu2; obtain ⟨A_j, c_j, hv2, hc2, hr2⟩ := rdN_own ho (by rw [← HNW.out]; exact hu2.size); obtain ⟨n_j, hn⟩ : ∃ n, List.length ([] ++ l ++ [q]) = n := ⟨_, rfl⟩; rw [hn] at hv2 hc2; subst hv2; have hle : n_j ≤ maxLen := joint_le hn HN_l.out HZ_l.out; have HRJ := Lib.hid hr2; have HNJ := Lib.hid hn; clear ho hg hn hc2 hr2 hu2 hle)
            | (go_simp; go_at_call 18; (with_reducible refine (PF.out u2 A_j n_j c_j HU2.out HNJ.out HRJ.out).mono ?_); rintro e u3 ⟨A_u, n_u, c_u, rfl, hcu, hnu, hru, hb3⟩; have HU3 := Lib.hid (below_mv HU2.out hb3); have HNU := Lib.hid hnu; have HRU := Lib.hid hru; clear hb3 hcu hnu hru))
          all_goals (try go_wp2_with fail)
          all_goals go_meet
          all_goals exact ⟨_, _, _, rfl, rfl, HNU.out, HRU.out, HU3.out⟩
        case rest =>
          obtain ⟨A_u, n_u, c_u, rfl, rfl, hnu, hru, hb⟩ := hcut
          clear HNW HA HBB HZA HSA HSB HVN HL1 HL2 HY1 HM1 HLE HLA HLB bq_0 bq_1 bq_2 bq_3 bq_4 l_2
          replace HT_t := Lib.hid (HT_t.out.mv hb)
          replace HR_l := Lib.hid (RdN.mv HR_l.out hb)
          replace BQ := Lib.hid (BQ.out.below hb BQ.out.lt)
          replace HV_q := Lib.hid (HV_q.out.mv hb)
          replace HV_x := Lib.hid (HV_x.out.mv hb)
          replace HR_m := Lib.hid (RdN.mv HR_m.out hb)
          replace BX := Lib.hid (BX.out.below hb BX.out.lt)
          replace HB := Lib.hid (below_mv HB.out hb)
          clear hb
          have HN_u := Lib.hid hnu; have HT_u := Lib.hid hru
          clear hnu hru
          have HS_u := Lib.hid (smallF (r := r) HM40_t.out (by have := HTA.out.1; omega) (by have := HTA.out.1; omega) HTA.out.2 HD_u.out)
          by_cases hr : r = 0
          case neg =>
            have e2 : (r != 0) = true := by rw [bne_iff_ne]; exact hr
            go_wp2
            go_ret
            exact ⟨rfl, HB.out⟩
          subst hr
          obtain ⟨v, hv⟩ : ∃ v, u = v := ⟨_, rfl⟩
          have HUV := Lib.hid hv
          have HDV : Hid (doN t ([x] ++ ys) = (0, v)) := Lib.hid (by rw [← hv]; exact overN_does (mayT_up HM.out) HOV.out HD_u.out)
          clear hv
          have HTX := Lib.hid (front_all HLO.out.1 HLO.out.2 (show ys.length ≤ 8 by rw [HN_m.out]; exact HQ_l.out))
          have bx_0 := BX.out.cell 0 rfl
          have bx_1 := BX.out.cell 1 rfl
          have bx_2 := BX.out.cell 2 rfl
          have bx_3 := BX.out.cell 3 rfl
          have bx_4 := BX.out.cell 4 rfl
          have l_1 := BX.out.lt
          go_upto_region 19 with fail
          obtain ⟨N, hN⟩ : ∃ N, wc.heap.size = N := ⟨_, rfl⟩
          have HNW := Lib.hid hN
          have HA := Lib.hid (show Below wc.heap.size wc (wc.alloc (.cells #[.int .i64 q.id.1, .int .i64 q.id.2, .slice D_x d_q e_x, strV q.txt, .slice A_x n_q c_x] 28)) from (Below.refl _ _).alloc (Nat.le_refl _) _)
          have HSA : Hid (RdN (wc.alloc (.cells #[.int .i64 q.id.1, .int .i64 q.id.2, .slice D_x d_q e_x, strV q.txt, .slice A_x n_q c_x] 28)) N A_m ys) := Lib.hid (by rw [← hN]; exact RdN.below HR_m.out HA.out)
          have HLA : Hid (N ≤ (wc.alloc (.cells #[.int .i64 q.id.1, .int .i64 q.id.2, .slice D_x d_q e_x, strV q.txt, .slice A_x n_q c_x] 28)).heap.size) := Lib.hid (by rw [← hN]; exact HA.out.size)
          have HLX : Hid ([x].length + n_l ≤ 100000) := Lib.hid (by have := HQ_l.out; rw [List.length_singleton]; omega)
          have HXN : Hid (NCells (wc.alloc (.cells #[.int .i64 q.id.1, .int .i64 q.id.2, .slice D_x d_q e_x, strV q.txt, .slice A_x n_q c_x] 28)) N [x] [.int .i64 q.id.1, .int .i64 q.id.2, .slice D_x d_q e_x, strV q.txt, .slice A_x n_q c_x]) := Lib.hid (by
            have hv := HV_x.out.below HA.out
            have h := NCells.one hv
            rw [HKP.out.1.1, HKP.out.1.2.2.1] at h
            rw [← hN]
            exact h)
          have HOX : Hid (OwnM (wc.alloc (.cells #[.int .i64 q.id.1, .int .i64 q.id.2, .slice D_x d_q e_x, strV q.txt, .slice A_x n_q c_x] 28)) N N (.slice (some ⟨wc.heap.size, 0, none⟩) 1 1) [x]) := Lib.hid ⟨_, World.ownsRow_lit (base := N) (e := 28) (size := 5) wc #[.int .i64 q.id.1, .int .i64 q.id.2, .slice D_x d_q e_x, strV q.txt, .slice A_x n_q c_x] 1 (by rw [hN]; exact Nat.le_refl _) (by decide) rfl, HXN.out⟩
          clear hN
          go_wp2_with (at_builtin; refine wpList_ownM rfl (.tmp 158) (.tmp 159) rfl N N n_l c_m (.slice (some ⟨wc.heap.size, 0, none⟩) 1 1) A_m [x] ys rfl rfl HOX.out HSA.out HN_m.out HLX.out (Nat.le_refl _) HLA.out ?_; intro v2 wd ho hg)
          have hb := HA.out.grown hg HA.out.size (fun k e => by rw [HNW.out]; exact ownM_ge HOX.out k e)
          obtain ⟨A_j, c_j, hv2, hc2, hr2⟩ := rdN_own ho (by rw [← HNW.out]; exact hb.size)
          obtain ⟨n_j, hn⟩ : ∃ n, List.length ([x] ++ ys) = n := ⟨_, rfl⟩
          rw [hn] at hv2 hc2
          subst hv2
          have HR_j := Lib.hid hr2; have HN_j := Lib.hid hn
          clear ho hg hn hc2 hr2 HNW HA HSA HLA HLX HXN HOX bx_0 bx_1 bx_2 bx_3 bx_4 l_1
          replace HT_t := Lib.hid (HT_t.out.mv hb)
          replace HR_l := Lib.hid (RdN.mv HR_l.out hb)
          replace BQ := Lib.hid (BQ.out.below hb BQ.out.lt)
          replace HV_q := Lib.hid (HV_q.out.mv hb)
          replace HV_x := Lib.hid (HV_x.out.mv hb)
          replace HR_m := Lib.hid (RdN.mv HR_m.out hb)
          replace BX := Lib.hid (BX.out.below hb BX.out.lt)
          replace HT_u := Lib.hid (HT_u.out.mv hb)
          replace HB := Lib.hid (below_mv HB.out hb)
          clear hb
          refine (ApplyN 40 300 A_t n_t c_t A_j n_j c_j t ([x] ++ ys) wd (0, v) HM40_t.out (by decide) (by decide) HN_t.out HN_j.out (front_len HN_j.out HN_m.out HQ_l.out) HTX.out.1 HTX.out.2 HT_t.out HR_j.out HDV.out).mono ?_
          rintro e w_7 ⟨A_v, n_v, c_v, rfl, hc, hn, hr, hb⟩
          replace HT_t := Lib.hid (HT_t.out.mv hb)
          replace HR_l := Lib.hid (RdN.mv HR_l.out hb)
          replace BQ := Lib.hid (BQ.out.below hb BQ.out.lt)
          replace HV_q := Lib.hid (HV_q.out.mv hb)
          replace HV_x := Lib.hid (HV_x.out.mv hb)
          replace HR_m := Lib.hid (RdN.mv HR_m.out hb)
          replace BX := Lib.hid (BX.out.below hb BX.out.lt)
          replace HT_u := Lib.hid (HT_u.out.mv hb)
          replace HR_j := Lib.hid (RdN.mv HR_j.out hb)
          replace HB := Lib.hid (below_mv HB.out hb)
          clear hb
          have HT_v := Lib.hid hr; have HN_v := Lib.hid (show List.length _ = n_v from hn); clear hr hc hn
          obtain rfl := HUV.out
          go_wp2_with fail
          refine (SameC (b := true) HN_u.out HN_v.out HS_u.out HT_u.out HT_v.out (decide_eq_true rfl)).mono ?_
          rintro e w_8 ⟨rfl, hb⟩
          replace HT_t := Lib.hid (HT_t.out.mv hb)
          replace HR_l := Lib.hid (RdN.mv HR_l.out hb)
          replace BQ := Lib.hid (BQ.out.below hb BQ.out.lt)
          replace HV_q := Lib.hid (HV_q.out.mv hb)
          replace HV_x := Lib.hid (HV_x.out.mv hb)
          replace HR_m := Lib.hid (RdN.mv HR_m.out hb)
          replace BX := Lib.hid (BX.out.below hb BX.out.lt)
          replace HT_u := Lib.hid (HT_u.out.mv hb)
          replace HR_j := Lib.hid (RdN.mv HR_j.out hb)
          replace HT_v := Lib.hid (HT_v.out.mv hb)
          replace HB := Lib.hid (below_mv HB.out hb)
          clear hb
          go_wp2
          go_ret
          exact ⟨rfl, HB.out⟩

end TgL
open TgL
open Tx
open Go.ChangeShapes Go.WideShapes Go.ChangeAt

theorem tradeOver_own : ownKnob Try.prog.godebug = none := by kernel_rfl
theorem tradeOver_laidOut : laidOutB Try.prog = true := by kernel_rfl

set_option maxRecDepth 100000 in
theorem tradeOver_lifted (os : Os) (started : os.Started) (H : Type) (enc : TypeId × Value → H) :
    ReturnsInHanded {} Try.checked os 6 .any (Rows.tradeOverSpec.pre6 enc Try.prog Try.f6 Rows.tradeOverRow.domain false) (Rows.tradeOverSpec.post enc Try.prog Try.f6 false true false false) := by
  refine returnsInHanded_of_change_sized (C := Try.checked) tradeOver_own started (by kernel_rfl) Try.func6
    (ChangeSpec.witness6 (enc := enc) (C := Try.checked) false ⟨#[], #[.slice none 0 0, .slice none 0 0, .agg #[.int .i64 0, .int .i64 0, .slice none 0 0, .string ByteArray.empty, .slice none 0 0]], []⟩ 8 (by kernel_rfl) (by kernel_rfl) (by kernel_rfl) (by kernel_rfl)) ?_
  intro W base args ds gs before hval0 hW hcnd hsz0 _
  have hval : ∀ (j : Nat) t v, Try.f6.params[j]? = some t → args[j]? = some v → Value.okWide Try.prog W .any base t v := hval0
  have hsz : (DataW.weightsEach Try.prog (Try.f6.params.toList ++ Rows.tradeOverSpec.plain.varTypes Try.prog) (ds ++ gs)).all (· ≤ reachBytes) = true := hsz0
  have hW' := hW
  obtain ⟨p, q, hA0, hV, rfl, hfz, hnd⟩ := hW
  have hA : DataW.TrodAll enc Try.prog W 0 (fun _ => true) true Try.f6.params.toList args.toList ds p := hA0
  rw [Try.params6] at hA hval hsz
  obtain ⟨v0, vs0, d0, ds0, p0, q0, hargs, rfl, rfl, h0, r0⟩ := trodAll_cons hA
  obtain ⟨v1, vs1, d1, ds1, p1, q1, rfl, rfl, rfl, h1, r1⟩ := trodAll_cons r0
  obtain ⟨v2, vs2, d2, ds2, p2, q2, rfl, rfl, rfl, h2, r2⟩ := trodAll_cons r1
  obtain ⟨rfl, rfl, rfl⟩ := trodAll_nil r2
  obtain rfl : args = #[v0, v1, v2] := by cases args; simp_all
  obtain ⟨rfl, rfl⟩ := trodVars_none hV
  obtain ⟨a0, n0, c0, rfl⟩ := okWide_slice Try.underlying39 (hval 0 39 v0 rfl rfl)
  have k0 := h0
  have lt0 : ∀ x ∈ p0, x.block < W.heap.size := by obtain ⟨m, hm⟩ := k0; exact DataW.trod_lt m _ _ _ hm
  obtain ⟨l0, s0⟩ : ∃ l, TreeArg W a0 n0 c0 l := by
    obtain ⟨fuel, hf⟩ := h0
    exact tree_in hf (by simp [Value.cells])
  obtain ⟨a1, n1, c1, rfl⟩ := okWide_slice Try.underlying22 (hval 1 22 v1 rfl rfl)
  have k1 := h1
  have lt1 : ∀ x ∈ p1, x.block < W.heap.size := by obtain ⟨m, hm⟩ := k1; exact DataW.trod_lt m _ _ _ hm
  obtain ⟨l1, s1, z1⟩ : ∃ l, NmsArg W a1 n1 c1 l ∧ n1 ≤ 1759218604390 := by
    obtain ⟨fuel, hf⟩ := h1
    exact nms_wide hf (by simp [Value.cells]) (fun k hk => by have := List.all_eq_true.1 hsz _ (DataW.weights_mem_each (j := 1) rfl rfl k hk); simpa using this)
  have k2 := h2
  have lt2 : ∀ x ∈ p2, x.block < W.heap.size := by obtain ⟨m, hm⟩ := k2; exact DataW.trod_lt m _ _ _ hm
  obtain ⟨a2, n2, c2, b2, m2, e2, l2, rfl, s2⟩ := nm_in (hval 2 28 v2 rfl rfl) h2
  clear hA0 hval0 hsz hsz0
  refine (tradeOver_walk a0 n0 c0 l0 a1 n1 c1 l1 a2 n2 c2 b2 m2 e2 l2 W s0 s1 z1 s2).mono fun e W' ⟨he, bel⟩ => ?_
  subst he
  exact ⟨_, rfl, _, _, _, [], _, [], hW', trodAll_mk1 (shut_bool Try.underlying4 _), (trodAll_cons_mk (Below.trod tradeOver_laidOut (by kernel_rfl) (of_decide_eq_true (by kernel_rfl)) k0 bel lt0) (trodAll_cons_mk (Below.trod tradeOver_laidOut (by kernel_rfl) (of_decide_eq_true (by kernel_rfl)) k1 bel lt1) (trodAll_cons_mk (Below.trod tradeOver_laidOut (by kernel_rfl) (of_decide_eq_true (by kernel_rfl)) k2 bel lt2) trodAll_mk0))), rfl, bel.frame _, fun h => by cases h⟩

/-- The statement. -/
theorem tradeOver_proved : Rows.TradeOverSaid :=
  OpenClaim.holds_of_wide 6 Try.f6 rfl rfl rfl rfl rfl rfl rfl ⟨rfl, rfl, rfl, rfl, rfl⟩ rfl rfl rfl rfl rfl (by kernel_rfl) Try.func6 (by kernel_rfl)
    (of_decide_eq_true (by kernel_rfl)) (by unfold Func.isWrapper; first | (rw [if_pos (by decide +kernel)]; kernel_rfl) | (rw [if_neg (by decide +kernel)]; exact ⟨rfl, rfl⟩))
    (fun os started H enc _ => tradeOver_lifted os started H enc)

#print axioms tradeOver_proved
end Go.Proofs.Ytbiiabfhngdeiaa
