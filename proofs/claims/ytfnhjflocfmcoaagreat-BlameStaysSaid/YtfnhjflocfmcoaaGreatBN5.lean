/-
  The statement BlameLines: there are as many births as lines, file by file; each is of a patch that there is, of a change that puts that very line there.
  The statement BlameOnce: no birth comes twice.
  The statement BlameStays: where two patches pass one another, behind others, no birth changes: where each line comes from is the same.
-/
import Derived.OpenShut
import Derived.ShutString
import Derived.BigQuiet
import Derived.Test.YtfnhjflocfmcoaaGreatBN4
set_option maxRecDepth 100000
namespace Go.Proofs.YtfnhjflocfmcoaaGreat
open Go.RowKit
set_option linter.unusedVariables false
set_option linter.unusedSimpArgs false
open Tr Tx Hk Pr Fl Pn Tg Bm
namespace BmL
attribute [local go_sem] eq_id eq_bi

set_option maxRecDepth 100000 in
set_option maxHeartbeats 8000000 in
theorem blameStays_walk (A_l : Option Addr) (n_l c_l : Nat) (l : List Nm) (D_p : Option Addr) (d_p e_p : Nat) (A_p : Option Addr) (n_p c_p : Nat) (p : Nm) (D_q : Option Addr) (d_q e_q : Nat) (A_q : Option Addr) (n_q c_q : Nat) (q : Nm) (w : World) (h_l : NmsArg w A_l n_l c_l l) (z_l : n_l ≤ 1759218604390) (h_p : NV w w.heap.size D_p d_p e_p A_p n_p c_p p) (h_q : NV w w.heap.size D_q d_q e_q A_q n_q c_q q) :
    Calls Tryz.prog 6 #[.slice A_l n_l c_l, nmV p.id D_p d_p e_p p.txt A_p n_p c_p, nmV q.id D_q d_q e_q q.txt A_q n_q c_q] w (LawEnd w) := by
  have b0 := ((Blk.new w 41 #[.int .i64 p.id.1, .int .i64 p.id.2, .slice D_p d_p e_p, strV p.txt, .slice A_p n_p c_p]).alloc (.cells #[.int .i64 q.id.1, .int .i64 q.id.2, .slice D_q d_q e_q, strV q.txt, .slice A_q n_q c_q] 41))
  have b1 := (Blk.new (w.alloc (.cells #[.int .i64 p.id.1, .int .i64 p.id.2, .slice D_p d_p e_p, strV p.txt, .slice A_p n_p c_p] 41)) 41 #[.int .i64 q.id.1, .int .i64 q.id.2, .slice D_q d_q e_q, strV q.txt, .slice A_q n_q c_q])
  have hb : Below w.heap.size w ((w.alloc (.cells #[.int .i64 p.id.1, .int .i64 p.id.2, .slice D_p d_p e_p, strV p.txt, .slice A_p n_p c_p] 41)).alloc (.cells #[.int .i64 q.id.1, .int .i64 q.id.2, .slice D_q d_q e_q, strV q.txt, .slice A_q n_q c_q] 41)) := (((Below.refl w.heap.size w).alloc (by simp; try omega) (.cells #[.int .i64 p.id.1, .int .i64 p.id.2, .slice D_p d_p e_p, strV p.txt, .slice A_p n_p c_p] 41)).alloc (by simp; try omega) (.cells #[.int .i64 q.id.1, .int .i64 q.id.2, .slice D_q d_q e_q, strV q.txt, .slice A_q n_q c_q] 41))
  simp only [World.size_alloc] at b1
  have HV_p := Lib.hid (h_p.mv hb); have HV_q := Lib.hid (h_q.mv hb)
  clear h_p h_q
  have HR_l := Lib.hid h_l.rd; have HN_l := Lib.hid h_l.len; have HC_l := Lib.hid h_l.cap; have HM_l := Lib.hid h_l.le
  clear h_l
  have HZ_l := Lib.hid z_l; clear z_l
  replace HR_l := Lib.hid (RdN.mv HR_l.out hb)
  go_enter Tryz.func6, Tryz.ntmps6
  go_upto_region 1 with fail
  generalize ((w.alloc (.cells #[.int .i64 p.id.1, .int .i64 p.id.2, .slice D_p d_p e_p, strV p.txt, .slice A_p n_p c_p] 41)).alloc (.cells #[.int .i64 q.id.1, .int .i64 q.id.2, .slice D_q d_q e_q, strV q.txt, .slice A_q n_q c_q] 41)) = w_1 at b0 b1 HV_p HV_q HR_l hb ⊢
  obtain ⟨z, hz⟩ : ∃ z, w.heap.size = z := ⟨_, rfl⟩
  rw [hz] at b0 b1 ⊢
  have BP := Lib.hid b0
  have BQ := Lib.hid b1
  have HZ := Lib.hid hz
  clear b0 b1 hz
  have HB := Lib.hid hb; clear hb
  go_wp2_with fail
  refine (Bm.awake w_1).mono ?_
  rintro e w_2 ⟨rfl, hb⟩
  replace HR_l := Lib.hid (RdN.mv HR_l.out hb)
  replace BP := Lib.hid (BP.out.below hb BP.out.lt)
  replace BQ := Lib.hid (BQ.out.below hb BQ.out.lt)
  replace HV_p := Lib.hid (HV_p.out.mv hb)
  replace HV_q := Lib.hid (HV_q.out.mv hb)
  replace HB := Lib.hid (below_mv HB.out hb)
  clear hb
  obtain ⟨bl, hbl⟩ : ∃ b, fewN (l ++ [p, q]) 10 = b := ⟨_, rfl⟩
  have HBL := Lib.hid hbl; clear hbl
  have bp_0 := BP.out.cell 0 rfl
  have bp_1 := BP.out.cell 1 rfl
  have bp_2 := BP.out.cell 2 rfl
  have bp_3 := BP.out.cell 3 rfl
  have bp_4 := BP.out.cell 4 rfl
  have bp_l := BP.out.lt
  have bq_0 := BQ.out.cell 0 rfl
  have bq_1 := BQ.out.cell 1 rfl
  have bq_2 := BQ.out.cell 2 rfl
  have bq_3 := BQ.out.cell 3 rfl
  have bq_4 := BQ.out.cell 4 rfl
  have bq_l := BQ.out.lt
  go_upto_region 2 with fail
  obtain ⟨N, hN⟩ : ∃ N, w_2.heap.size = N := ⟨_, rfl⟩
  have HNW := Lib.hid hN
  have HA := Lib.hid (show Below w_2.heap.size w_2 (w_2.alloc (.cells #[.int .i64 p.id.1, .int .i64 p.id.2, .slice D_p d_p e_p, strV p.txt, .slice A_p n_p c_p, .int .i64 q.id.1, .int .i64 q.id.2, .slice D_q d_q e_q, strV q.txt, .slice A_q n_q c_q] 41)).drew from below_drewN ((Below.refl _ _).alloc (Nat.le_refl _) _) 1)
  have HBB := Lib.hid (show Below w_2.heap.size w_2 w_2.drew from below_drewN (Below.refl _ _) 1)
  have HZA := Lib.hid (show Blk (w_2.alloc (.cells #[.int .i64 p.id.1, .int .i64 p.id.2, .slice D_p d_p e_p, strV p.txt, .slice A_p n_p c_p, .int .i64 q.id.1, .int .i64 q.id.2, .slice D_q d_q e_q, strV q.txt, .slice A_q n_q c_q] 41)).drew w_2.heap.size 41 #[.int .i64 p.id.1, .int .i64 p.id.2, .slice D_p d_p e_p, strV p.txt, .slice A_p n_p c_p, .int .i64 q.id.1, .int .i64 q.id.2, .slice D_q d_q e_q, strV q.txt, .slice A_q n_q c_q] from (Blk.new w_2 _ _).drewN 1)
  have HSA : Hid (RdN (w_2.alloc (.cells #[.int .i64 p.id.1, .int .i64 p.id.2, .slice D_p d_p e_p, strV p.txt, .slice A_p n_p c_p, .int .i64 q.id.1, .int .i64 q.id.2, .slice D_q d_q e_q, strV q.txt, .slice A_q n_q c_q] 41)).drew N A_l l) := Lib.hid (by rw [← hN]; exact RdN.below HR_l.out HA.out)
  have HSB : Hid (RdN w_2.drew N A_l l) := Lib.hid (by rw [← hN]; exact RdN.below HR_l.out HBB.out)
  have HVN : Hid (∀ X, Below w_2.heap.size w_2 X → NCells X N [p, q] [.int .i64 p.id.1, .int .i64 p.id.2, .slice D_p d_p e_p, strV p.txt, .slice A_p n_p c_p, .int .i64 q.id.1, .int .i64 q.id.2, .slice D_q d_q e_q, strV q.txt, .slice A_q n_q c_q]) := Lib.hid (fun X hb => by rw [← hN]; exact (NCells.one (HV_p.out.below hb)).append rfl (NCells.one (HV_q.out.below hb)))
  have HSX : Hid (∀ X, Below w_2.heap.size w_2 X → X.cell? ⟨z, 0, none⟩ = some (.int .i64 p.id.1) ∧ X.cell? ⟨z, 1, none⟩ = some (.int .i64 p.id.2) ∧ X.cell? ⟨z, 2, none⟩ = some (.slice D_p d_p e_p) ∧ X.cell? ⟨z, 3, none⟩ = some (strV p.txt) ∧ X.cell? ⟨z, 4, none⟩ = some (.slice A_p n_p c_p) ∧ X.cell? ⟨z + 1, 0, none⟩ = some (.int .i64 q.id.1) ∧ X.cell? ⟨z + 1, 1, none⟩ = some (.int .i64 q.id.2) ∧ X.cell? ⟨z + 1, 2, none⟩ = some (.slice D_q d_q e_q) ∧ X.cell? ⟨z + 1, 3, none⟩ = some (strV q.txt) ∧ X.cell? ⟨z + 1, 4, none⟩ = some (.slice A_q n_q c_q)) := Lib.hid (fun X hb => ⟨(BP.out.below hb BP.out.lt).cell 0 rfl, (BP.out.below hb BP.out.lt).cell 1 rfl, (BP.out.below hb BP.out.lt).cell 2 rfl, (BP.out.below hb BP.out.lt).cell 3 rfl, (BP.out.below hb BP.out.lt).cell 4 rfl, (BQ.out.below hb BQ.out.lt).cell 0 rfl, (BQ.out.below hb BQ.out.lt).cell 1 rfl, (BQ.out.below hb BQ.out.lt).cell 2 rfl, (BQ.out.below hb BQ.out.lt).cell 3 rfl, (BQ.out.below hb BQ.out.lt).cell 4 rfl⟩)
  have HKD := Lib.hid (HSX.out _ HBB.out); have HKA := Lib.hid (HSX.out _ HA.out)
  have HL1 : Hid (([] : List Nm).length + n_l ≤ 1759218604440) := Lib.hid (by have := HZ_l.out; simp; omega)
  have HL2 : Hid (([] ++ l : List Nm).length + 2 ≤ 1759218604440) := Lib.hid (by have := HZ_l.out; rw [List.nil_append, HN_l.out]; omega)
  have HY1 : Hid (List.length ([.int .i64 p.id.1, .int .i64 p.id.2, .slice D_p d_p e_p, strV p.txt, .slice A_p n_p c_p, .int .i64 q.id.1, .int .i64 q.id.2, .slice D_q d_q e_q, strV q.txt, .slice A_q n_q c_q] : List Value) = [p, q].length * 5) := Lib.hid rfl
  have HM1 : Hid ([p, q].length = 2) := Lib.hid rfl
  have HP0 : Hid (0 < 2) := Lib.hid (by decide)
  have HUL : Hid ([p, q].length ≤ 2) := Lib.hid (by simp)
  have HLE := Lib.hid (Nat.le_refl N)
  have HLA : Hid (N ≤ (w_2.alloc (.cells #[.int .i64 p.id.1, .int .i64 p.id.2, .slice D_p d_p e_p, strV p.txt, .slice A_p n_p c_p, .int .i64 q.id.1, .int .i64 q.id.2, .slice D_q d_q e_q, strV q.txt, .slice A_q n_q c_q] 41)).drew.heap.size) := Lib.hid (by rw [← hN]; exact HA.out.size)
  have HLB : Hid (N ≤ w_2.drew.heap.size) := Lib.hid (by rw [← hN]; exact HBB.out.size)
  have HM9 : Hid (10 ≤ 1000) := Lib.hid (by decide)
  clear hN
  go_cut [8] from 18 (fun s8 wx => s8 = .bool bl ∧ Below w_2.heap.size w_2 wx)
  case first =>
    go_region_held3 (fun X => X.cell? ⟨z, 0, none⟩ = some (.int .i64 p.id.1) ∧ X.cell? ⟨z, 1, none⟩ = some (.int .i64 p.id.2) ∧ X.cell? ⟨z, 2, none⟩ = some (.slice D_p d_p e_p) ∧ X.cell? ⟨z, 3, none⟩ = some (strV p.txt) ∧ X.cell? ⟨z, 4, none⟩ = some (.slice A_p n_p c_p) ∧ X.cell? ⟨z + 1, 0, none⟩ = some (.int .i64 q.id.1) ∧ X.cell? ⟨z + 1, 1, none⟩ = some (.int .i64 q.id.2) ∧ X.cell? ⟨z + 1, 2, none⟩ = some (.slice D_q d_q e_q) ∧ X.cell? ⟨z + 1, 3, none⟩ = some (strV q.txt) ∧ X.cell? ⟨z + 1, 4, none⟩ = some (.slice A_q n_q c_q))
      (first | (with_reducible exact HKD.out) | (with_reducible exact HKA.out) | (with_reducible exact hS1) | (with_reducible exact hSx) | (with_reducible exact hS2) | (with_reducible exact hS3))
      (first
      | ((with_reducible refine step_ownMW (W := (w_2.alloc (.cells #[.int .i64 p.id.1, .int .i64 p.id.2, .slice D_p d_p e_p, strV p.txt, .slice A_p n_p c_p, .int .i64 q.id.1, .int .i64 q.id.2, .slice D_q d_q e_q, strV q.txt, .slice A_q n_q c_q] 41)).drew) (N := N) (base := N) (c := c_l) ?_ (.const (.slice none 0 0)) (.tmp 18) ?_ ?_ ?_ (ownM_nil _ N N) HSA.out HN_l.out HL1.out HLE.out HLA.out ?_); rfl; rfl; rfl; rfl; intro v1 u1 ho hg; have hb1 := below_gr hg; have HU1 := Lib.hid (below_mv HA.out hb1); have HO1 := Lib.hid ho; have HS1 := Lib.hid (blk_srcN (ys := [.int .i64 p.id.1, .int .i64 p.id.2, .slice D_p d_p e_p, strV p.txt, .slice A_p n_p c_p, .int .i64 q.id.1, .int .i64 q.id.2, .slice D_q d_q e_q, strV q.txt, .slice A_q n_q c_q]) (HZA.out.below hb1 HZA.out.lt) rfl); have HN1 := Lib.hid (Nat.le_trans HLA.out hb1.size); have HC1 := Lib.hid (HVN.out _ HU1.out); have hS1 := HSX.out _ HU1.out; clear hb1 ho hg)
      | ((with_reducible refine step_ownMW (W := w_2.drew) (N := N) (base := N) (c := c_l) ?_ (.const (.slice none 0 0)) (.tmp 18) ?_ ?_ ?_ (ownM_nil _ N N) HSB.out HN_l.out HL1.out HLE.out HLB.out ?_); rfl; rfl; rfl; rfl; intro v1 u1 ho hg; have hb0 := below_gr hg; have hbu := below_mv HBB.out hb0; have hS1 := HSX.out _ hbu; have hbx : Below u1.heap.size u1 (u1.alloc (.cells #[.int .i64 p.id.1, .int .i64 p.id.2, .slice D_p d_p e_p, strV p.txt, .slice A_p n_p c_p, .int .i64 q.id.1, .int .i64 q.id.2, .slice D_q d_q e_q, strV q.txt, .slice A_q n_q c_q] 41)) := (Below.refl _ _).alloc (Nat.le_refl _) _; have hb1 := hb0.trans (hbx.mono hb0.size); have HU1 := Lib.hid (below_mv HBB.out hb1); have hSx := HSX.out _ HU1.out; have HN1 := Lib.hid (Nat.le_trans HLB.out hb1.size); have HO1 := Lib.hid (OwnM.below ho (Nat.le_trans HLB.out hb0.size) hbx); have HS1 := Lib.hid (blk_srcN (ys := [.int .i64 p.id.1, .int .i64 p.id.2, .slice D_p d_p e_p, strV p.txt, .slice A_p n_p c_p, .int .i64 q.id.1, .int .i64 q.id.2, .slice D_q d_q e_q, strV q.txt, .slice A_q n_q c_q]) (Blk.new u1 41 #[.int .i64 p.id.1, .int .i64 p.id.2, .slice D_p d_p e_p, strV p.txt, .slice A_p n_p c_p, .int .i64 q.id.1, .int .i64 q.id.2, .slice D_q d_q e_q, strV q.txt, .slice A_q n_q c_q]) rfl); have HC1 := Lib.hid (HVN.out _ HU1.out); clear hb0 hbx hb1 ho hg hbu)
      | ((with_reducible refine step_ownMC (N := N) (base := N) (c := 2) ?_ (.tmp 19) (.tmp 22) ?_ ?_ ?_ HO1.out HC1.out HY1.out HS1.out HM1.out HP0.out HL2.out HLE.out HN1.out ?_); rfl; rfl; rfl; rfl; intro v2 u2 ho hg; have hu2 := HU1.out.grown hg HU1.out.size (fun k e => by rw [HNW.out]; exact ownM_ge HO1.out k e); have HU2 := Lib.hid hu2; have hS2 := HSX.out _ hu2; obtain ⟨A_j, c_j, hv2, hc2, hr2⟩ := rdN_own ho (by rw [← HNW.out]; exact hu2.size); obtain ⟨n_j, hn⟩ : ∃ n, List.length ([] ++ l ++ [p, q]) = n := ⟨_, rfl⟩; rw [hn] at hv2 hc2; subst hv2; have hle : n_j ≤ maxLen := jn_le hn HN_l.out HZ_l.out HUL.out; have HFW := Lib.hid (show Calls Tryz.prog 8 #[.slice A_j n_j c_j, .int .i64 10] u2 (BoolEnd u2 bl) from FewN A_j n_j c_j 10 (l ++ [p, q]) u2 bl HM9.out ⟨hn, hc2, hle, hr2⟩ HBL.out); clear ho hg hn hc2 hr2 hu2 hle)
      | (go_at_call 8; (with_reducible refine HFW.out.mono ?_); rintro e u3 ⟨rfl, hb3⟩; have HU3 := Lib.hid (below_mv HU2.out hb3); have hS3 := HSX.out _ HU3.out; clear hb3))
    all_goals (try go_wp2_with fail)
    all_goals go_meet
    all_goals exact ⟨rfl, HU3.out⟩
  case rest =>
    obtain ⟨rfl, hb⟩ := hcut
    clear HNW HA HBB HZA HSA HSB HVN HSX HKD HKA HL1 HL2 HY1 HM1 HP0 HUL HLE HLA HLB bp_0 bp_1 bp_2 bp_3 bp_4 bp_l bq_0 bq_1 bq_2 bq_3 bq_4 bq_l HM9
    replace HR_l := Lib.hid (RdN.mv HR_l.out hb)
    replace BP := Lib.hid (BP.out.below hb BP.out.lt)
    replace BQ := Lib.hid (BQ.out.below hb BQ.out.lt)
    replace HV_p := Lib.hid (HV_p.out.mv hb)
    replace HV_q := Lib.hid (HV_q.out.mv hb)
    replace HB := Lib.hid (below_mv HB.out hb)
    clear hb
    cases bl with
    | false =>
      go_wp2
      go_ret
      exact ⟨rfl, HB.out⟩
    | true =>
    have HAL := Lib.hid (few_all HBL.out)
    have HL_l := Lib.hid (fun p (hp : p ∈ l) => HAL.out p (List.mem_append_left _ hp))
    have HQ_l : Hid (n_l ≤ 8) := Lib.hid (by have h1 := fewN_len HBL.out; rw [List.length_append, HN_l.out] at h1; have h2 : [p, q].length = 2 := rfl; omega)
    have HL_p := Lib.hid (HAL.out p (by simp))
    have HN_p : Hid (n_p ≤ 10 ∧ d_p ≤ 100) := Lib.hid (by
      have h1 := HL_p.out.2
      rw [HV_p.out.l, HV_p.out.dl] at h1
      exact h1)
    have HL_q := Lib.hid (HAL.out q (by simp))
    have HN_q : Hid (n_q ≤ 10 ∧ d_q ≤ 100) := Lib.hid (by
      have h1 := HL_q.out.2
      rw [HV_q.out.l, HV_q.out.dl] at h1
      exact h1)
    obtain ⟨x, y, ho⟩ : ∃ x y, outN (passN p q) = (x, y) := ⟨_, _, rfl⟩
    obtain ⟨bo, hbo⟩ : ∃ b, (passN p q).isSome = b := ⟨_, rfl⟩
    have HO := Lib.hid ho; have HBO := Lib.hid hbo; clear ho hbo
    have bp_0 := BP.out.cell 0 rfl
    have bp_1 := BP.out.cell 1 rfl
    have bp_2 := BP.out.cell 2 rfl
    have bp_3 := BP.out.cell 3 rfl
    have bp_4 := BP.out.cell 4 rfl
    have bq_0 := BQ.out.cell 0 rfl
    have bq_1 := BQ.out.cell 1 rfl
    have bq_2 := BQ.out.cell 2 rfl
    have bq_3 := BQ.out.cell 3 rfl
    have bq_4 := BQ.out.cell 4 rfl
    go_wp2_with fail
    refine (PassN D_p d_p e_p A_p n_p c_p D_q d_q e_q A_q n_q c_q p q x y wc bo (by have := HN_p.out; omega) (by have := HN_q.out; omega) (by have := HN_p.out; omega) (by have := HN_q.out; omega) HL_p.out.1 HL_q.out.1 HV_p.out HV_q.out HO.out HBO.out).mono ?_
    clear bp_0 bp_1 bp_2 bp_3 bp_4 bq_0 bq_1 bq_2 bq_3 bq_4
    rintro e w_3 ⟨D_x, d_x, e_x, A_x, n_x, c_x, D_y, d_y, e_y, A_y, n_y, c_y, rfl, h1, h2, hb⟩
    have HV_x := Lib.hid (h1.mono since_lt).nv; have HV_y := Lib.hid (h2.mono since_lt).nv
    clear h1 h2
    replace HR_l := Lib.hid (RdN.mv HR_l.out hb)
    replace BP := Lib.hid (BP.out.below hb BP.out.lt)
    replace BQ := Lib.hid (BQ.out.below hb BQ.out.lt)
    replace HV_p := Lib.hid (HV_p.out.mv hb)
    replace HV_q := Lib.hid (HV_q.out.mv hb)
    replace HB := Lib.hid (below_mv HB.out hb)
    clear hb
    go_upto_region 6 with fail
    have b0 := (Blk.new w_3 41 #[.int .i64 x.id.1, .int .i64 x.id.2, .slice D_x d_x e_x, strV x.txt, .slice A_x n_x c_x]).alloc (.cells #[.int .i64 y.id.1, .int .i64 y.id.2, .slice D_y d_y e_y, strV y.txt, .slice A_y n_y c_y] 41)
    have b1 := Blk.new (w_3.alloc (.cells #[.int .i64 x.id.1, .int .i64 x.id.2, .slice D_x d_x e_x, strV x.txt, .slice A_x n_x c_x] 41)) 41 #[.int .i64 y.id.1, .int .i64 y.id.2, .slice D_y d_y e_y, strV y.txt, .slice A_y n_y c_y]
    have hb := two_box w_3 (.cells #[.int .i64 x.id.1, .int .i64 x.id.2, .slice D_x d_x e_x, strV x.txt, .slice A_x n_x c_x] 41) (.cells #[.int .i64 y.id.1, .int .i64 y.id.2, .slice D_y d_y e_y, strV y.txt, .slice A_y n_y c_y] 41)
    simp only [World.size_alloc] at b1
    generalize ((w_3.alloc (.cells #[.int .i64 x.id.1, .int .i64 x.id.2, .slice D_x d_x e_x, strV x.txt, .slice A_x n_x c_x] 41)).alloc (.cells #[.int .i64 y.id.1, .int .i64 y.id.2, .slice D_y d_y e_y, strV y.txt, .slice A_y n_y c_y] 41)) = w_4 at b0 b1 hb ⊢
    obtain ⟨z_w_4, hz⟩ : ∃ z, w_3.heap.size = z := ⟨_, rfl⟩
    rw [hz] at b0 b1 ⊢
    clear hz
    replace HR_l := Lib.hid (RdN.mv HR_l.out hb)
    replace BP := Lib.hid (BP.out.below hb BP.out.lt)
    replace BQ := Lib.hid (BQ.out.below hb BQ.out.lt)
    replace HV_p := Lib.hid (HV_p.out.mv hb)
    replace HV_q := Lib.hid (HV_q.out.mv hb)
    replace HV_x := Lib.hid (HV_x.out.mv hb)
    replace HV_y := Lib.hid (HV_y.out.mv hb)
    replace HB := Lib.hid (below_mv HB.out hb)
    clear hb
    have BX := Lib.hid b0
    have BY := Lib.hid b1
    clear b0 b1
    have HFX := Lib.hid (out_few HO.out HBO.out HL_p.out HL_q.out)
    have HL_x := Lib.hid (HFX.out.1)
    have HN_x : Hid (n_x ≤ 10 ∧ d_x ≤ 100) := Lib.hid (by
      have h1 := HL_x.out.2
      rw [HV_x.out.l, HV_x.out.dl] at h1
      exact h1)
    have HL_y := Lib.hid (HFX.out.2)
    have HN_y : Hid (n_y ≤ 10 ∧ d_y ≤ 100) := Lib.hid (by
      have h1 := HL_y.out.2
      rw [HV_y.out.l, HV_y.out.dl] at h1
      exact h1)
    have HTJ := Lib.hid (jn_all (us := [p, q]) HL_l.out (fun r hr => (by simp at hr; rcases hr with rfl | rfl; exact HL_p.out; exact HL_q.out)) (by rw [HN_l.out]; exact HQ_l.out) (by simp))
    obtain ⟨⟨er, oa⟩, hoa⟩ : ∃ z, orgR ([] ++ l ++ [p, q]) = z := ⟨_, rfl⟩
    have HOA := Lib.hid hoa; clear hoa
    have bp_0 := BP.out.cell 0 rfl
    have bp_1 := BP.out.cell 1 rfl
    have bp_2 := BP.out.cell 2 rfl
    have bp_3 := BP.out.cell 3 rfl
    have bp_4 := BP.out.cell 4 rfl
    have bp_l := BP.out.lt
    have bq_0 := BQ.out.cell 0 rfl
    have bq_1 := BQ.out.cell 1 rfl
    have bq_2 := BQ.out.cell 2 rfl
    have bq_3 := BQ.out.cell 3 rfl
    have bq_4 := BQ.out.cell 4 rfl
    have bq_l := BQ.out.lt
    go_upto_region 6 with fail
    obtain ⟨N, hN⟩ : ∃ N, w_4.heap.size = N := ⟨_, rfl⟩
    have HNW := Lib.hid hN
    have HA := Lib.hid (show Below w_4.heap.size w_4 (w_4.alloc (.cells #[.int .i64 p.id.1, .int .i64 p.id.2, .slice D_p d_p e_p, strV p.txt, .slice A_p n_p c_p, .int .i64 q.id.1, .int .i64 q.id.2, .slice D_q d_q e_q, strV q.txt, .slice A_q n_q c_q] 41)).drew from below_drewN ((Below.refl _ _).alloc (Nat.le_refl _) _) 1)
    have HBB := Lib.hid (show Below w_4.heap.size w_4 w_4.drew from below_drewN (Below.refl _ _) 1)
    have HZA := Lib.hid (show Blk (w_4.alloc (.cells #[.int .i64 p.id.1, .int .i64 p.id.2, .slice D_p d_p e_p, strV p.txt, .slice A_p n_p c_p, .int .i64 q.id.1, .int .i64 q.id.2, .slice D_q d_q e_q, strV q.txt, .slice A_q n_q c_q] 41)).drew w_4.heap.size 41 #[.int .i64 p.id.1, .int .i64 p.id.2, .slice D_p d_p e_p, strV p.txt, .slice A_p n_p c_p, .int .i64 q.id.1, .int .i64 q.id.2, .slice D_q d_q e_q, strV q.txt, .slice A_q n_q c_q] from (Blk.new w_4 _ _).drewN 1)
    have HSA : Hid (RdN (w_4.alloc (.cells #[.int .i64 p.id.1, .int .i64 p.id.2, .slice D_p d_p e_p, strV p.txt, .slice A_p n_p c_p, .int .i64 q.id.1, .int .i64 q.id.2, .slice D_q d_q e_q, strV q.txt, .slice A_q n_q c_q] 41)).drew N A_l l) := Lib.hid (by rw [← hN]; exact RdN.below HR_l.out HA.out)
    have HSB : Hid (RdN w_4.drew N A_l l) := Lib.hid (by rw [← hN]; exact RdN.below HR_l.out HBB.out)
    have HVN : Hid (∀ X, Below w_4.heap.size w_4 X → NCells X N [p, q] [.int .i64 p.id.1, .int .i64 p.id.2, .slice D_p d_p e_p, strV p.txt, .slice A_p n_p c_p, .int .i64 q.id.1, .int .i64 q.id.2, .slice D_q d_q e_q, strV q.txt, .slice A_q n_q c_q]) := Lib.hid (fun X hb => by rw [← hN]; exact (NCells.one (HV_p.out.below hb)).append rfl (NCells.one (HV_q.out.below hb)))
    have HSX : Hid (∀ X, Below w_4.heap.size w_4 X → X.cell? ⟨z, 0, none⟩ = some (.int .i64 p.id.1) ∧ X.cell? ⟨z, 1, none⟩ = some (.int .i64 p.id.2) ∧ X.cell? ⟨z, 2, none⟩ = some (.slice D_p d_p e_p) ∧ X.cell? ⟨z, 3, none⟩ = some (strV p.txt) ∧ X.cell? ⟨z, 4, none⟩ = some (.slice A_p n_p c_p) ∧ X.cell? ⟨z + 1, 0, none⟩ = some (.int .i64 q.id.1) ∧ X.cell? ⟨z + 1, 1, none⟩ = some (.int .i64 q.id.2) ∧ X.cell? ⟨z + 1, 2, none⟩ = some (.slice D_q d_q e_q) ∧ X.cell? ⟨z + 1, 3, none⟩ = some (strV q.txt) ∧ X.cell? ⟨z + 1, 4, none⟩ = some (.slice A_q n_q c_q)) := Lib.hid (fun X hb => ⟨(BP.out.below hb BP.out.lt).cell 0 rfl, (BP.out.below hb BP.out.lt).cell 1 rfl, (BP.out.below hb BP.out.lt).cell 2 rfl, (BP.out.below hb BP.out.lt).cell 3 rfl, (BP.out.below hb BP.out.lt).cell 4 rfl, (BQ.out.below hb BQ.out.lt).cell 0 rfl, (BQ.out.below hb BQ.out.lt).cell 1 rfl, (BQ.out.below hb BQ.out.lt).cell 2 rfl, (BQ.out.below hb BQ.out.lt).cell 3 rfl, (BQ.out.below hb BQ.out.lt).cell 4 rfl⟩)
    have HKD := Lib.hid (HSX.out _ HBB.out); have HKA := Lib.hid (HSX.out _ HA.out)
    have HL1 : Hid (([] : List Nm).length + n_l ≤ 1759218604440) := Lib.hid (by have := HZ_l.out; simp; omega)
    have HL2 : Hid (([] ++ l : List Nm).length + 2 ≤ 1759218604440) := Lib.hid (by have := HZ_l.out; rw [List.nil_append, HN_l.out]; omega)
    have HY1 : Hid (List.length ([.int .i64 p.id.1, .int .i64 p.id.2, .slice D_p d_p e_p, strV p.txt, .slice A_p n_p c_p, .int .i64 q.id.1, .int .i64 q.id.2, .slice D_q d_q e_q, strV q.txt, .slice A_q n_q c_q] : List Value) = [p, q].length * 5) := Lib.hid rfl
    have HM1 : Hid ([p, q].length = 2) := Lib.hid rfl
    have HP0 : Hid (0 < 2) := Lib.hid (by decide)
    have HUL : Hid ([p, q].length ≤ 2) := Lib.hid (by simp)
    have HLE := Lib.hid (Nat.le_refl N)
    have HLA : Hid (N ≤ (w_4.alloc (.cells #[.int .i64 p.id.1, .int .i64 p.id.2, .slice D_p d_p e_p, strV p.txt, .slice A_p n_p c_p, .int .i64 q.id.1, .int .i64 q.id.2, .slice D_q d_q e_q, strV q.txt, .slice A_q n_q c_q] 41)).drew.heap.size) := Lib.hid (by rw [← hN]; exact HA.out.size)
    have HLB : Hid (N ≤ w_4.drew.heap.size) := Lib.hid (by rw [← hN]; exact HBB.out.size)
    have PF : Hid (∀ (X : World) A n c, Below w_4.heap.size w_4 X → List.length ([] ++ l ++ [p, q]) = n → RdN X X.heap.size A ([] ++ l ++ [p, q]) → Calls Tryz.prog 9 #[.slice A n c] X (OrgsEnd X (er, oa))) := Lib.hid (fun X A n c hb hn hr => OrgsC A n c ([] ++ l ++ [p, q]) X hn (jn_len hn HN_l.out HQ_l.out (by simp)) HTJ.out.1 HTJ.out.2 hr er oa HOA.out)
    clear hN
    go_cut [12, 13] from 39 (fun s12 s13 wx => ∃ A n c, s12 = .slice A n c ∧ s13 = .int .i64 er ∧ List.length oa = n ∧ n ≤ c ∧ RdO wx (· < wx.heap.size) A oa ∧ Below w_4.heap.size w_4 wx)
    case first =>
      go_region_held3 (fun X => X.cell? ⟨z, 0, none⟩ = some (.int .i64 p.id.1) ∧ X.cell? ⟨z, 1, none⟩ = some (.int .i64 p.id.2) ∧ X.cell? ⟨z, 2, none⟩ = some (.slice D_p d_p e_p) ∧ X.cell? ⟨z, 3, none⟩ = some (strV p.txt) ∧ X.cell? ⟨z, 4, none⟩ = some (.slice A_p n_p c_p) ∧ X.cell? ⟨z + 1, 0, none⟩ = some (.int .i64 q.id.1) ∧ X.cell? ⟨z + 1, 1, none⟩ = some (.int .i64 q.id.2) ∧ X.cell? ⟨z + 1, 2, none⟩ = some (.slice D_q d_q e_q) ∧ X.cell? ⟨z + 1, 3, none⟩ = some (strV q.txt) ∧ X.cell? ⟨z + 1, 4, none⟩ = some (.slice A_q n_q c_q))
        (first | (with_reducible exact HKD.out) | (with_reducible exact HKA.out) | (with_reducible exact hS1) | (with_reducible exact hSx) | (with_reducible exact hS2) | (with_reducible exact hS3))
        (first
        | ((with_reducible refine step_ownMW (W := (w_4.alloc (.cells #[.int .i64 p.id.1, .int .i64 p.id.2, .slice D_p d_p e_p, strV p.txt, .slice A_p n_p c_p, .int .i64 q.id.1, .int .i64 q.id.2, .slice D_q d_q e_q, strV q.txt, .slice A_q n_q c_q] 41)).drew) (N := N) (base := N) (c := c_l) ?_ (.const (.slice none 0 0)) (.tmp 40) ?_ ?_ ?_ (ownM_nil _ N N) HSA.out HN_l.out HL1.out HLE.out HLA.out ?_); rfl; rfl; rfl; rfl; intro v1 u1 ho hg; have hb1 := below_gr hg; have HU1 := Lib.hid (below_mv HA.out hb1); have HO1 := Lib.hid ho; have HS1 := Lib.hid (blk_srcN (ys := [.int .i64 p.id.1, .int .i64 p.id.2, .slice D_p d_p e_p, strV p.txt, .slice A_p n_p c_p, .int .i64 q.id.1, .int .i64 q.id.2, .slice D_q d_q e_q, strV q.txt, .slice A_q n_q c_q]) (HZA.out.below hb1 HZA.out.lt) rfl); have HN1 := Lib.hid (Nat.le_trans HLA.out hb1.size); have HC1 := Lib.hid (HVN.out _ HU1.out); have hS1 := HSX.out _ HU1.out; clear hb1 ho hg)
        | ((with_reducible refine step_ownMW (W := w_4.drew) (N := N) (base := N) (c := c_l) ?_ (.const (.slice none 0 0)) (.tmp 40) ?_ ?_ ?_ (ownM_nil _ N N) HSB.out HN_l.out HL1.out HLE.out HLB.out ?_); rfl; rfl; rfl; rfl; intro v1 u1 ho hg; have hb0 := below_gr hg; have hbu := below_mv HBB.out hb0; have hS1 := HSX.out _ hbu; have hbx : Below u1.heap.size u1 (u1.alloc (.cells #[.int .i64 p.id.1, .int .i64 p.id.2, .slice D_p d_p e_p, strV p.txt, .slice A_p n_p c_p, .int .i64 q.id.1, .int .i64 q.id.2, .slice D_q d_q e_q, strV q.txt, .slice A_q n_q c_q] 41)) := (Below.refl _ _).alloc (Nat.le_refl _) _; have hb1 := hb0.trans (hbx.mono hb0.size); have HU1 := Lib.hid (below_mv HBB.out hb1); have hSx := HSX.out _ HU1.out; have HN1 := Lib.hid (Nat.le_trans HLB.out hb1.size); have HO1 := Lib.hid (OwnM.below ho (Nat.le_trans HLB.out hb0.size) hbx); have HS1 := Lib.hid (blk_srcN (ys := [.int .i64 p.id.1, .int .i64 p.id.2, .slice D_p d_p e_p, strV p.txt, .slice A_p n_p c_p, .int .i64 q.id.1, .int .i64 q.id.2, .slice D_q d_q e_q, strV q.txt, .slice A_q n_q c_q]) (Blk.new u1 41 #[.int .i64 p.id.1, .int .i64 p.id.2, .slice D_p d_p e_p, strV p.txt, .slice A_p n_p c_p, .int .i64 q.id.1, .int .i64 q.id.2, .slice D_q d_q e_q, strV q.txt, .slice A_q n_q c_q]) rfl); have HC1 := Lib.hid (HVN.out _ HU1.out); clear hb0 hbx hb1 ho hg hbu)
        | ((with_reducible refine step_ownMC (N := N) (base := N) (c := 2) ?_ (.tmp 41) (.tmp 44) ?_ ?_ ?_ HO1.out HC1.out HY1.out HS1.out HM1.out HP0.out HL2.out HLE.out HN1.out ?_); rfl; rfl; rfl; rfl; intro v2 u2 ho hg; have hu2 := HU1.out.grown hg HU1.out.size (fun k e => by rw [HNW.out]; exact ownM_ge HO1.out k e); have HU2 := Lib.hid hu2; have hS2 := HSX.out _ hu2; obtain ⟨A_j, c_j, hv2, hc2, hr2⟩ := rdN_own ho (by rw [← HNW.out]; exact hu2.size); obtain ⟨n_j, hn⟩ : ∃ n, List.length ([] ++ l ++ [p, q]) = n := ⟨_, rfl⟩; rw [hn] at hv2 hc2; subst hv2; have hle : n_j ≤ maxLen := jn_le hn HN_l.out HZ_l.out HUL.out; have HNJ := Lib.hid hn; have HRJ := Lib.hid hr2; clear ho hg hn hc2 hr2 hu2 hle)
        | (go_at_call 9; (with_reducible refine (PF.out u2 A_j n_j c_j HU2.out HNJ.out HRJ.out).mono ?_); rintro e u3 ⟨A_u, n_u, c_u, rfl, hnu, hcu, hru, hb3⟩; have HU3 := Lib.hid (below_mv HU2.out hb3); have HNU := Lib.hid hnu; have HCU := Lib.hid hcu; have HRU := Lib.hid hru; have hS3 := HSX.out _ HU3.out; clear hb3 hnu hcu hru))
      all_goals (try go_wp2_with fail)
      all_goals go_meet
      all_goals exact ⟨_, _, _, rfl, rfl, HNU.out, HCU.out, HRU.out, HU3.out⟩
    case rest =>
      obtain ⟨A_a, n_a, c_a, rfl, rfl, hnu, hcu, hru, hb⟩ := hcut
      clear HNW HA HBB HZA HSA HSB HVN HSX HKD HKA HL1 HL2 HY1 HM1 HP0 HUL HLE HLA HLB bp_0 bp_1 bp_2 bp_3 bp_4 bp_l bq_0 bq_1 bq_2 bq_3 bq_4 bq_l PF
      replace HR_l := Lib.hid (RdN.mv HR_l.out hb)
      replace BP := Lib.hid (BP.out.below hb BP.out.lt)
      replace BQ := Lib.hid (BQ.out.below hb BQ.out.lt)
      replace HV_p := Lib.hid (HV_p.out.mv hb)
      replace HV_q := Lib.hid (HV_q.out.mv hb)
      replace HV_x := Lib.hid (HV_x.out.mv hb)
      replace HV_y := Lib.hid (HV_y.out.mv hb)
      replace BX := Lib.hid (BX.out.below hb BX.out.lt)
      replace BY := Lib.hid (BY.out.below hb BY.out.lt)
      replace HB := Lib.hid (below_mv HB.out hb)
      clear hb
      have HN_a := Lib.hid hnu; have HC_a := Lib.hid hcu; have HR_a := Lib.hid hru
      clear hnu hcu hru
      cases bo with
      | false =>
        by_cases h0 : er = 0
        · subst h0
          go_wp2
          go_ret
          exact ⟨rfl, HB.out⟩
        · have h1 : (er == 0) = false := by rw [beq_eq_false_iff_ne]; exact h0
          have h2 : (er != 0) = true := by rw [bne_iff_ne]; exact h0
          go_wp2
          go_ret
          exact ⟨rfl, HB.out⟩
      | true =>
        by_cases h0 : er = 0
        case neg =>
          have h1 : (er == 0) = false := by rw [beq_eq_false_iff_ne]; exact h0
          have h2 : (er != 0) = true := by rw [bne_iff_ne]; exact h0
          go_wp2
          go_ret
          exact ⟨rfl, HB.out⟩
        subst h0
        have HSO := Lib.hid (org_small HTJ.out.2 (by have := HTJ.out.1; omega) HOA.out)
        by_cases hz : (doN [] ([] ++ l ++ [p, q])).1 = 0
        case neg =>
          exfalso
          have h := HOA.out
          rw [orgR_no hz] at h
          injection h with h
          exact hz h
        obtain ⟨ou, hou⟩ := org_of (s := ([], [])) (show doN [] ([] ++ l ++ [p, q]) = (0, (doN [] ([] ++ l ++ [p, q])).2) from Prod.ext hz rfl)
        have HPS : Hid (passN p q = some (x, y)) := Lib.hid (outN_some HO.out HBO.out)
        have HOB : Hid (orgR ([] ++ l ++ [x, y]) = (0, oa)) := Lib.hid (by
          rw [orgR_yes (org_behind HPS.out hou)]
          have h := HOA.out
          rw [orgR_yes hou] at h
          exact h)
        replace HTJ := Lib.hid (jn_all (us := [x, y]) HL_l.out (fun r hr => (by simp at hr; rcases hr with rfl | rfl; exact HL_x.out; exact HL_y.out)) (by rw [HN_l.out]; exact HQ_l.out) (by simp))
        clear hz hou
        have bx_0 := BX.out.cell 0 rfl
        have bx_1 := BX.out.cell 1 rfl
        have bx_2 := BX.out.cell 2 rfl
        have bx_3 := BX.out.cell 3 rfl
        have bx_4 := BX.out.cell 4 rfl
        have bx_l := BX.out.lt
        have by_0 := BY.out.cell 0 rfl
        have by_1 := BY.out.cell 1 rfl
        have by_2 := BY.out.cell 2 rfl
        have by_3 := BY.out.cell 3 rfl
        have by_4 := BY.out.cell 4 rfl
        have by_l := BY.out.lt
        go_upto_region 9 with fail
        obtain ⟨N, hN⟩ : ∃ N, wc.heap.size = N := ⟨_, rfl⟩
        have HNW := Lib.hid hN
        have HA := Lib.hid (show Below wc.heap.size wc (wc.alloc (.cells #[.int .i64 x.id.1, .int .i64 x.id.2, .slice D_x d_x e_x, strV x.txt, .slice A_x n_x c_x, .int .i64 y.id.1, .int .i64 y.id.2, .slice D_y d_y e_y, strV y.txt, .slice A_y n_y c_y] 41)).drew from below_drewN ((Below.refl _ _).alloc (Nat.le_refl _) _) 1)
        have HBB := Lib.hid (show Below wc.heap.size wc wc.drew from below_drewN (Below.refl _ _) 1)
        have HZA := Lib.hid (show Blk (wc.alloc (.cells #[.int .i64 x.id.1, .int .i64 x.id.2, .slice D_x d_x e_x, strV x.txt, .slice A_x n_x c_x, .int .i64 y.id.1, .int .i64 y.id.2, .slice D_y d_y e_y, strV y.txt, .slice A_y n_y c_y] 41)).drew wc.heap.size 41 #[.int .i64 x.id.1, .int .i64 x.id.2, .slice D_x d_x e_x, strV x.txt, .slice A_x n_x c_x, .int .i64 y.id.1, .int .i64 y.id.2, .slice D_y d_y e_y, strV y.txt, .slice A_y n_y c_y] from (Blk.new wc _ _).drewN 1)
        have HSA : Hid (RdN (wc.alloc (.cells #[.int .i64 x.id.1, .int .i64 x.id.2, .slice D_x d_x e_x, strV x.txt, .slice A_x n_x c_x, .int .i64 y.id.1, .int .i64 y.id.2, .slice D_y d_y e_y, strV y.txt, .slice A_y n_y c_y] 41)).drew N A_l l) := Lib.hid (by rw [← hN]; exact RdN.below HR_l.out HA.out)
        have HSB : Hid (RdN wc.drew N A_l l) := Lib.hid (by rw [← hN]; exact RdN.below HR_l.out HBB.out)
        have HVN : Hid (∀ X, Below wc.heap.size wc X → NCells X N [x, y] [.int .i64 x.id.1, .int .i64 x.id.2, .slice D_x d_x e_x, strV x.txt, .slice A_x n_x c_x, .int .i64 y.id.1, .int .i64 y.id.2, .slice D_y d_y e_y, strV y.txt, .slice A_y n_y c_y]) := Lib.hid (fun X hb => by rw [← hN]; exact (NCells.one (HV_x.out.below hb)).append rfl (NCells.one (HV_y.out.below hb)))
        have HSX : Hid (∀ X, Below wc.heap.size wc X → X.cell? ⟨z_w_4, 0, none⟩ = some (.int .i64 x.id.1) ∧ X.cell? ⟨z_w_4, 1, none⟩ = some (.int .i64 x.id.2) ∧ X.cell? ⟨z_w_4, 2, none⟩ = some (.slice D_x d_x e_x) ∧ X.cell? ⟨z_w_4, 3, none⟩ = some (strV x.txt) ∧ X.cell? ⟨z_w_4, 4, none⟩ = some (.slice A_x n_x c_x) ∧ X.cell? ⟨z_w_4 + 1, 0, none⟩ = some (.int .i64 y.id.1) ∧ X.cell? ⟨z_w_4 + 1, 1, none⟩ = some (.int .i64 y.id.2) ∧ X.cell? ⟨z_w_4 + 1, 2, none⟩ = some (.slice D_y d_y e_y) ∧ X.cell? ⟨z_w_4 + 1, 3, none⟩ = some (strV y.txt) ∧ X.cell? ⟨z_w_4 + 1, 4, none⟩ = some (.slice A_y n_y c_y)) := Lib.hid (fun X hb => ⟨(BX.out.below hb BX.out.lt).cell 0 rfl, (BX.out.below hb BX.out.lt).cell 1 rfl, (BX.out.below hb BX.out.lt).cell 2 rfl, (BX.out.below hb BX.out.lt).cell 3 rfl, (BX.out.below hb BX.out.lt).cell 4 rfl, (BY.out.below hb BY.out.lt).cell 0 rfl, (BY.out.below hb BY.out.lt).cell 1 rfl, (BY.out.below hb BY.out.lt).cell 2 rfl, (BY.out.below hb BY.out.lt).cell 3 rfl, (BY.out.below hb BY.out.lt).cell 4 rfl⟩)
        have HKD := Lib.hid (HSX.out _ HBB.out); have HKA := Lib.hid (HSX.out _ HA.out)
        have HL1 : Hid (([] : List Nm).length + n_l ≤ 1759218604440) := Lib.hid (by have := HZ_l.out; simp; omega)
        have HL2 : Hid (([] ++ l : List Nm).length + 2 ≤ 1759218604440) := Lib.hid (by have := HZ_l.out; rw [List.nil_append, HN_l.out]; omega)
        have HY1 : Hid (List.length ([.int .i64 x.id.1, .int .i64 x.id.2, .slice D_x d_x e_x, strV x.txt, .slice A_x n_x c_x, .int .i64 y.id.1, .int .i64 y.id.2, .slice D_y d_y e_y, strV y.txt, .slice A_y n_y c_y] : List Value) = [x, y].length * 5) := Lib.hid rfl
        have HM1 : Hid ([x, y].length = 2) := Lib.hid rfl
        have HP0 : Hid (0 < 2) := Lib.hid (by decide)
        have HUL : Hid ([x, y].length ≤ 2) := Lib.hid (by simp)
        have HLE := Lib.hid (Nat.le_refl N)
        have HLA : Hid (N ≤ (wc.alloc (.cells #[.int .i64 x.id.1, .int .i64 x.id.2, .slice D_x d_x e_x, strV x.txt, .slice A_x n_x c_x, .int .i64 y.id.1, .int .i64 y.id.2, .slice D_y d_y e_y, strV y.txt, .slice A_y n_y c_y] 41)).drew.heap.size) := Lib.hid (by rw [← hN]; exact HA.out.size)
        have HLB : Hid (N ≤ wc.drew.heap.size) := Lib.hid (by rw [← hN]; exact HBB.out.size)
        have PF : Hid (∀ (X : World) A n c, Below wc.heap.size wc X → List.length ([] ++ l ++ [x, y]) = n → RdN X X.heap.size A ([] ++ l ++ [x, y]) → Calls Tryz.prog 9 #[.slice A n c] X (OrgsEnd X (0, oa))) := Lib.hid (fun X A n c hb hn hr => OrgsC A n c ([] ++ l ++ [x, y]) X hn (jn_len hn HN_l.out HQ_l.out (by simp)) HTJ.out.1 HTJ.out.2 hr 0 oa HOB.out)
        clear hN
        go_cut [14, 15] from 55 (fun s14 s15 wx => ∃ A n c, s14 = .slice A n c ∧ s15 = .int .i64 0 ∧ List.length oa = n ∧ n ≤ c ∧ RdO wx (· < wx.heap.size) A oa ∧ Below wc.heap.size wc wx)
        case first =>
          go_region_held3 (fun X => X.cell? ⟨z_w_4, 0, none⟩ = some (.int .i64 x.id.1) ∧ X.cell? ⟨z_w_4, 1, none⟩ = some (.int .i64 x.id.2) ∧ X.cell? ⟨z_w_4, 2, none⟩ = some (.slice D_x d_x e_x) ∧ X.cell? ⟨z_w_4, 3, none⟩ = some (strV x.txt) ∧ X.cell? ⟨z_w_4, 4, none⟩ = some (.slice A_x n_x c_x) ∧ X.cell? ⟨z_w_4 + 1, 0, none⟩ = some (.int .i64 y.id.1) ∧ X.cell? ⟨z_w_4 + 1, 1, none⟩ = some (.int .i64 y.id.2) ∧ X.cell? ⟨z_w_4 + 1, 2, none⟩ = some (.slice D_y d_y e_y) ∧ X.cell? ⟨z_w_4 + 1, 3, none⟩ = some (strV y.txt) ∧ X.cell? ⟨z_w_4 + 1, 4, none⟩ = some (.slice A_y n_y c_y))
            (first | (with_reducible exact HKD.out) | (with_reducible exact HKA.out) | (with_reducible exact hS1) | (with_reducible exact hSx) | (with_reducible exact hS2) | (with_reducible exact hS3))
            (first
            | ((with_reducible refine step_ownMW (W := (wc.alloc (.cells #[.int .i64 x.id.1, .int .i64 x.id.2, .slice D_x d_x e_x, strV x.txt, .slice A_x n_x c_x, .int .i64 y.id.1, .int .i64 y.id.2, .slice D_y d_y e_y, strV y.txt, .slice A_y n_y c_y] 41)).drew) (N := N) (base := N) (c := c_l) ?_ (.const (.slice none 0 0)) (.tmp 56) ?_ ?_ ?_ (ownM_nil _ N N) HSA.out HN_l.out HL1.out HLE.out HLA.out ?_); rfl; rfl; rfl; rfl; intro v1 u1 ho hg; have hb1 := below_gr hg; have HU1 := Lib.hid (below_mv HA.out hb1); have HO1 := Lib.hid ho; have HS1 := Lib.hid (blk_srcN (ys := [.int .i64 x.id.1, .int .i64 x.id.2, .slice D_x d_x e_x, strV x.txt, .slice A_x n_x c_x, .int .i64 y.id.1, .int .i64 y.id.2, .slice D_y d_y e_y, strV y.txt, .slice A_y n_y c_y]) (HZA.out.below hb1 HZA.out.lt) rfl); have HN1 := Lib.hid (Nat.le_trans HLA.out hb1.size); have HC1 := Lib.hid (HVN.out _ HU1.out); have hS1 := HSX.out _ HU1.out; clear hb1 ho hg)
            | ((with_reducible refine step_ownMW (W := wc.drew) (N := N) (base := N) (c := c_l) ?_ (.const (.slice none 0 0)) (.tmp 56) ?_ ?_ ?_ (ownM_nil _ N N) HSB.out HN_l.out HL1.out HLE.out HLB.out ?_); rfl; rfl; rfl; rfl; intro v1 u1 ho hg; have hb0 := below_gr hg; have hbu := below_mv HBB.out hb0; have hS1 := HSX.out _ hbu; have hbx : Below u1.heap.size u1 (u1.alloc (.cells #[.int .i64 x.id.1, .int .i64 x.id.2, .slice D_x d_x e_x, strV x.txt, .slice A_x n_x c_x, .int .i64 y.id.1, .int .i64 y.id.2, .slice D_y d_y e_y, strV y.txt, .slice A_y n_y c_y] 41)) := (Below.refl _ _).alloc (Nat.le_refl _) _; have hb1 := hb0.trans (hbx.mono hb0.size); have HU1 := Lib.hid (below_mv HBB.out hb1); have hSx := HSX.out _ HU1.out; have HN1 := Lib.hid (Nat.le_trans HLB.out hb1.size); have HO1 := Lib.hid (OwnM.below ho (Nat.le_trans HLB.out hb0.size) hbx); have HS1 := Lib.hid (blk_srcN (ys := [.int .i64 x.id.1, .int .i64 x.id.2, .slice D_x d_x e_x, strV x.txt, .slice A_x n_x c_x, .int .i64 y.id.1, .int .i64 y.id.2, .slice D_y d_y e_y, strV y.txt, .slice A_y n_y c_y]) (Blk.new u1 41 #[.int .i64 x.id.1, .int .i64 x.id.2, .slice D_x d_x e_x, strV x.txt, .slice A_x n_x c_x, .int .i64 y.id.1, .int .i64 y.id.2, .slice D_y d_y e_y, strV y.txt, .slice A_y n_y c_y]) rfl); have HC1 := Lib.hid (HVN.out _ HU1.out); clear hb0 hbx hb1 ho hg hbu)
            | ((with_reducible refine step_ownMC (N := N) (base := N) (c := 2) ?_ (.tmp 57) (.tmp 60) ?_ ?_ ?_ HO1.out HC1.out HY1.out HS1.out HM1.out HP0.out HL2.out HLE.out HN1.out ?_); rfl; rfl; rfl; rfl; intro v2 u2 ho hg; have hu2 := HU1.out.grown hg HU1.out.size (fun k e => by rw [HNW.out]; exact ownM_ge HO1.out k e); have HU2 := Lib.hid hu2; have hS2 := HSX.out _ hu2; obtain ⟨A_j, c_j, hv2, hc2, hr2⟩ := rdN_own ho (by rw [← HNW.out]; exact hu2.size); obtain ⟨n_j, hn⟩ : ∃ n, List.length ([] ++ l ++ [x, y]) = n := ⟨_, rfl⟩; rw [hn] at hv2 hc2; subst hv2; have hle : n_j ≤ maxLen := jn_le hn HN_l.out HZ_l.out HUL.out; have HNJ := Lib.hid hn; have HRJ := Lib.hid hr2; clear ho hg hn hc2 hr2 hu2 hle)
            | (go_at_call 9; (with_reducible refine (PF.out u2 A_j n_j c_j HU2.out HNJ.out HRJ.out).mono ?_); rintro e u3 ⟨A_u, n_u, c_u, rfl, hnu, hcu, hru, hb3⟩; have HU3 := Lib.hid (below_mv HU2.out hb3); have HNU := Lib.hid hnu; have HCU := Lib.hid hcu; have HRU := Lib.hid hru; have hS3 := HSX.out _ HU3.out; clear hb3 hnu hcu hru))
          all_goals (try go_wp2_with fail)
          all_goals go_meet
          all_goals exact ⟨_, _, _, rfl, rfl, HNU.out, HCU.out, HRU.out, HU3.out⟩
        case rest =>
          obtain ⟨A_b, n_b, c_b, rfl, rfl, hnu, hcu, hru, hb⟩ := hcut
          clear HNW HA HBB HZA HSA HSB HVN HSX HKD HKA HL1 HL2 HY1 HM1 HP0 HUL HLE HLA HLB bx_0 bx_1 bx_2 bx_3 bx_4 bx_l by_0 by_1 by_2 by_3 by_4 by_l PF
          replace HR_a := Lib.hid (RdO.mv HR_a.out hb)
          replace HR_l := Lib.hid (RdN.mv HR_l.out hb)
          replace BP := Lib.hid (BP.out.below hb BP.out.lt)
          replace BQ := Lib.hid (BQ.out.below hb BQ.out.lt)
          replace HV_p := Lib.hid (HV_p.out.mv hb)
          replace HV_q := Lib.hid (HV_q.out.mv hb)
          replace HV_x := Lib.hid (HV_x.out.mv hb)
          replace HV_y := Lib.hid (HV_y.out.mv hb)
          replace BX := Lib.hid (BX.out.below hb BX.out.lt)
          replace BY := Lib.hid (BY.out.below hb BY.out.lt)
          replace HB := Lib.hid (below_mv HB.out hb)
          clear hb
          have HN_b := Lib.hid hnu; have HC_b := Lib.hid hcu; have HR_b := Lib.hid hru
          clear hnu hcu hru
          obtain rfl : n_a = n_b := by rw [← HN_a.out, ← HN_b.out]
          go_wp2_with fail
          refine (refSelfB A_a A_b n_a c_a c_b oa wc HN_a.out (by have h1 := HSO.out.1; have h2 := HN_a.out; omega) (fun x hx => by have := HSO.out.2 x hx; omega) HR_a.out HR_b.out).mono ?_
          rintro e w_5 ⟨rfl, hb⟩
          replace HR_a := Lib.hid (RdO.mv HR_a.out hb)
          replace HR_b := Lib.hid (RdO.mv HR_b.out hb)
          replace HR_l := Lib.hid (RdN.mv HR_l.out hb)
          replace BP := Lib.hid (BP.out.below hb BP.out.lt)
          replace BQ := Lib.hid (BQ.out.below hb BQ.out.lt)
          replace HV_p := Lib.hid (HV_p.out.mv hb)
          replace HV_q := Lib.hid (HV_q.out.mv hb)
          replace HV_x := Lib.hid (HV_x.out.mv hb)
          replace HV_y := Lib.hid (HV_y.out.mv hb)
          replace BX := Lib.hid (BX.out.below hb BX.out.lt)
          replace BY := Lib.hid (BY.out.below hb BY.out.lt)
          replace HB := Lib.hid (below_mv HB.out hb)
          clear hb
          go_wp2
          go_ret
          exact ⟨rfl, HB.out⟩

end BmL
open BmL
open Tx
open Go.ChangeShapes Go.WideShapes Go.ChangeAt

theorem blameStays_own : ownKnob Tryz.prog.godebug = none := by kernel_rfl
theorem blameStays_laidOut : laidOutB Tryz.prog = true := by kernel_rfl

set_option maxRecDepth 100000 in
theorem blameStays_lifted (os : Os) (started : os.Started) (H : Type) (enc : TypeId × Value → H) :
    ReturnsInHanded {} Tryz.checked os 6 .any (Rows.blameStaysSpec.pre6 enc Tryz.prog Tryz.f6 Rows.blameStaysRow.domain false) (Rows.blameStaysSpec.post enc Tryz.prog Tryz.f6 false true false false) := by
  refine returnsInHanded_of_change_sized (C := Tryz.checked) blameStays_own started (by kernel_rfl) Tryz.func6
    (ChangeSpec.witness6 (enc := enc) (C := Tryz.checked) false ⟨#[], #[.slice none 0 0, .agg #[.int .i64 0, .int .i64 0, .slice none 0 0, .string ByteArray.empty, .slice none 0 0], .agg #[.int .i64 0, .int .i64 0, .slice none 0 0, .string ByteArray.empty, .slice none 0 0]], []⟩ 8 (by kernel_rfl) (by kernel_rfl) (by kernel_rfl) (by kernel_rfl)) ?_
  intro W base args ds gs before hval0 hW hcnd hsz0 _
  have hval : ∀ (j : Nat) t v, Tryz.f6.params[j]? = some t → args[j]? = some v → Value.okWide Tryz.prog W .any base t v := hval0
  have hsz : (DataW.weightsEach Tryz.prog (Tryz.f6.params.toList ++ Rows.blameStaysSpec.plain.varTypes Tryz.prog) (ds ++ gs)).all (· ≤ reachBytes) = true := hsz0
  have hW' := hW
  obtain ⟨p, q, hA0, hV, rfl, hfz, hnd⟩ := hW
  have hA : DataW.TrodAll enc Tryz.prog W 0 (fun _ => true) true Tryz.f6.params.toList args.toList ds p := hA0
  rw [Tryz.params6] at hA hval hsz
  obtain ⟨v0, vs0, d0, ds0, p0, q0, hargs, rfl, rfl, h0, r0⟩ := trodAll_cons hA
  obtain ⟨v1, vs1, d1, ds1, p1, q1, rfl, rfl, rfl, h1, r1⟩ := trodAll_cons r0
  obtain ⟨v2, vs2, d2, ds2, p2, q2, rfl, rfl, rfl, h2, r2⟩ := trodAll_cons r1
  obtain ⟨rfl, rfl, rfl⟩ := trodAll_nil r2
  obtain rfl : args = #[v0, v1, v2] := by cases args; simp_all
  obtain ⟨rfl, rfl⟩ := trodVars_none hV
  obtain ⟨a0, n0, c0, rfl⟩ := okWide_slice Tryz.underlying22 (hval 0 22 v0 rfl rfl)
  have k0 := h0
  have lt0 : ∀ x ∈ p0, x.block < W.heap.size := by obtain ⟨m, hm⟩ := k0; exact DataW.trod_lt m _ _ _ hm
  obtain ⟨l0, s0, z0⟩ : ∃ l, NmsArg W a0 n0 c0 l ∧ n0 ≤ 1759218604390 := by
    obtain ⟨fuel, hf⟩ := h0
    exact nms_wide hf (by simp [Value.cells]) (fun k hk => by have := List.all_eq_true.1 hsz _ (DataW.weights_mem_each (j := 0) rfl rfl k hk); simpa using this)
  have k1 := h1
  have lt1 : ∀ x ∈ p1, x.block < W.heap.size := by obtain ⟨m, hm⟩ := k1; exact DataW.trod_lt m _ _ _ hm
  obtain ⟨a1, n1, c1, b1, m1, e1, l1, rfl, s1⟩ := nm_in (hval 1 41 v1 rfl rfl) h1
  have k2 := h2
  have lt2 : ∀ x ∈ p2, x.block < W.heap.size := by obtain ⟨m, hm⟩ := k2; exact DataW.trod_lt m _ _ _ hm
  obtain ⟨a2, n2, c2, b2, m2, e2, l2, rfl, s2⟩ := nm_in (hval 2 41 v2 rfl rfl) h2
  clear hA0 hval0 hsz hsz0
  refine (blameStays_walk a0 n0 c0 l0 a1 n1 c1 b1 m1 e1 l1 a2 n2 c2 b2 m2 e2 l2 W s0 z0 s1 s2).mono fun e W' ⟨he, bel⟩ => ?_
  subst he
  exact ⟨_, rfl, _, _, _, [], _, [], hW', trodAll_mk1 (shut_bool Tryz.underlying4 _), (trodAll_cons_mk (Below.trod blameStays_laidOut (by kernel_rfl) (of_decide_eq_true (by kernel_rfl)) k0 bel lt0) (trodAll_cons_mk (Below.trod blameStays_laidOut (by kernel_rfl) (of_decide_eq_true (by kernel_rfl)) k1 bel lt1) (trodAll_cons_mk (Below.trod blameStays_laidOut (by kernel_rfl) (of_decide_eq_true (by kernel_rfl)) k2 bel lt2) trodAll_mk0))), rfl, bel.frame _, fun h => by cases h⟩

/-- The statement. -/
theorem blameStays_proved : Rows.BlameStaysSaid :=
  OpenClaim.holds_of_wide 6 Tryz.f6 rfl rfl rfl rfl rfl rfl rfl ⟨rfl, rfl, rfl, rfl, rfl⟩ rfl rfl rfl rfl rfl (by kernel_rfl) Tryz.func6 (by kernel_rfl)
    (of_decide_eq_true (by kernel_rfl)) (by unfold Func.isWrapper; first | (rw [if_pos (by decide +kernel)]; kernel_rfl) | (rw [if_neg (by decide +kernel)]; exact ⟨rfl, rfl⟩))
    (fun os started H enc _ => blameStays_lifted os started H enc)

#print axioms blameStays_proved
end Go.Proofs.YtfnhjflocfmcoaaGreat
