/-
  The statement BlameNext: one patch more changes the births of those files alone that its changes name.
-/
import Derived.OpenShut
import Derived.ShutString
import Derived.BigQuiet
import Derived.Test.YtfnhjflocfmcoaaBX2
set_option maxRecDepth 100000
namespace Go.Proofs.Ytfnhjflocfmcoaa
open Go.RowKit
set_option linter.unusedVariables false
set_option linter.unusedSimpArgs false
open Tr Tx Hk Pr Fl Pn Tg Bm
namespace BmL
attribute [local go_sem] eq_id eq_bi

set_option maxRecDepth 100000 in
set_option maxHeartbeats 8000000 in
theorem blameNext_walk (A_l : Option Addr) (n_l c_l : Nat) (l : List Nm) (D_p : Option Addr) (d_p e_p : Nat) (A_p : Option Addr) (n_p c_p : Nat) (p : Nm) (name : List UInt8) (w : World) (h_l : NmsArg w A_l n_l c_l l) (z_l : n_l ≤ 1759218604390) (h_p : NV w w.heap.size D_p d_p e_p A_p n_p c_p p) (hw_name : name.length ≤ maxLen) :
    Calls Try.prog 3 #[.slice A_l n_l c_l, nmV p.id D_p d_p e_p p.txt A_p n_p c_p, strV name] w (LawEnd w) := by
  have b0 := (Blk.new w 28 #[.int .i64 p.id.1, .int .i64 p.id.2, .slice D_p d_p e_p, strV p.txt, .slice A_p n_p c_p])
  have hb : Below w.heap.size w (w.alloc (.cells #[.int .i64 p.id.1, .int .i64 p.id.2, .slice D_p d_p e_p, strV p.txt, .slice A_p n_p c_p] 28)) := ((Below.refl w.heap.size w).alloc (by simp; try omega) (.cells #[.int .i64 p.id.1, .int .i64 p.id.2, .slice D_p d_p e_p, strV p.txt, .slice A_p n_p c_p] 28))
  have HV_p := Lib.hid (h_p.mv hb)
  clear h_p
  have HR_l := Lib.hid h_l.rd; have HN_l := Lib.hid h_l.len; have HC_l := Lib.hid h_l.cap; have HM_l := Lib.hid h_l.le
  clear h_l
  have HZ_l := Lib.hid z_l; clear z_l
  replace HR_l := Lib.hid (RdN.mv HR_l.out hb)
  go_enter Try.func3, Try.ntmps3
  go_upto_region 1 with fail
  generalize (w.alloc (.cells #[.int .i64 p.id.1, .int .i64 p.id.2, .slice D_p d_p e_p, strV p.txt, .slice A_p n_p c_p] 28)) = w_1 at b0 HV_p HR_l hb ⊢
  obtain ⟨z, hz⟩ : ∃ z, w.heap.size = z := ⟨_, rfl⟩
  rw [hz] at b0 ⊢
  have BP := Lib.hid b0
  have HZ := Lib.hid hz
  clear b0 hz
  have HB := Lib.hid hb; clear hb
  go_wp2_with fail
  refine (Bm.awake w_1).mono ?_
  rintro e w_2 ⟨rfl, hb⟩
  replace HR_l := Lib.hid (RdN.mv HR_l.out hb)
  replace BP := Lib.hid (BP.out.below hb BP.out.lt)
  replace HV_p := Lib.hid (HV_p.out.mv hb)
  replace HB := Lib.hid (below_mv HB.out hb)
  clear hb
  obtain ⟨bl, hbl⟩ : ∃ b, fewN (l ++ [p]) 9 = b := ⟨_, rfl⟩
  have HBL := Lib.hid hbl; clear hbl
  have bp_0 := BP.out.cell 0 rfl
  have bp_1 := BP.out.cell 1 rfl
  have bp_2 := BP.out.cell 2 rfl
  have bp_3 := BP.out.cell 3 rfl
  have bp_4 := BP.out.cell 4 rfl
  have bp_l := BP.out.lt
  go_upto_region 2 with fail
  obtain ⟨N, hN⟩ : ∃ N, w_2.heap.size = N := ⟨_, rfl⟩
  have HNW := Lib.hid hN
  have HA := Lib.hid (show Below w_2.heap.size w_2 (w_2.alloc (.cells #[.int .i64 p.id.1, .int .i64 p.id.2, .slice D_p d_p e_p, strV p.txt, .slice A_p n_p c_p] 28)).drew from below_drewN ((Below.refl _ _).alloc (Nat.le_refl _) _) 1)
  have HBB := Lib.hid (show Below w_2.heap.size w_2 w_2.drew from below_drewN (Below.refl _ _) 1)
  have HZA := Lib.hid (show Blk (w_2.alloc (.cells #[.int .i64 p.id.1, .int .i64 p.id.2, .slice D_p d_p e_p, strV p.txt, .slice A_p n_p c_p] 28)).drew w_2.heap.size 28 #[.int .i64 p.id.1, .int .i64 p.id.2, .slice D_p d_p e_p, strV p.txt, .slice A_p n_p c_p] from (Blk.new w_2 _ _).drewN 1)
  have HSA : Hid (RdN (w_2.alloc (.cells #[.int .i64 p.id.1, .int .i64 p.id.2, .slice D_p d_p e_p, strV p.txt, .slice A_p n_p c_p] 28)).drew N A_l l) := Lib.hid (by rw [← hN]; exact RdN.below HR_l.out HA.out)
  have HSB : Hid (RdN w_2.drew N A_l l) := Lib.hid (by rw [← hN]; exact RdN.below HR_l.out HBB.out)
  have HVN : Hid (∀ X, Below w_2.heap.size w_2 X → NCells X N [p] [.int .i64 p.id.1, .int .i64 p.id.2, .slice D_p d_p e_p, strV p.txt, .slice A_p n_p c_p]) := Lib.hid (fun X hb => by rw [← hN]; exact NCells.one (HV_p.out.below hb))
  have HSX : Hid (∀ X, Below w_2.heap.size w_2 X → X.cell? ⟨z, 0, none⟩ = some (.int .i64 p.id.1) ∧ X.cell? ⟨z, 1, none⟩ = some (.int .i64 p.id.2) ∧ X.cell? ⟨z, 2, none⟩ = some (.slice D_p d_p e_p) ∧ X.cell? ⟨z, 3, none⟩ = some (strV p.txt) ∧ X.cell? ⟨z, 4, none⟩ = some (.slice A_p n_p c_p)) := Lib.hid (fun X hb => ⟨(BP.out.below hb BP.out.lt).cell 0 rfl, (BP.out.below hb BP.out.lt).cell 1 rfl, (BP.out.below hb BP.out.lt).cell 2 rfl, (BP.out.below hb BP.out.lt).cell 3 rfl, (BP.out.below hb BP.out.lt).cell 4 rfl⟩)
  have HKD := Lib.hid (HSX.out _ HBB.out); have HKA := Lib.hid (HSX.out _ HA.out)
  have HL1 : Hid (([] : List Nm).length + n_l ≤ 1759218604440) := Lib.hid (by have := HZ_l.out; simp; omega)
  have HL2 : Hid (([] ++ l : List Nm).length + 1 ≤ 1759218604440) := Lib.hid (by have := HZ_l.out; rw [List.nil_append, HN_l.out]; omega)
  have HY1 : Hid (List.length ([.int .i64 p.id.1, .int .i64 p.id.2, .slice D_p d_p e_p, strV p.txt, .slice A_p n_p c_p] : List Value) = [p].length * 5) := Lib.hid rfl
  have HM1 : Hid ([p].length = 1) := Lib.hid rfl
  have HP0 : Hid (0 < 1) := Lib.hid (by decide)
  have HUL : Hid ([p].length ≤ 2) := Lib.hid (by simp)
  have HLE := Lib.hid (Nat.le_refl N)
  have HLA : Hid (N ≤ (w_2.alloc (.cells #[.int .i64 p.id.1, .int .i64 p.id.2, .slice D_p d_p e_p, strV p.txt, .slice A_p n_p c_p] 28)).drew.heap.size) := Lib.hid (by rw [← hN]; exact HA.out.size)
  have HLB : Hid (N ≤ w_2.drew.heap.size) := Lib.hid (by rw [← hN]; exact HBB.out.size)
  have HM9 : Hid (9 ≤ 1000) := Lib.hid (by decide)
  clear hN
  go_cut [8] from 19 (fun s8 wx => s8 = .bool bl ∧ Below w_2.heap.size w_2 wx)
  case first =>
    go_region_held3 (fun X => X.cell? ⟨z, 0, none⟩ = some (.int .i64 p.id.1) ∧ X.cell? ⟨z, 1, none⟩ = some (.int .i64 p.id.2) ∧ X.cell? ⟨z, 2, none⟩ = some (.slice D_p d_p e_p) ∧ X.cell? ⟨z, 3, none⟩ = some (strV p.txt) ∧ X.cell? ⟨z, 4, none⟩ = some (.slice A_p n_p c_p))
      (first | (with_reducible exact HKD.out) | (with_reducible exact HKA.out) | (with_reducible exact hS1) | (with_reducible exact hSx) | (with_reducible exact hS2) | (with_reducible exact hS3))
      (first
      | ((with_reducible refine step_ownMW (W := (w_2.alloc (.cells #[.int .i64 p.id.1, .int .i64 p.id.2, .slice D_p d_p e_p, strV p.txt, .slice A_p n_p c_p] 28)).drew) (N := N) (base := N) (c := c_l) ?_ (.const (.slice none 0 0)) (.tmp 19) ?_ ?_ ?_ (ownM_nil _ N N) HSA.out HN_l.out HL1.out HLE.out HLA.out ?_); rfl; rfl; rfl; rfl; intro v1 u1 ho hg; have hb1 := below_gr hg; have HU1 := Lib.hid (below_mv HA.out hb1); have HO1 := Lib.hid ho; have HS1 := Lib.hid (blk_srcN (ys := [.int .i64 p.id.1, .int .i64 p.id.2, .slice D_p d_p e_p, strV p.txt, .slice A_p n_p c_p]) (HZA.out.below hb1 HZA.out.lt) rfl); have HN1 := Lib.hid (Nat.le_trans HLA.out hb1.size); have HC1 := Lib.hid (HVN.out _ HU1.out); have hS1 := HSX.out _ HU1.out; clear hb1 ho hg)
      | ((with_reducible refine step_ownMW (W := w_2.drew) (N := N) (base := N) (c := c_l) ?_ (.const (.slice none 0 0)) (.tmp 19) ?_ ?_ ?_ (ownM_nil _ N N) HSB.out HN_l.out HL1.out HLE.out HLB.out ?_); rfl; rfl; rfl; rfl; intro v1 u1 ho hg; have hb0 := below_gr hg; have hbu := below_mv HBB.out hb0; have hS1 := HSX.out _ hbu; have hbx : Below u1.heap.size u1 (u1.alloc (.cells #[.int .i64 p.id.1, .int .i64 p.id.2, .slice D_p d_p e_p, strV p.txt, .slice A_p n_p c_p] 28)) := (Below.refl _ _).alloc (Nat.le_refl _) _; have hb1 := hb0.trans (hbx.mono hb0.size); have HU1 := Lib.hid (below_mv HBB.out hb1); have hSx := HSX.out _ HU1.out; have HN1 := Lib.hid (Nat.le_trans HLB.out hb1.size); have HO1 := Lib.hid (OwnM.below ho (Nat.le_trans HLB.out hb0.size) hbx); have HS1 := Lib.hid (blk_srcN (ys := [.int .i64 p.id.1, .int .i64 p.id.2, .slice D_p d_p e_p, strV p.txt, .slice A_p n_p c_p]) (Blk.new u1 28 #[.int .i64 p.id.1, .int .i64 p.id.2, .slice D_p d_p e_p, strV p.txt, .slice A_p n_p c_p]) rfl); have HC1 := Lib.hid (HVN.out _ HU1.out); clear hb0 hbx hb1 ho hg hbu)
      | ((with_reducible refine step_ownMC (N := N) (base := N) (c := 1) ?_ (.tmp 20) (.tmp 22) ?_ ?_ ?_ HO1.out HC1.out HY1.out HS1.out HM1.out HP0.out HL2.out HLE.out HN1.out ?_); rfl; rfl; rfl; rfl; intro v2 u2 ho hg; have hu2 := HU1.out.grown hg HU1.out.size (fun k e => by rw [HNW.out]; exact ownM_ge HO1.out k e); have HU2 := Lib.hid hu2; have hS2 := HSX.out _ hu2; obtain ⟨A_j, c_j, hv2, hc2, hr2⟩ := rdN_own ho (by rw [← HNW.out]; exact hu2.size); obtain ⟨n_j, hn⟩ : ∃ n, List.length ([] ++ l ++ [p]) = n := ⟨_, rfl⟩; rw [hn] at hv2 hc2; subst hv2; have hle : n_j ≤ maxLen := jn_le hn HN_l.out HZ_l.out HUL.out; have HFW := Lib.hid (show Calls Try.prog 5 #[.slice A_j n_j c_j, .int .i64 9] u2 (BoolEnd u2 bl) from FewN A_j n_j c_j 9 (l ++ [p]) u2 bl HM9.out ⟨hn, hc2, hle, hr2⟩ HBL.out); clear ho hg hn hc2 hr2 hu2 hle)
      | (go_at_call 5; (with_reducible refine HFW.out.mono ?_); rintro e u3 ⟨rfl, hb3⟩; have HU3 := Lib.hid (below_mv HU2.out hb3); have hS3 := HSX.out _ HU3.out; clear hb3))
    all_goals (try go_wp2_with fail)
    all_goals go_meet
    all_goals exact ⟨rfl, HU3.out⟩
  case rest =>
    obtain ⟨rfl, hb⟩ := hcut
    clear HNW HA HBB HZA HSA HSB HVN HSX HKD HKA HL1 HL2 HY1 HM1 HP0 HUL HLE HLA HLB bp_0 bp_1 bp_2 bp_3 bp_4 bp_l HM9
    replace HR_l := Lib.hid (RdN.mv HR_l.out hb)
    replace BP := Lib.hid (BP.out.below hb BP.out.lt)
    replace HV_p := Lib.hid (HV_p.out.mv hb)
    replace HB := Lib.hid (below_mv HB.out hb)
    clear hb
    by_cases h100 : 100 < name.length
    case pos =>
      cases bl <;> (go_wp2; go_ret; exact ⟨rfl, HB.out⟩)
    cases bl with
    | false =>
      go_wp2
      go_ret
      exact ⟨rfl, HB.out⟩
    | true =>
    have HAL := Lib.hid (few_all HBL.out)
    have HL_l := Lib.hid (fun p (hp : p ∈ l) => HAL.out p (List.mem_append_left _ hp))
    have HQ_l : Hid (n_l ≤ 8) := Lib.hid (by have h1 := fewN_len HBL.out; rw [List.length_append, List.length_singleton, HN_l.out] at h1; omega)
    have HL_p := Lib.hid (HAL.out p (by simp))
    have HN_p : Hid (n_p ≤ 10 ∧ d_p ≤ 100) := Lib.hid (by
      have h1 := HL_p.out.2
      rw [HV_p.out.l, HV_p.out.dl] at h1
      exact h1)
    have HT_l := Lib.hid (jn_all (us := []) HL_l.out (fun r hr => by cases hr) (by rw [HN_l.out]; exact HQ_l.out) (by simp))
    replace HT_l : Hid ((allN l).length ≤ 150 ∧ Lt (allN l)) := Lib.hid (by have h := HT_l.out; simpa using h)
    go_upto_region 6 with fail
    go_loopw [9] (fun i wr => ∃ k : Nat, k ≤ n_p ∧ i = .int .i64 (k : Int) ∧ (∀ (j : Nat) c, p.l[j]? = some c → j < k → c.nm ≠ name ∧ c.to ≠ name) ∧ Below wc.heap.size wc wr) (fun i _ => n_p - (intOf i).toNat)
    case atStart => exact ⟨0, Nat.zero_le _, rfl, fun j _ _ hj => by omega, Below.refl _ _⟩
    case round =>
      obtain ⟨k, hk, rfl, hall, hb⟩ := hrel
      have HA := Lib.hid hall; have HBR := Lib.hid hb; clear hall
      replace HR_l := Lib.hid (RdN.mv HR_l.out hb)
      replace BP := Lib.hid (BP.out.below hb BP.out.lt)
      replace HV_p := Lib.hid (HV_p.out.mv hb)
      replace HB := Lib.hid (below_mv HB.out hb)
      clear hb
      have bp4 := BP.out.cell 4 rfl
      have bpl := BP.out.lt
      have hpm := HN_p.out.1
      by_cases hlt : k < n_p
      case pos =>
        have hki : (k : Int) < (n_p : Int) := by omega
        have hki0 : (0 : Int) ≤ (k : Int) := by omega
        obtain ⟨x, hx⟩ : ∃ x, p.l[k]? = some x := ⟨_, List.getElem?_eq_getElem (by rw [HV_p.out.l]; exact hlt)⟩
        obtain ⟨a, ha, _, hat⟩ := HV_p.out.r.at_ (k := k) (by rw [HV_p.out.l]; exact hlt)
        rw [(List.getElem?_eq_some_iff.1 hx).2] at hat
        obtain ⟨_, c1, c2, _⟩ := hat
        have HX := Lib.hid hx
        clear hx
        subst ha
        by_cases e1 : x.nm = name
        · rw [e1] at c1
          go_wp2
          go_ret
          exact ⟨rfl, HB.out⟩
        · have e3 : (x.nm == name) = false := by rw [beq_eq_false_iff_ne]; exact e1
          by_cases e2 : x.to = name
          · rw [e2] at c2
            go_wp2
            go_ret
            exact ⟨rfl, HB.out⟩
          · have e4 : (x.to == name) = false := by rw [beq_eq_false_iff_ne]; exact e2
            go_wp2
            refine ⟨⟨k + 1, by omega, by go_num, fun j c hc hj => ?_, HBR.out⟩, by simp [intOf]; omega⟩
            by_cases e : j = k
            · subst e
              have h := HX.out
              rw [h] at hc
              injection hc with hc
              subst hc
              exact ⟨e1, e2⟩
            · exact HA.out j c hc (by omega)
      have hki : ¬ (k : Int) < (n_p : Int) := by omega
      have HFAR : Hid (∀ (j : Nat) c, p.l[j]? = some c → c.nm ≠ name ∧ c.to ≠ name) := Lib.hid (fun j c hc => HA.out j c hc (by have := (List.getElem?_eq_some_iff.1 hc).1; rw [HV_p.out.l] at this; omega))
      clear HA HBR
      obtain ⟨⟨er, oa⟩, hoa⟩ : ∃ z, orgR l = z := ⟨_, rfl⟩
      have HOR := Lib.hid hoa; clear hoa
      obtain ⟨⟨es, ob⟩, hob⟩ : ∃ z, orgR ([] ++ l ++ [p]) = z := ⟨_, rfl⟩
      have HOB := Lib.hid hob; clear hob
      go_wp2_with fail
      clear bp4 bpl
      refine (OrgsC A_l n_l c_l l wr HN_l.out (by have := HQ_l.out; omega) HT_l.out.1 HT_l.out.2 HR_l.out er oa HOR.out).mono ?_
      rintro e w_3 ⟨A_a, n_a, c_a, rfl, hn1, hc1, hr1, hb⟩
      dsimp only at hn1 hr1 ⊢
      have HN_a := Lib.hid hn1; have HC_a := Lib.hid hc1; have HR_a := Lib.hid hr1
      clear hn1 hc1 hr1
      replace HR_l := Lib.hid (RdN.mv HR_l.out hb)
      replace BP := Lib.hid (BP.out.below hb BP.out.lt)
      replace HV_p := Lib.hid (HV_p.out.mv hb)
      replace HB := Lib.hid (below_mv HB.out hb)
      clear hb
      have HTJ := Lib.hid (jn_all (us := [p]) HL_l.out (fun r hr => (by simp at hr; rw [hr]; exact HL_p.out)) (by rw [HN_l.out]; exact HQ_l.out) (by simp))
      have bp_0 := BP.out.cell 0 rfl
      have bp_1 := BP.out.cell 1 rfl
      have bp_2 := BP.out.cell 2 rfl
      have bp_3 := BP.out.cell 3 rfl
      have bp_4 := BP.out.cell 4 rfl
      have bp_l := BP.out.lt
      go_upto_region 11 with fail
      obtain ⟨N, hN⟩ : ∃ N, w_3.heap.size = N := ⟨_, rfl⟩
      have HNW := Lib.hid hN
      have HA := Lib.hid (show Below w_3.heap.size w_3 (w_3.alloc (.cells #[.int .i64 p.id.1, .int .i64 p.id.2, .slice D_p d_p e_p, strV p.txt, .slice A_p n_p c_p] 28)).drew from below_drewN ((Below.refl _ _).alloc (Nat.le_refl _) _) 1)
      have HBB := Lib.hid (show Below w_3.heap.size w_3 w_3.drew from below_drewN (Below.refl _ _) 1)
      have HZA := Lib.hid (show Blk (w_3.alloc (.cells #[.int .i64 p.id.1, .int .i64 p.id.2, .slice D_p d_p e_p, strV p.txt, .slice A_p n_p c_p] 28)).drew w_3.heap.size 28 #[.int .i64 p.id.1, .int .i64 p.id.2, .slice D_p d_p e_p, strV p.txt, .slice A_p n_p c_p] from (Blk.new w_3 _ _).drewN 1)
      have HSA : Hid (RdN (w_3.alloc (.cells #[.int .i64 p.id.1, .int .i64 p.id.2, .slice D_p d_p e_p, strV p.txt, .slice A_p n_p c_p] 28)).drew N A_l l) := Lib.hid (by rw [← hN]; exact RdN.below HR_l.out HA.out)
      have HSB : Hid (RdN w_3.drew N A_l l) := Lib.hid (by rw [← hN]; exact RdN.below HR_l.out HBB.out)
      have HVN : Hid (∀ X, Below w_3.heap.size w_3 X → NCells X N [p] [.int .i64 p.id.1, .int .i64 p.id.2, .slice D_p d_p e_p, strV p.txt, .slice A_p n_p c_p]) := Lib.hid (fun X hb => by rw [← hN]; exact NCells.one (HV_p.out.below hb))
      have HSX : Hid (∀ X, Below w_3.heap.size w_3 X → X.cell? ⟨z, 0, none⟩ = some (.int .i64 p.id.1) ∧ X.cell? ⟨z, 1, none⟩ = some (.int .i64 p.id.2) ∧ X.cell? ⟨z, 2, none⟩ = some (.slice D_p d_p e_p) ∧ X.cell? ⟨z, 3, none⟩ = some (strV p.txt) ∧ X.cell? ⟨z, 4, none⟩ = some (.slice A_p n_p c_p)) := Lib.hid (fun X hb => ⟨(BP.out.below hb BP.out.lt).cell 0 rfl, (BP.out.below hb BP.out.lt).cell 1 rfl, (BP.out.below hb BP.out.lt).cell 2 rfl, (BP.out.below hb BP.out.lt).cell 3 rfl, (BP.out.below hb BP.out.lt).cell 4 rfl⟩)
      have HKD := Lib.hid (HSX.out _ HBB.out); have HKA := Lib.hid (HSX.out _ HA.out)
      have HL1 : Hid (([] : List Nm).length + n_l ≤ 1759218604440) := Lib.hid (by have := HZ_l.out; simp; omega)
      have HL2 : Hid (([] ++ l : List Nm).length + 1 ≤ 1759218604440) := Lib.hid (by have := HZ_l.out; rw [List.nil_append, HN_l.out]; omega)
      have HY1 : Hid (List.length ([.int .i64 p.id.1, .int .i64 p.id.2, .slice D_p d_p e_p, strV p.txt, .slice A_p n_p c_p] : List Value) = [p].length * 5) := Lib.hid rfl
      have HM1 : Hid ([p].length = 1) := Lib.hid rfl
      have HP0 : Hid (0 < 1) := Lib.hid (by decide)
      have HUL : Hid ([p].length ≤ 2) := Lib.hid (by simp)
      have HLE := Lib.hid (Nat.le_refl N)
      have HLA : Hid (N ≤ (w_3.alloc (.cells #[.int .i64 p.id.1, .int .i64 p.id.2, .slice D_p d_p e_p, strV p.txt, .slice A_p n_p c_p] 28)).drew.heap.size) := Lib.hid (by rw [← hN]; exact HA.out.size)
      have HLB : Hid (N ≤ w_3.drew.heap.size) := Lib.hid (by rw [← hN]; exact HBB.out.size)
      have PF : Hid (∀ (X : World) A n c, Below w_3.heap.size w_3 X → List.length ([] ++ l ++ [p]) = n → RdN X X.heap.size A ([] ++ l ++ [p]) → Calls Try.prog 6 #[.slice A n c] X (OrgsEnd X (es, ob))) := Lib.hid (fun X A n c hb hn hr => OrgsC A n c ([] ++ l ++ [p]) X hn (jn_len hn HN_l.out HQ_l.out (by simp)) HTJ.out.1 HTJ.out.2 hr es ob HOB.out)
      clear hN
      go_cut [12, 13] from 67 (fun s12 s13 wx => ∃ A n c, s12 = .slice A n c ∧ s13 = .int .i64 es ∧ List.length ob = n ∧ n ≤ c ∧ RdO wx (· < wx.heap.size) A ob ∧ Below w_3.heap.size w_3 wx)
      case first =>
        go_region_held3 (fun X => X.cell? ⟨z, 0, none⟩ = some (.int .i64 p.id.1) ∧ X.cell? ⟨z, 1, none⟩ = some (.int .i64 p.id.2) ∧ X.cell? ⟨z, 2, none⟩ = some (.slice D_p d_p e_p) ∧ X.cell? ⟨z, 3, none⟩ = some (strV p.txt) ∧ X.cell? ⟨z, 4, none⟩ = some (.slice A_p n_p c_p))
          (first | (with_reducible exact HKD.out) | (with_reducible exact HKA.out) | (with_reducible exact hS1) | (with_reducible exact hSx) | (with_reducible exact hS2) | (with_reducible exact hS3))
          (first
          | ((with_reducible refine step_ownMW (W := (w_3.alloc (.cells #[.int .i64 p.id.1, .int .i64 p.id.2, .slice D_p d_p e_p, strV p.txt, .slice A_p n_p c_p] 28)).drew) (N := N) (base := N) (c := c_l) ?_ (.const (.slice none 0 0)) (.tmp 68) ?_ ?_ ?_ (ownM_nil _ N N) HSA.out HN_l.out HL1.out HLE.out HLA.out ?_); rfl; rfl; rfl; rfl; intro v1 u1 ho hg; have hb1 := below_gr hg; have HU1 := Lib.hid (below_mv HA.out hb1); have HO1 := Lib.hid ho; have HS1 := Lib.hid (blk_srcN (ys := [.int .i64 p.id.1, .int .i64 p.id.2, .slice D_p d_p e_p, strV p.txt, .slice A_p n_p c_p]) (HZA.out.below hb1 HZA.out.lt) rfl); have HN1 := Lib.hid (Nat.le_trans HLA.out hb1.size); have HC1 := Lib.hid (HVN.out _ HU1.out); have hS1 := HSX.out _ HU1.out; clear hb1 ho hg)
          | ((with_reducible refine step_ownMW (W := w_3.drew) (N := N) (base := N) (c := c_l) ?_ (.const (.slice none 0 0)) (.tmp 68) ?_ ?_ ?_ (ownM_nil _ N N) HSB.out HN_l.out HL1.out HLE.out HLB.out ?_); rfl; rfl; rfl; rfl; intro v1 u1 ho hg; have hb0 := below_gr hg; have hbu := below_mv HBB.out hb0; have hS1 := HSX.out _ hbu; have hbx : Below u1.heap.size u1 (u1.alloc (.cells #[.int .i64 p.id.1, .int .i64 p.id.2, .slice D_p d_p e_p, strV p.txt, .slice A_p n_p c_p] 28)) := (Below.refl _ _).alloc (Nat.le_refl _) _; have hb1 := hb0.trans (hbx.mono hb0.size); have HU1 := Lib.hid (below_mv HBB.out hb1); have hSx := HSX.out _ HU1.out; have HN1 := Lib.hid (Nat.le_trans HLB.out hb1.size); have HO1 := Lib.hid (OwnM.below ho (Nat.le_trans HLB.out hb0.size) hbx); have HS1 := Lib.hid (blk_srcN (ys := [.int .i64 p.id.1, .int .i64 p.id.2, .slice D_p d_p e_p, strV p.txt, .slice A_p n_p c_p]) (Blk.new u1 28 #[.int .i64 p.id.1, .int .i64 p.id.2, .slice D_p d_p e_p, strV p.txt, .slice A_p n_p c_p]) rfl); have HC1 := Lib.hid (HVN.out _ HU1.out); clear hb0 hbx hb1 ho hg hbu)
          | ((with_reducible refine step_ownMC (N := N) (base := N) (c := 1) ?_ (.tmp 69) (.tmp 71) ?_ ?_ ?_ HO1.out HC1.out HY1.out HS1.out HM1.out HP0.out HL2.out HLE.out HN1.out ?_); rfl; rfl; rfl; rfl; intro v2 u2 ho hg; have hu2 := HU1.out.grown hg HU1.out.size (fun k e => by rw [HNW.out]; exact ownM_ge HO1.out k e); have HU2 := Lib.hid hu2; have hS2 := HSX.out _ hu2; obtain ⟨A_j, c_j, hv2, hc2, hr2⟩ := rdN_own ho (by rw [← HNW.out]; exact hu2.size); obtain ⟨n_j, hn⟩ : ∃ n, List.length ([] ++ l ++ [p]) = n := ⟨_, rfl⟩; rw [hn] at hv2 hc2; subst hv2; have hle : n_j ≤ maxLen := jn_le hn HN_l.out HZ_l.out HUL.out; have HNJ := Lib.hid hn; have HRJ := Lib.hid hr2; clear ho hg hn hc2 hr2 hu2 hle)
          | (go_at_call 6; (with_reducible refine (PF.out u2 A_j n_j c_j HU2.out HNJ.out HRJ.out).mono ?_); rintro e u3 ⟨A_u, n_u, c_u, rfl, hnu, hcu, hru, hb3⟩; have HU3 := Lib.hid (below_mv HU2.out hb3); have HNU := Lib.hid hnu; have HCU := Lib.hid hcu; have HRU := Lib.hid hru; have hS3 := HSX.out _ HU3.out; clear hb3 hnu hcu hru))
        all_goals (try go_wp2_with fail)
        all_goals go_meet
        all_goals exact ⟨_, _, _, rfl, rfl, HNU.out, HCU.out, HRU.out, HU3.out⟩
      case rest =>
        obtain ⟨A_b, n_b, c_b, rfl, rfl, hnu, hcu, hru, hb⟩ := hcut
        clear HNW HA HBB HZA HSA HSB HVN HSX HKD HKA HL1 HL2 HY1 HM1 HP0 HUL HLE HLA HLB bp_0 bp_1 bp_2 bp_3 bp_4 bp_l PF
        replace HR_a := Lib.hid (RdO.mv HR_a.out hb)
        replace HR_l := Lib.hid (RdN.mv HR_l.out hb)
        replace BP := Lib.hid (BP.out.below hb BP.out.lt)
        replace HV_p := Lib.hid (HV_p.out.mv hb)
        replace HB := Lib.hid (below_mv HB.out hb)
        clear hb
        have HN_b := Lib.hid hnu; have HC_b := Lib.hid hcu; have HR_b := Lib.hid hru
        clear hnu hcu hru
        by_cases h0 : er = 0
        case neg =>
          have h1 : (er == 0) = false := by rw [beq_eq_false_iff_ne]; exact h0
          have h2 : (er != 0) = true := by rw [bne_iff_ne]; exact h0
          go_wp2
          go_ret
          exact ⟨rfl, HB.out⟩
        by_cases h3 : es = 0
        case neg =>
          subst h0
          have h1 : (es == 0) = false := by rw [beq_eq_false_iff_ne]; exact h3
          have h2 : (es != 0) = true := by rw [bne_iff_ne]; exact h3
          go_wp2
          go_ret
          exact ⟨rfl, HB.out⟩
        subst h0 h3
        have HSA := Lib.hid (org_small HT_l.out.2 HT_l.out.1 HOR.out)
        have HSB := Lib.hid (org_small HTJ.out.2 HTJ.out.1 HOB.out)
        have HEQ : Hid (oa.filter (fun x => decide (x.1 = name)) = ob.filter (fun x => decide (x.1 = name))) := Lib.hid (by
          refine org_far HOR.out HOB.out HFAR.out ?_ ?_
          · refine Decidable.byContradiction fun hz => ?_
            have h := HOR.out
            rw [orgR_no hz] at h
            injection h with h
            exact hz h
          · refine Decidable.byContradiction fun hz => ?_
            have h := HOB.out
            rw [orgR_no hz] at h
            injection h with h
            exact hz h)
        go_upto_region 17 with fail
        have HNA_a : Hid (n_a ≤ 150) := Lib.hid (by have h1 := HSA.out.1; have h2 := HN_a.out; omega)
        have hna_a := HNA_a.out
        go_loopw [14, 16] (fun v i wr => ∃ (k : Nat) (A1 : Option Addr) (m c1 : Nat), k ≤ n_a ∧ i = .int .i64 (k : Int) ∧ v = .slice A1 m c1 ∧ OwnO wr (· < wc.heap.size) wc.heap.size (.slice A1 m c1) ((oa.take k).filter (fun x => decide (x.1 = name))) ∧ Below wc.heap.size wc wr) (fun _ i _ => n_a - (intOf i).toNat)
        case atStart => exact ⟨0, none, 0, 0, Nat.zero_le _, rfl, rfl, ownO_nil _ _ _, Below.refl _ _⟩
        case round =>
          obtain ⟨k, A1, m, c1, hk, rfl, rfl, hO, hb⟩ := hrel
          have HO2 := Lib.hid hO; have HBW := Lib.hid hb
          clear hO
          by_cases hlt : k < n_a
          case pos =>
            have hki : (k : Int) < (n_a : Int) := by omega
            have hki0 : (0 : Int) ≤ (k : Int) := by omega
            obtain ⟨y, hy⟩ : ∃ y, oa[k]? = some y := ⟨_, List.getElem?_eq_getElem (by rw [HN_a.out]; exact hlt)⟩
            obtain ⟨a, ha, hab, c0, B, cb, c1', hcb, hrb⟩ := HR_a.out.elem hy
            subst ha
            obtain ⟨nb, hnb⟩ : ∃ nb, y.2.length = nb := ⟨_, rfl⟩
            rw [hnb] at c1' hcb
            have q0 := cellB c0 hb (by rw [add_block]; exact hab)
            have q1 := cellB c1' hb (by rw [add_block]; exact hab)
            have HFN := Lib.hid (filt_next hy name)
            clear hb
            by_cases en : y.1 = name
            · have HFE : Hid ((oa.take (k + 1)).filter (fun x => decide (x.1 = name)) = (oa.take k).filter (fun x => decide (x.1 = name)) ++ [y]) := Lib.hid (by rw [HFN.out, if_pos en])
              rw [en] at q0
              have ba := Blk.new wr 42 #[strV name, .slice B nb cb]
              rw [← en] at ba
              have hba : Below wr.heap.size wr (wr.alloc (.cells #[strV name, .slice B nb cb] 42)) := (Below.refl _ _).alloc (Nat.le_refl _) _
              have ba2 : Blk (wr.alloc (.cells #[strV name, .slice B nb cb] 42)) wr.heap.size 42 #[strV y.1, .slice B nb cb] := by rw [en]; exact Blk.new wr _ _
              have HSO := Lib.hid (oneO_src ba2 hnb hcb ((hrb.to (fun g _ hl => (below_mv HBW.out hba).block g hl))))
              have HO4 := Lib.hid (HO2.out.below hba)
              have HB4 := Lib.hid (below_mv HBW.out hba)
              have HOL := Lib.hid (show ((oa.take k).filter (fun x => decide (x.1 = name))).length + 1 ≤ 100000 by
                have h1 := List.length_filter_le (fun x => decide (x.1 = name)) (oa.take k)
                rw [List.length_take] at h1
                have h2 := HNA_a.out
                omega)
              have HSB2 : Hid (∀ g, g < wc.heap.size → some g ≠ (Value.slice A1 m c1).ownBlock) := Lib.hid (fun g hg e => by
                have := ownO_ge HO2.out g e.symm
                omega)
              clear hcb hrb hnb hy ba ba2 hba c0 c1' en HFN
              go_wp2_with (at_builtin; refine wpList_ownO rfl (.tmp 95) (.tmp 100) rfl (· < wc.heap.size) wc.heap.size 1 1 (.slice A1 m c1) (some ⟨wr.heap.size, 0, none⟩) ((oa.take k).filter (fun x => decide (x.1 = name))) [y] rfl rfl HO4.out HSO.out rfl HOL.out HSB2.out HB4.out.size ?_; intro v' W' ho hg)
              rw [← HFE.out] at ho
              obtain ⟨A9, c9, hv9, _⟩ := ownO_slice ho
              subst hv9
              refine ⟨⟨k + 1, A9, _, c9, by omega, by go_num, rfl, ho, HB4.out.grown hg HB4.out.size (fun g e => ownO_ge HO4.out g e)⟩, by simp [intOf]; omega⟩
            · have HFE : Hid ((oa.take (k + 1)).filter (fun x => decide (x.1 = name)) = (oa.take k).filter (fun x => decide (x.1 = name))) := Lib.hid (by rw [HFN.out, if_neg en, List.append_nil])
              have e3 : (y.1 == name) = false := by rw [beq_eq_false_iff_ne]; exact en
              clear hcb hrb hnb hy c0 c1' en HFN
              go_wp2
              refine ⟨⟨k + 1, A1, m, c1, by omega, by go_num, rfl, by rw [HFE.out]; exact HO2.out, HBW.out⟩, by simp [intOf]; omega⟩
          have hki : ¬ (k : Int) < (n_a : Int) := by omega
          have ef : oa.take k = oa := List.take_of_length_le (by rw [HN_a.out]; omega)
          rw [ef] at HO2
          obtain ⟨A_ap, c_ap, hv, hcp, hrp⟩ := rdO_own HO2.out
          obtain ⟨n_ap, hnp⟩ : ∃ n, (oa.filter (fun x => decide (x.1 = name))).length = n := ⟨_, rfl⟩
          rw [hnp] at hv hcp
          injection hv with hv1 hv2 hv3
          obtain rfl : A_ap = A1 := hv1.symm
          obtain rfl : n_ap = m := hv2.symm
          obtain rfl : c_ap = c1 := hv3.symm
          clear hv1 hv2 hv3
          have HN_ap := Lib.hid hnp
          have hcs := HBW.out.size
          have HR_ap := Lib.hid (hrp.mono fun g hg => (by rcases hg with hg | hg; exact Nat.lt_of_lt_of_le hg hcs; exact hg.2 : g < wr.heap.size))
          clear hnp hcp hrp hcs ef HO2 HBW hna_a
          replace HR_a := Lib.hid (RdO.mv HR_a.out hb)
          replace HR_b := Lib.hid (RdO.mv HR_b.out hb)
          replace HR_l := Lib.hid (RdN.mv HR_l.out hb)
          replace BP := Lib.hid (BP.out.below hb BP.out.lt)
          replace HV_p := Lib.hid (HV_p.out.mv hb)
          replace HB := Lib.hid (below_mv HB.out hb)
          clear hb
          generalize wr = wi at *
          go_upto_region 22 with fail
          have HNA_b : Hid (n_b ≤ 150) := Lib.hid (by have h1 := HSB.out.1; have h2 := HN_b.out; omega)
          have hna_b := HNA_b.out
          go_loopw [15, 17] (fun v i wr => ∃ (k : Nat) (A1 : Option Addr) (m c1 : Nat), k ≤ n_b ∧ i = .int .i64 (k : Int) ∧ v = .slice A1 m c1 ∧ OwnO wr (· < wi.heap.size) wi.heap.size (.slice A1 m c1) ((ob.take k).filter (fun x => decide (x.1 = name))) ∧ Below wi.heap.size wi wr) (fun _ i _ => n_b - (intOf i).toNat)
          case atStart => exact ⟨0, none, 0, 0, Nat.zero_le _, rfl, rfl, ownO_nil _ _ _, Below.refl _ _⟩
          case round =>
            obtain ⟨k, A1, m, c1, hk, rfl, rfl, hO, hb⟩ := hrel
            have HO2 := Lib.hid hO; have HBW := Lib.hid hb
            clear hO
            by_cases hlt : k < n_b
            case pos =>
              have hki : (k : Int) < (n_b : Int) := by omega
              have hki0 : (0 : Int) ≤ (k : Int) := by omega
              obtain ⟨y, hy⟩ : ∃ y, ob[k]? = some y := ⟨_, List.getElem?_eq_getElem (by rw [HN_b.out]; exact hlt)⟩
              obtain ⟨a, ha, hab, c0, B, cb, c1', hcb, hrb⟩ := HR_b.out.elem hy
              subst ha
              obtain ⟨nb, hnb⟩ : ∃ nb, y.2.length = nb := ⟨_, rfl⟩
              rw [hnb] at c1' hcb
              have q0 := cellB c0 hb (by rw [add_block]; exact hab)
              have q1 := cellB c1' hb (by rw [add_block]; exact hab)
              have HFN := Lib.hid (filt_next hy name)
              clear hb
              by_cases en : y.1 = name
              · have HFE : Hid ((ob.take (k + 1)).filter (fun x => decide (x.1 = name)) = (ob.take k).filter (fun x => decide (x.1 = name)) ++ [y]) := Lib.hid (by rw [HFN.out, if_pos en])
                rw [en] at q0
                have ba := Blk.new wr 42 #[strV name, .slice B nb cb]
                rw [← en] at ba
                have hba : Below wr.heap.size wr (wr.alloc (.cells #[strV name, .slice B nb cb] 42)) := (Below.refl _ _).alloc (Nat.le_refl _) _
                have ba2 : Blk (wr.alloc (.cells #[strV name, .slice B nb cb] 42)) wr.heap.size 42 #[strV y.1, .slice B nb cb] := by rw [en]; exact Blk.new wr _ _
                have HSO := Lib.hid (oneO_src ba2 hnb hcb ((hrb.to (fun g _ hl => (below_mv HBW.out hba).block g hl))))
                have HO4 := Lib.hid (HO2.out.below hba)
                have HB4 := Lib.hid (below_mv HBW.out hba)
                have HOL := Lib.hid (show ((ob.take k).filter (fun x => decide (x.1 = name))).length + 1 ≤ 100000 by
                  have h1 := List.length_filter_le (fun x => decide (x.1 = name)) (ob.take k)
                  rw [List.length_take] at h1
                  have h2 := HNA_b.out
                  omega)
                have HSB2 : Hid (∀ g, g < wi.heap.size → some g ≠ (Value.slice A1 m c1).ownBlock) := Lib.hid (fun g hg e => by
                  have := ownO_ge HO2.out g e.symm
                  omega)
                clear hcb hrb hnb hy ba ba2 hba c0 c1' en HFN
                go_wp2_with (at_builtin; refine wpList_ownO rfl (.tmp 115) (.tmp 120) rfl (· < wi.heap.size) wi.heap.size 1 1 (.slice A1 m c1) (some ⟨wr.heap.size, 0, none⟩) ((ob.take k).filter (fun x => decide (x.1 = name))) [y] rfl rfl HO4.out HSO.out rfl HOL.out HSB2.out HB4.out.size ?_; intro v' W' ho hg)
                rw [← HFE.out] at ho
                obtain ⟨A9, c9, hv9, _⟩ := ownO_slice ho
                subst hv9
                refine ⟨⟨k + 1, A9, _, c9, by omega, by go_num, rfl, ho, HB4.out.grown hg HB4.out.size (fun g e => ownO_ge HO4.out g e)⟩, by simp [intOf]; omega⟩
              · have HFE : Hid ((ob.take (k + 1)).filter (fun x => decide (x.1 = name)) = (ob.take k).filter (fun x => decide (x.1 = name))) := Lib.hid (by rw [HFN.out, if_neg en, List.append_nil])
                have e3 : (y.1 == name) = false := by rw [beq_eq_false_iff_ne]; exact en
                clear hcb hrb hnb hy c0 c1' en HFN
                go_wp2
                refine ⟨⟨k + 1, A1, m, c1, by omega, by go_num, rfl, by rw [HFE.out]; exact HO2.out, HBW.out⟩, by simp [intOf]; omega⟩
            have hki : ¬ (k : Int) < (n_b : Int) := by omega
            have ef : ob.take k = ob := List.take_of_length_le (by rw [HN_b.out]; omega)
            rw [ef] at HO2
            obtain ⟨A_bp, c_bp, hv, hcp, hrp⟩ := rdO_own HO2.out
            obtain ⟨n_bp, hnp⟩ : ∃ n, (ob.filter (fun x => decide (x.1 = name))).length = n := ⟨_, rfl⟩
            rw [hnp] at hv hcp
            injection hv with hv1 hv2 hv3
            obtain rfl : A_bp = A1 := hv1.symm
            obtain rfl : n_bp = m := hv2.symm
            obtain rfl : c_bp = c1 := hv3.symm
            clear hv1 hv2 hv3
            have HN_bp := Lib.hid hnp
            have hcs := HBW.out.size
            have HR_bp := Lib.hid (hrp.mono fun g hg => (by rcases hg with hg | hg; exact Nat.lt_of_lt_of_le hg hcs; exact hg.2 : g < wr.heap.size))
            clear hnp hcp hrp hcs ef HO2 HBW hna_b
            replace HR_a := Lib.hid (RdO.mv HR_a.out hb)
            replace HR_b := Lib.hid (RdO.mv HR_b.out hb)
            replace HR_ap := Lib.hid (RdO.mv HR_ap.out hb)
            replace HR_l := Lib.hid (RdN.mv HR_l.out hb)
            replace BP := Lib.hid (BP.out.below hb BP.out.lt)
            replace HV_p := Lib.hid (HV_p.out.mv hb)
            replace HB := Lib.hid (below_mv HB.out hb)
            clear hb
            have hk1 := HN_ap.out; have hk2 := HN_bp.out
            rw [HEQ.out] at hk1
            rw [HEQ.out] at HR_ap
            obtain rfl : n_ap = n_bp := hk1.symm.trans hk2
            try clear hk1 hk2
            go_wp2_with fail
            refine (refSelfB A_ap A_bp n_ap c_ap c_bp (ob.filter (fun x => decide (x.1 = name))) wr HN_bp.out (by have h1 := List.length_filter_le (fun x => decide (x.1 = name)) ob; have h2 := HN_bp.out; have h3 := HNA_b.out; have h4 := HN_b.out; omega) (fun x hx => by have := HSB.out.2 x ((List.mem_filter.1 hx).1); omega) HR_ap.out HR_bp.out).mono ?_
            rintro e w_4 ⟨rfl, hb⟩
            replace HR_a := Lib.hid (RdO.mv HR_a.out hb)
            replace HR_b := Lib.hid (RdO.mv HR_b.out hb)
            replace HR_ap := Lib.hid (RdO.mv HR_ap.out hb)
            replace HR_bp := Lib.hid (RdO.mv HR_bp.out hb)
            replace HR_l := Lib.hid (RdN.mv HR_l.out hb)
            replace BP := Lib.hid (BP.out.below hb BP.out.lt)
            replace HV_p := Lib.hid (HV_p.out.mv hb)
            replace HB := Lib.hid (below_mv HB.out hb)
            clear hb
            go_wp2
            go_ret
            exact ⟨rfl, HB.out⟩

end BmL
open BmL
open Tx
open Go.ChangeShapes Go.WideShapes Go.ChangeAt
open Go.ChangeMaps (open_string shut_string)

theorem blameNext_own : ownKnob Try.prog.godebug = none := by kernel_rfl
theorem blameNext_laidOut : laidOutB Try.prog = true := by kernel_rfl

set_option maxRecDepth 100000 in
theorem blameNext_lifted (os : Os) (started : os.Started) (H : Type) (enc : TypeId × Value → H) :
    ReturnsInHanded {} Try.checked os 3 .any (Rows.blameNextSpec.pre6 enc Try.prog Try.f3 Rows.blameNextRow.domain false) (Rows.blameNextSpec.post enc Try.prog Try.f3 false true false false) := by
  refine returnsInHanded_of_change_sized (C := Try.checked) blameNext_own started (by kernel_rfl) Try.func3
    (ChangeSpec.witness6 (enc := enc) (C := Try.checked) false ⟨#[], #[.slice none 0 0, .agg #[.int .i64 0, .int .i64 0, .slice none 0 0, .string ByteArray.empty, .slice none 0 0], .string ByteArray.empty], []⟩ 8 (by kernel_rfl) (by kernel_rfl) (by kernel_rfl) (by kernel_rfl)) ?_
  intro W base args ds gs before hval0 hW hcnd hsz0 _
  have hval : ∀ (j : Nat) t v, Try.f3.params[j]? = some t → args[j]? = some v → Value.okWide Try.prog W .any base t v := hval0
  have hsz : (DataW.weightsEach Try.prog (Try.f3.params.toList ++ Rows.blameNextSpec.plain.varTypes Try.prog) (ds ++ gs)).all (· ≤ reachBytes) = true := hsz0
  have hW' := hW
  obtain ⟨p, q, hA0, hV, rfl, hfz, hnd⟩ := hW
  have hA : DataW.TrodAll enc Try.prog W 0 (fun _ => true) true Try.f3.params.toList args.toList ds p := hA0
  rw [Try.params3] at hA hval hsz
  obtain ⟨v0, vs0, d0, ds0, p0, q0, hargs, rfl, rfl, h0, r0⟩ := trodAll_cons hA
  obtain ⟨v1, vs1, d1, ds1, p1, q1, rfl, rfl, rfl, h1, r1⟩ := trodAll_cons r0
  obtain ⟨v2, vs2, d2, ds2, p2, q2, rfl, rfl, rfl, h2, r2⟩ := trodAll_cons r1
  obtain ⟨rfl, rfl, rfl⟩ := trodAll_nil r2
  obtain rfl : args = #[v0, v1, v2] := by cases args; simp_all
  obtain ⟨rfl, rfl⟩ := trodVars_none hV
  obtain ⟨a0, n0, c0, rfl⟩ := okWide_slice Try.underlying22 (hval 0 22 v0 rfl rfl)
  have k0 := h0
  have lt0 : ∀ x ∈ p0, x.block < W.heap.size := by obtain ⟨m, hm⟩ := k0; exact DataW.trod_lt m _ _ _ hm
  obtain ⟨l0, s0, z0⟩ : ∃ l, NmsArg W a0 n0 c0 l ∧ n0 ≤ 1759218604390 := by
    obtain ⟨fuel, hf⟩ := h0
    exact nms_wide hf (by simp [Value.cells]) (fun k hk => by have := List.all_eq_true.1 hsz _ (DataW.weights_mem_each (j := 0) rfl rfl k hk); simpa using this)
  have k1 := h1
  have lt1 : ∀ x ∈ p1, x.block < W.heap.size := by obtain ⟨m, hm⟩ := k1; exact DataW.trod_lt m _ _ _ hm
  obtain ⟨a1, n1, c1, b1, m1, e1, l1, rfl, s1⟩ := nm_in (hval 1 28 v1 rfl rfl) h1
  obtain ⟨a2, rfl, rfl, rfl, w2⟩ := open_string Try.underlying9 (hval 2 9 v2 rfl rfl) h2
  clear hA0 hval0 hsz hsz0
  refine (blameNext_walk a0 n0 c0 l0 a1 n1 c1 b1 m1 e1 l1 a2.data.toList W s0 z0 s1 (by rw [Array.length_toList]; exact w2)).mono fun e W' ⟨he, bel⟩ => ?_
  subst he
  exact ⟨_, rfl, _, _, _, [], _, [], hW', trodAll_mk1 (shut_bool Try.underlying4 _), (trodAll_cons_mk (Below.trod blameNext_laidOut (by kernel_rfl) (of_decide_eq_true (by kernel_rfl)) k0 bel lt0) (trodAll_cons_mk (Below.trod blameNext_laidOut (by kernel_rfl) (of_decide_eq_true (by kernel_rfl)) k1 bel lt1) (trodAll_cons_mk (shut_string Try.underlying9 w2) trodAll_mk0))), rfl, bel.frame _, fun h => by cases h⟩

/-- The statement. -/
theorem blameNext_proved : Rows.BlameNextSaid :=
  OpenClaim.holds_of_wide 3 Try.f3 rfl rfl rfl rfl rfl rfl rfl ⟨rfl, rfl, rfl, rfl, rfl⟩ rfl rfl rfl rfl rfl (by kernel_rfl) Try.func3 (by kernel_rfl)
    (of_decide_eq_true (by kernel_rfl)) (by unfold Func.isWrapper; first | (rw [if_pos (by decide +kernel)]; kernel_rfl) | (rw [if_neg (by decide +kernel)]; exact ⟨rfl, rfl⟩))
    (fun os started H enc _ => blameNext_lifted os started H enc)

#print axioms blameNext_proved
end Go.Proofs.Ytfnhjflocfmcoaa
