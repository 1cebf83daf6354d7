/-
  The statement TradeBack: those that passed one another pass back to what they were, unless the first one hangs on the second one by its Deps.
-/
import Derived.Test.YtbiiabfhngdeiaaTgLaw
import Derived.OpenShut
import Derived.ShutString
import Derived.BigQuiet
set_option maxRecDepth 100000
namespace Go.Proofs.Ytbiiabfhngdeiaa
open Go.RowKit
set_option linter.unusedVariables false
set_option linter.unusedSimpArgs false
open Tr Tx Hk Pr Fl Pn Tg
namespace TgL
attribute [local go_sem] eq_id

set_option maxRecDepth 100000 in
set_option maxHeartbeats 8000000 in
theorem tradeBack_walk (D_p : Option Addr) (d_p e_p : Nat) (A_p : Option Addr) (n_p c_p : Nat) (p : Nm) (D_q : Option Addr) (d_q e_q : Nat) (A_q : Option Addr) (n_q c_q : Nat) (q : Nm) (w : World) (h_p : NV w w.heap.size D_p d_p e_p A_p n_p c_p p) (h_q : NV w w.heap.size D_q d_q e_q A_q n_q c_q q) :
    Calls Try.prog 5 #[nmV p.id D_p d_p e_p p.txt A_p n_p c_p, nmV q.id D_q d_q e_q q.txt A_q n_q c_q] w (LawEnd w) := by
  have b0 := ((Blk.new w 28 #[.int .i64 p.id.1, .int .i64 p.id.2, .slice D_p d_p e_p, strV p.txt, .slice A_p n_p c_p]).alloc (.cells #[.int .i64 q.id.1, .int .i64 q.id.2, .slice D_q d_q e_q, strV q.txt, .slice A_q n_q c_q] 28))
  have b1 := (Blk.new (w.alloc (.cells #[.int .i64 p.id.1, .int .i64 p.id.2, .slice D_p d_p e_p, strV p.txt, .slice A_p n_p c_p] 28)) 28 #[.int .i64 q.id.1, .int .i64 q.id.2, .slice D_q d_q e_q, strV q.txt, .slice A_q n_q c_q])
  have hb : Below w.heap.size w ((w.alloc (.cells #[.int .i64 p.id.1, .int .i64 p.id.2, .slice D_p d_p e_p, strV p.txt, .slice A_p n_p c_p] 28)).alloc (.cells #[.int .i64 q.id.1, .int .i64 q.id.2, .slice D_q d_q e_q, strV q.txt, .slice A_q n_q c_q] 28)) := (((Below.refl w.heap.size w).alloc (by simp; try omega) (.cells #[.int .i64 p.id.1, .int .i64 p.id.2, .slice D_p d_p e_p, strV p.txt, .slice A_p n_p c_p] 28)).alloc (by simp; try omega) (.cells #[.int .i64 q.id.1, .int .i64 q.id.2, .slice D_q d_q e_q, strV q.txt, .slice A_q n_q c_q] 28))
  simp only [World.size_alloc] at b1
  have HV_p := Lib.hid (h_p.mv hb); have HV_q := Lib.hid (h_q.mv hb)
  clear h_p h_q
  go_enter Try.func5, Try.ntmps5
  go_upto_region 1 with fail
  generalize ((w.alloc (.cells #[.int .i64 p.id.1, .int .i64 p.id.2, .slice D_p d_p e_p, strV p.txt, .slice A_p n_p c_p] 28)).alloc (.cells #[.int .i64 q.id.1, .int .i64 q.id.2, .slice D_q d_q e_q, strV q.txt, .slice A_q n_q c_q] 28)) = w_1 at b0 b1 HV_p HV_q hb ⊢
  obtain ⟨z, hz⟩ : ∃ z, w.heap.size = z := ⟨_, rfl⟩
  rw [hz] at b0 b1 ⊢
  have BP := Lib.hid b0
  have BQ := Lib.hid b1
  have HZ := Lib.hid hz
  clear b0 b1 hz
  have HB := Lib.hid hb; clear hb
  go_wp2_with fail
  refine (Tg.awake w_1).mono ?_
  rintro e w_2 ⟨rfl, hb⟩
  replace BP := Lib.hid (BP.out.below hb BP.out.lt)
  replace BQ := Lib.hid (BQ.out.below hb BQ.out.lt)
  replace HV_p := Lib.hid (HV_p.out.mv hb)
  replace HV_q := Lib.hid (HV_q.out.mv hb)
  replace HB := Lib.hid (below_mv HB.out hb)
  clear hb
  have bp_0 := BP.out.cell 0 rfl
  have bp_1 := BP.out.cell 1 rfl
  have bp_2 := BP.out.cell 2 rfl
  have bp_3 := BP.out.cell 3 rfl
  have bp_4 := BP.out.cell 4 rfl
  have bq_0 := BQ.out.cell 0 rfl
  have bq_1 := BQ.out.cell 1 rfl
  have bq_2 := BQ.out.cell 2 rfl
  have bq_3 := BQ.out.cell 3 rfl
  have bq_4 := BQ.out.cell 4 rfl
  have bp_l := BP.out.lt; have bq_l := BQ.out.lt
  go_wp2_with fail
  clear bp_0 bp_1 bp_2 bp_3 bp_4 bq_0 bq_1 bq_2 bq_3 bq_4 bp_l bq_l
  have b0 := Blk.new w_2 28 #[.int .i64 p.id.1, .int .i64 p.id.2, .slice D_p d_p e_p, strV p.txt, .slice A_p n_p c_p, .int .i64 q.id.1, .int .i64 q.id.2, .slice D_q d_q e_q, strV q.txt, .slice A_q n_q c_q]
  have hb : Below w_2.heap.size w_2 (w_2.alloc (.cells #[.int .i64 p.id.1, .int .i64 p.id.2, .slice D_p d_p e_p, strV p.txt, .slice A_p n_p c_p, .int .i64 q.id.1, .int .i64 q.id.2, .slice D_q d_q e_q, strV q.txt, .slice A_q n_q c_q] 28)) := (Below.refl _ _).alloc (Nat.le_refl _) _
  generalize (w_2.alloc (.cells #[.int .i64 p.id.1, .int .i64 p.id.2, .slice D_p d_p e_p, strV p.txt, .slice A_p n_p c_p, .int .i64 q.id.1, .int .i64 q.id.2, .slice D_q d_q e_q, strV q.txt, .slice A_q n_q c_q] 28)) = w_3 at b0 hb ⊢
  obtain ⟨z_w_3, hz⟩ : ∃ z, w_2.heap.size = z := ⟨_, rfl⟩
  rw [hz] at b0 ⊢
  clear hz
  replace BP := Lib.hid (BP.out.below hb BP.out.lt)
  replace BQ := Lib.hid (BQ.out.below hb BQ.out.lt)
  replace HV_p := Lib.hid (HV_p.out.mv hb)
  replace HV_q := Lib.hid (HV_q.out.mv hb)
  replace HB := Lib.hid (below_mv HB.out hb)
  clear hb
  have B_2 := Lib.hid b0
  clear b0
  obtain ⟨bl, hbl⟩ : ∃ bb, fewN [p, q] 2 = bb := ⟨_, rfl⟩
  have HBL := Lib.hid hbl; clear hbl
  refine (FewN (some ⟨z_w_3, 0, none⟩) 2 2 2 [p, q] w_3 bl (by decide) ⟨rfl, Nat.le_refl _, by unfold maxLen; decide, rdN_two B_2.out HV_p.out HV_q.out B_2.out.lt⟩ HBL.out).mono ?_
  rintro e w_4 ⟨rfl, hb⟩
  replace BP := Lib.hid (BP.out.below hb BP.out.lt)
  replace BQ := Lib.hid (BQ.out.below hb BQ.out.lt)
  replace HV_p := Lib.hid (HV_p.out.mv hb)
  replace HV_q := Lib.hid (HV_q.out.mv hb)
  replace B_2 := Lib.hid (B_2.out.below hb B_2.out.lt)
  replace HB := Lib.hid (below_mv HB.out hb)
  clear hb
  clear B_2
  cases bl with
  | false =>
    go_wp2
    go_ret
    exact ⟨rfl, HB.out⟩
  | true =>
  have HL_p := Lib.hid ((few_two HBL.out).1)
  have HN_p : Hid (n_p ≤ 10 ∧ d_p ≤ 100) := Lib.hid (by
    have h1 := HL_p.out.2
    rw [HV_p.out.l, HV_p.out.dl] at h1
    exact h1)
  have HL_q := Lib.hid ((few_two HBL.out).2)
  have HN_q : Hid (n_q ≤ 10 ∧ d_q ≤ 100) := Lib.hid (by
    have h1 := HL_q.out.2
    rw [HV_q.out.l, HV_q.out.dl] at h1
    exact h1)
  go_upto_region 6 with fail
  go_loopw [7] (fun i wr => ∃ k : Nat, k ≤ d_p ∧ i = .int .i64 (k : Int) ∧ (∀ (j : Nat) (y : Id_), p.deps[j]? = some y → j < k → y ≠ q.id) ∧ Below w_4.heap.size w_4 wr) (fun i _ => d_p - (intOf i).toNat)
  case atStart => exact ⟨0, Nat.zero_le _, rfl, fun j _ _ hj => by omega, Below.refl _ _⟩
  case round =>
    obtain ⟨k, hk, rfl, hall, hb⟩ := hrel
    have HA := Lib.hid hall; have HBR := Lib.hid hb; clear hall
    replace BP := Lib.hid (BP.out.below hb BP.out.lt)
    replace BQ := Lib.hid (BQ.out.below hb BQ.out.lt)
    replace HV_p := Lib.hid (HV_p.out.mv hb)
    replace HV_q := Lib.hid (HV_q.out.mv hb)
    replace HB := Lib.hid (below_mv HB.out hb)
    clear hb
    by_cases hlt : k < d_p
    case pos =>
      have hki : (k : Int) < (d_p : Int) := by omega
      have hdm := HN_p.out.2
      obtain ⟨a, y, ha, _, hy, c0, c1⟩ := RdI.elem HV_p.out.dr (k := k) (by rw [HV_p.out.dl]; exact hlt)
      subst ha
      have HY := Lib.hid hy
      clear hy
      have x2 := BP.out.cell 2 rfl; have y0 := BQ.out.cell 0 rfl; have y1 := BQ.out.cell 1 rfl
      have l0 := BP.out.lt; have l1 := BQ.out.lt
      obtain ⟨i1, i2⟩ := y
      obtain ⟨P1, hP1⟩ : ∃ v, q.id.1 = v := ⟨_, rfl⟩
      obtain ⟨P2, hP2⟩ : ∃ v, q.id.2 = v := ⟨_, rfl⟩
      have HP : Hid (q.id = (P1, P2)) := Lib.hid (Prod.ext hP1 hP2)
      rw [hP1] at y0
      rw [hP2] at y1
      dsimp only at c0 c1
      by_cases e1 : i1 = P1
      · by_cases e2 : i2 = P2
        · subst e1 e2
          go_wp2
          go_quiet (fail)
          go_wp2
          go_ret
          exact ⟨rfl, below_drewN HB.out _⟩
        · subst e1
          have e3 : (i2 == P2) = false := by rw [beq_eq_false_iff_ne]; exact e2
          go_wp2
          go_quiet (fail)
          go_wp2
          refine ⟨⟨k + 1, by omega, by go_num, fun j y hy hj => ?_, below_drewN HBR.out _⟩, by simp [intOf]; omega⟩
          by_cases e : j = k
          · subst e
            have h1 := HY.out
            rw [h1] at hy
            injection hy with hy
            subst hy
            rw [HP.out]
            intro e
            injection e with _ e
            exact e2 e
          · exact HA.out j y hy (by omega)
      · have e3 : (i1 == P1) = false := by rw [beq_eq_false_iff_ne]; exact e1
        go_wp2
        go_quiet (fail)
        go_wp2
        refine ⟨⟨k + 1, by omega, by go_num, fun j y hy hj => ?_, below_drewN HBR.out _⟩, by simp [intOf]; omega⟩
        by_cases e : j = k
        · subst e
          have h1 := HY.out
          rw [h1] at hy
          injection hy with hy
          subst hy
          rw [HP.out]
          intro e
          injection e with e _
          exact e1 e
        · exact HA.out j y hy (by omega)
    have HNM : Hid (q.id ∉ p.deps) := Lib.hid (fun h => by
      obtain ⟨j, hj⟩ := List.getElem?_of_mem h
      exact HA.out j _ hj (by have := (List.getElem?_eq_some_iff.1 hj).1; have := HV_p.out.dl; omega) rfl)
    have hki : ¬ (k : Int) < (d_p : Int) := by omega
    obtain ⟨x, y, ho⟩ : ∃ x y, outN (passN p q) = (x, y) := ⟨_, _, rfl⟩
    obtain ⟨bo, hbo⟩ : ∃ b, (passN p q).isSome = b := ⟨_, rfl⟩
    have HO := Lib.hid ho; have HBO := Lib.hid hbo; clear ho hbo HA HBR
    have bp_0 := BP.out.cell 0 rfl
    have bp_1 := BP.out.cell 1 rfl
    have bp_2 := BP.out.cell 2 rfl
    have bp_3 := BP.out.cell 3 rfl
    have bp_4 := BP.out.cell 4 rfl
    have bq_0 := BQ.out.cell 0 rfl
    have bq_1 := BQ.out.cell 1 rfl
    have bq_2 := BQ.out.cell 2 rfl
    have bq_3 := BQ.out.cell 3 rfl
    have bq_4 := BQ.out.cell 4 rfl
    go_wp2_with fail
    refine (PassN D_p d_p e_p A_p n_p c_p D_q d_q e_q A_q n_q c_q p q x y wr bo (by have := HN_p.out; omega) (by have := HN_q.out; omega) (by have := HN_p.out; omega) (by have := HN_q.out; omega) HL_p.out.1 HL_q.out.1 HV_p.out HV_q.out HO.out HBO.out).mono ?_
    clear bp_0 bp_1 bp_2 bp_3 bp_4 bq_0 bq_1 bq_2 bq_3 bq_4
    rintro e w_5 ⟨D_x, d_x, e_x, A_x, n_x, c_x, D_y, d_y, e_y, A_y, n_y, c_y, rfl, h1, h2, hb⟩
    have HV_x := Lib.hid (h1.mono since_lt).nv; have HV_y := Lib.hid (h2.mono since_lt).nv
    clear h1 h2
    replace BP := Lib.hid (BP.out.below hb BP.out.lt)
    replace BQ := Lib.hid (BQ.out.below hb BQ.out.lt)
    replace HV_p := Lib.hid (HV_p.out.mv hb)
    replace HV_q := Lib.hid (HV_q.out.mv hb)
    replace HB := Lib.hid (below_mv HB.out hb)
    clear hb
    go_upto_region 11 with fail
    have b0 := (Blk.new w_5 28 #[.int .i64 x.id.1, .int .i64 x.id.2, .slice D_x d_x e_x, strV x.txt, .slice A_x n_x c_x]).alloc (.cells #[.int .i64 y.id.1, .int .i64 y.id.2, .slice D_y d_y e_y, strV y.txt, .slice A_y n_y c_y] 28)
    have b1 := Blk.new (w_5.alloc (.cells #[.int .i64 x.id.1, .int .i64 x.id.2, .slice D_x d_x e_x, strV x.txt, .slice A_x n_x c_x] 28)) 28 #[.int .i64 y.id.1, .int .i64 y.id.2, .slice D_y d_y e_y, strV y.txt, .slice A_y n_y c_y]
    have hb := two_box w_5 (.cells #[.int .i64 x.id.1, .int .i64 x.id.2, .slice D_x d_x e_x, strV x.txt, .slice A_x n_x c_x] 28) (.cells #[.int .i64 y.id.1, .int .i64 y.id.2, .slice D_y d_y e_y, strV y.txt, .slice A_y n_y c_y] 28)
    simp only [World.size_alloc] at b1
    generalize ((w_5.alloc (.cells #[.int .i64 x.id.1, .int .i64 x.id.2, .slice D_x d_x e_x, strV x.txt, .slice A_x n_x c_x] 28)).alloc (.cells #[.int .i64 y.id.1, .int .i64 y.id.2, .slice D_y d_y e_y, strV y.txt, .slice A_y n_y c_y] 28)) = w_6 at b0 b1 hb ⊢
    obtain ⟨z_w_6, hz⟩ : ∃ z, w_5.heap.size = z := ⟨_, rfl⟩
    rw [hz] at b0 b1 ⊢
    clear hz
    replace BP := Lib.hid (BP.out.below hb BP.out.lt)
    replace BQ := Lib.hid (BQ.out.below hb BQ.out.lt)
    replace HV_p := Lib.hid (HV_p.out.mv hb)
    replace HV_q := Lib.hid (HV_q.out.mv hb)
    replace HV_x := Lib.hid (HV_x.out.mv hb)
    replace HV_y := Lib.hid (HV_y.out.mv hb)
    replace HB := Lib.hid (below_mv HB.out hb)
    clear hb
    have BX := Lib.hid b0
    have BY := Lib.hid b1
    clear b0 b1
    have HFX := Lib.hid (out_few HO.out HBO.out HL_p.out HL_q.out)
    cases bo with
    | false =>
      obtain ⟨rfl, rfl⟩ := outN_none HO.out HBO.out
      obtain rfl : 0 = n_x := HV_x.out.l
      obtain rfl : 0 = n_y := HV_y.out.l
      have bx_4 := BX.out.cell 4 rfl
      have by_4 := BY.out.cell 4 rfl
      have bl_x := BX.out.lt; have bl_y := BY.out.lt
      go_wp2
      go_ret
      exact ⟨rfl, HB.out⟩
    | true =>
      have HL_x := Lib.hid (HFX.out.1)
      have HN_x : Hid (n_x ≤ 10 ∧ d_x ≤ 100) := Lib.hid (by
        have h1 := HL_x.out.2
        rw [HV_x.out.l, HV_x.out.dl] at h1
        exact h1)
      have HL_y := Lib.hid (HFX.out.2)
      have HN_y : Hid (n_y ≤ 10 ∧ d_y ≤ 100) := Lib.hid (by
        have h1 := HL_y.out.2
        rw [HV_y.out.l, HV_y.out.dl] at h1
        exact h1)
      have HPB := Lib.hid (passN_back (outN_some HO.out HBO.out) HNM.out)
      have bx_0 := BX.out.cell 0 rfl
      have bx_1 := BX.out.cell 1 rfl
      have bx_2 := BX.out.cell 2 rfl
      have bx_3 := BX.out.cell 3 rfl
      have bx_4 := BX.out.cell 4 rfl
      have by_0 := BY.out.cell 0 rfl
      have by_1 := BY.out.cell 1 rfl
      have by_2 := BY.out.cell 2 rfl
      have by_3 := BY.out.cell 3 rfl
      have by_4 := BY.out.cell 4 rfl
      go_wp2_with fail
      refine (PassN D_x d_x e_x A_x n_x c_x D_y d_y e_y A_y n_y c_y x y p q w_6 true (by have := HN_x.out; omega) (by have := HN_y.out; omega) (by have := HN_x.out; omega) (by have := HN_y.out; omega) HL_x.out.1 HL_y.out.1 HV_x.out HV_y.out (by rw [HPB.out]; rfl) (by rw [HPB.out]; rfl)).mono ?_
      clear bx_0 bx_1 bx_2 bx_3 bx_4 by_0 by_1 by_2 by_3 by_4
      rintro e w_7 ⟨D_r, d_r, e_r, A_r, n_r, c_r, D_s, d_s, e_s, A_s, n_s, c_s, rfl, h1, h2, hb⟩
      have V_r := Lib.hid (h1.mono since_lt).nv; have V_s := Lib.hid (h2.mono since_lt).nv
      clear h1 h2
      replace BP := Lib.hid (BP.out.below hb BP.out.lt)
      replace BQ := Lib.hid (BQ.out.below hb BQ.out.lt)
      replace HV_p := Lib.hid (HV_p.out.mv hb)
      replace HV_q := Lib.hid (HV_q.out.mv hb)
      replace HV_x := Lib.hid (HV_x.out.mv hb)
      replace HV_y := Lib.hid (HV_y.out.mv hb)
      replace BX := Lib.hid (BX.out.below hb BX.out.lt)
      replace BY := Lib.hid (BY.out.below hb BY.out.lt)
      replace HB := Lib.hid (below_mv HB.out hb)
      clear hb
      go_upto_region 14 with fail
      have b0 := (Blk.new w_7 28 #[.int .i64 p.id.1, .int .i64 p.id.2, .slice D_r d_r e_r, strV p.txt, .slice A_r n_r c_r]).alloc (.cells #[.int .i64 q.id.1, .int .i64 q.id.2, .slice D_s d_s e_s, strV q.txt, .slice A_s n_s c_s] 28)
      have b1 := Blk.new (w_7.alloc (.cells #[.int .i64 p.id.1, .int .i64 p.id.2, .slice D_r d_r e_r, strV p.txt, .slice A_r n_r c_r] 28)) 28 #[.int .i64 q.id.1, .int .i64 q.id.2, .slice D_s d_s e_s, strV q.txt, .slice A_s n_s c_s]
      have hb := two_box w_7 (.cells #[.int .i64 p.id.1, .int .i64 p.id.2, .slice D_r d_r e_r, strV p.txt, .slice A_r n_r c_r] 28) (.cells #[.int .i64 q.id.1, .int .i64 q.id.2, .slice D_s d_s e_s, strV q.txt, .slice A_s n_s c_s] 28)
      simp only [World.size_alloc] at b1
      generalize ((w_7.alloc (.cells #[.int .i64 p.id.1, .int .i64 p.id.2, .slice D_r d_r e_r, strV p.txt, .slice A_r n_r c_r] 28)).alloc (.cells #[.int .i64 q.id.1, .int .i64 q.id.2, .slice D_s d_s e_s, strV q.txt, .slice A_s n_s c_s] 28)) = w_8 at b0 b1 hb ⊢
      obtain ⟨z_w_8, hz⟩ : ∃ z, w_7.heap.size = z := ⟨_, rfl⟩
      rw [hz] at b0 b1 ⊢
      clear hz
      replace BP := Lib.hid (BP.out.below hb BP.out.lt)
      replace BQ := Lib.hid (BQ.out.below hb BQ.out.lt)
      replace HV_p := Lib.hid (HV_p.out.mv hb)
      replace HV_q := Lib.hid (HV_q.out.mv hb)
      replace HV_x := Lib.hid (HV_x.out.mv hb)
      replace HV_y := Lib.hid (HV_y.out.mv hb)
      replace BX := Lib.hid (BX.out.below hb BX.out.lt)
      replace BY := Lib.hid (BY.out.below hb BY.out.lt)
      replace V_r := Lib.hid (V_r.out.mv hb)
      replace V_s := Lib.hid (V_s.out.mv hb)
      replace HB := Lib.hid (below_mv HB.out hb)
      clear hb
      have BR := Lib.hid b0
      have BS := Lib.hid b1
      clear b0 b1
      have br_0 := BR.out.cell 0 rfl
      have br_1 := BR.out.cell 1 rfl
      have br_2 := BR.out.cell 2 rfl
      have br_3 := BR.out.cell 3 rfl
      have br_4 := BR.out.cell 4 rfl
      have bp_0 := BP.out.cell 0 rfl
      have bp_1 := BP.out.cell 1 rfl
      have bp_2 := BP.out.cell 2 rfl
      have bp_3 := BP.out.cell 3 rfl
      have bp_4 := BP.out.cell 4 rfl
      go_wp2_with fail
      refine (SameN D_r d_r e_r A_r n_r c_r D_p d_p e_p A_p n_p c_p p p w_8 true V_r.out HV_p.out (by have h1 := V_r.out.l; have h2 := HV_p.out.l; have := HN_p.out; omega) (by have h1 := V_r.out.dl; have h2 := HV_p.out.dl; have := HN_p.out; omega) (sameN_self _)).mono ?_
      rintro e w_9 ⟨rfl, hb⟩
      replace BP := Lib.hid (BP.out.below hb BP.out.lt)
      replace BQ := Lib.hid (BQ.out.below hb BQ.out.lt)
      replace HV_p := Lib.hid (HV_p.out.mv hb)
      replace HV_q := Lib.hid (HV_q.out.mv hb)
      replace HV_x := Lib.hid (HV_x.out.mv hb)
      replace HV_y := Lib.hid (HV_y.out.mv hb)
      replace BX := Lib.hid (BX.out.below hb BX.out.lt)
      replace BY := Lib.hid (BY.out.below hb BY.out.lt)
      replace V_r := Lib.hid (V_r.out.mv hb)
      replace V_s := Lib.hid (V_s.out.mv hb)
      replace BR := Lib.hid (BR.out.below hb BR.out.lt)
      replace BS := Lib.hid (BS.out.below hb BS.out.lt)
      replace HB := Lib.hid (below_mv HB.out hb)
      clear hb
      clear br_0 br_1 br_2 br_3 br_4 bp_0 bp_1 bp_2 bp_3 bp_4
      have bs_0 := BS.out.cell 0 rfl
      have bs_1 := BS.out.cell 1 rfl
      have bs_2 := BS.out.cell 2 rfl
      have bs_3 := BS.out.cell 3 rfl
      have bs_4 := BS.out.cell 4 rfl
      have bq_0 := BQ.out.cell 0 rfl
      have bq_1 := BQ.out.cell 1 rfl
      have bq_2 := BQ.out.cell 2 rfl
      have bq_3 := BQ.out.cell 3 rfl
      have bq_4 := BQ.out.cell 4 rfl
      go_wp2_with fail
      refine (SameN D_s d_s e_s A_s n_s c_s D_q d_q e_q A_q n_q c_q q q w_9 true V_s.out HV_q.out (by have h1 := V_s.out.l; have h2 := HV_q.out.l; have := HN_q.out; omega) (by have h1 := V_s.out.dl; have h2 := HV_q.out.dl; have := HN_q.out; omega) (sameN_self _)).mono ?_
      rintro e w_10 ⟨rfl, hb⟩
      replace BP := Lib.hid (BP.out.below hb BP.out.lt)
      replace BQ := Lib.hid (BQ.out.below hb BQ.out.lt)
      replace HV_p := Lib.hid (HV_p.out.mv hb)
      replace HV_q := Lib.hid (HV_q.out.mv hb)
      replace HV_x := Lib.hid (HV_x.out.mv hb)
      replace HV_y := Lib.hid (HV_y.out.mv hb)
      replace BX := Lib.hid (BX.out.below hb BX.out.lt)
      replace BY := Lib.hid (BY.out.below hb BY.out.lt)
      replace V_r := Lib.hid (V_r.out.mv hb)
      replace V_s := Lib.hid (V_s.out.mv hb)
      replace BR := Lib.hid (BR.out.below hb BR.out.lt)
      replace BS := Lib.hid (BS.out.below hb BS.out.lt)
      replace HB := Lib.hid (below_mv HB.out hb)
      clear hb
      clear bs_0 bs_1 bs_2 bs_3 bs_4 bq_0 bq_1 bq_2 bq_3 bq_4
      go_wp2
      go_ret
      exact ⟨rfl, HB.out⟩

end TgL
open TgL
open Tx
open Go.ChangeShapes Go.WideShapes Go.ChangeAt

theorem tradeBack_own : ownKnob Try.prog.godebug = none := by kernel_rfl
theorem tradeBack_laidOut : laidOutB Try.prog = true := by kernel_rfl

set_option maxRecDepth 100000 in
theorem tradeBack_lifted (os : Os) (started : os.Started) (H : Type) (enc : TypeId × Value → H) :
    ReturnsInHanded {} Try.checked os 5 .any (Rows.tradeBackSpec.pre6 enc Try.prog Try.f5 Rows.tradeBackRow.domain false) (Rows.tradeBackSpec.post enc Try.prog Try.f5 false true false false) := by
  refine returnsInHanded_of_change (C := Try.checked) tradeBack_own started (by kernel_rfl) Try.func5
    (ChangeSpec.witness6 (enc := enc) (C := Try.checked) false ⟨#[], #[.agg #[.int .i64 0, .int .i64 0, .slice none 0 0, .string ByteArray.empty, .slice none 0 0], .agg #[.int .i64 0, .int .i64 0, .slice none 0 0, .string ByteArray.empty, .slice none 0 0]], []⟩ 8 (by kernel_rfl) (by kernel_rfl) (by kernel_rfl) (by kernel_rfl)) ?_
  intro W base args ds gs before hval0 hW hcnd _
  have hval : ∀ (j : Nat) t v, Try.f5.params[j]? = some t → args[j]? = some v → Value.okWide Try.prog W .any base t v := hval0
  have hW' := hW
  obtain ⟨p, q, hA0, hV, rfl, hfz, hnd⟩ := hW
  have hA : DataW.TrodAll enc Try.prog W 0 (fun _ => true) true Try.f5.params.toList args.toList ds p := hA0
  rw [Try.params5] at hA hval
  obtain ⟨v0, vs0, d0, ds0, p0, q0, hargs, rfl, rfl, h0, r0⟩ := trodAll_cons hA
  obtain ⟨v1, vs1, d1, ds1, p1, q1, rfl, rfl, rfl, h1, r1⟩ := trodAll_cons r0
  obtain ⟨rfl, rfl, rfl⟩ := trodAll_nil r1
  obtain rfl : args = #[v0, v1] := by cases args; simp_all
  obtain ⟨rfl, rfl⟩ := trodVars_none hV
  have k0 := h0
  have lt0 : ∀ x ∈ p0, x.block < W.heap.size := by obtain ⟨m, hm⟩ := k0; exact DataW.trod_lt m _ _ _ hm
  obtain ⟨a0, n0, c0, b0, m0, e0, l0, rfl, s0⟩ := nm_in (hval 0 28 v0 rfl rfl) h0
  have k1 := h1
  have lt1 : ∀ x ∈ p1, x.block < W.heap.size := by obtain ⟨m, hm⟩ := k1; exact DataW.trod_lt m _ _ _ hm
  obtain ⟨a1, n1, c1, b1, m1, e1, l1, rfl, s1⟩ := nm_in (hval 1 28 v1 rfl rfl) h1
  clear hA0 hval0
  refine (tradeBack_walk a0 n0 c0 b0 m0 e0 l0 a1 n1 c1 b1 m1 e1 l1 W s0 s1).mono fun e W' ⟨he, bel⟩ => ?_
  subst he
  exact ⟨_, rfl, _, _, _, [], _, [], hW', trodAll_mk1 (shut_bool Try.underlying4 _), (trodAll_cons_mk (Below.trod tradeBack_laidOut (by kernel_rfl) (of_decide_eq_true (by kernel_rfl)) k0 bel lt0) (trodAll_cons_mk (Below.trod tradeBack_laidOut (by kernel_rfl) (of_decide_eq_true (by kernel_rfl)) k1 bel lt1) trodAll_mk0)), rfl, bel.frame _, fun h => by cases h⟩

/-- The statement. -/
theorem tradeBack_proved : Rows.TradeBackSaid :=
  OpenClaim.holds_of_wide 5 Try.f5 rfl rfl rfl rfl rfl rfl rfl ⟨rfl, rfl, rfl, rfl, rfl⟩ rfl rfl rfl rfl rfl (by kernel_rfl) Try.func5 (by kernel_rfl)
    (of_decide_eq_true (by kernel_rfl)) (by unfold Func.isWrapper; first | (rw [if_pos (by decide +kernel)]; kernel_rfl) | (rw [if_neg (by decide +kernel)]; exact ⟨rfl, rfl⟩))
    (fun os started H enc _ => tradeBack_lifted os started H enc)

#print axioms tradeBack_proved
end Go.Proofs.Ytbiiabfhngdeiaa
