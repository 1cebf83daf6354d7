/-
  The statement PatchOrder: of two ids that are not the same just one is less; of three that go on so the first one is.
-/
import Derived.Test.YtcfoodbfapldbaaPnAwake
import Derived.Test.YtcfoodbfapldbaaGQ
import Derived.OpenShut
import Derived.ShutString
import Derived.BigQuiet
set_option maxRecDepth 100000
namespace Go.Proofs.Ytcfoodbfapldbaa
open Go.RowKit
set_option linter.unusedVariables false
set_option linter.unusedSimpArgs false
open Tr Tx Hk Pr Fl Pn
namespace PnL
attribute [local go_sem] eq_id

set_option maxRecDepth 100000 in
set_option maxHeartbeats 8000000 in
theorem patchOrder_walk (x : Id_) (y : Id_) (v : Id_) (w : World)  :
    Calls Try.prog 5 #[.agg #[.int .i64 x.1, .int .i64 x.2], .agg #[.int .i64 y.1, .int .i64 y.2], .agg #[.int .i64 v.1, .int .i64 v.2]] w (LawEnd w) := by
  obtain ⟨x1, x2⟩ := x
  obtain ⟨y1, y2⟩ := y
  obtain ⟨v1, v2⟩ := v
  dsimp only
  have b0 := (((Blk.new w 23 #[.int .i64 x1, .int .i64 x2]).alloc (.cells #[.int .i64 y1, .int .i64 y2] 23)).alloc (.cells #[.int .i64 v1, .int .i64 v2] 23))
  have b1 := ((Blk.new (w.alloc (.cells #[.int .i64 x1, .int .i64 x2] 23)) 23 #[.int .i64 y1, .int .i64 y2]).alloc (.cells #[.int .i64 v1, .int .i64 v2] 23))
  have b2 := (Blk.new ((w.alloc (.cells #[.int .i64 x1, .int .i64 x2] 23)).alloc (.cells #[.int .i64 y1, .int .i64 y2] 23)) 23 #[.int .i64 v1, .int .i64 v2])
  have hb : Below w.heap.size w (((w.alloc (.cells #[.int .i64 x1, .int .i64 x2] 23)).alloc (.cells #[.int .i64 y1, .int .i64 y2] 23)).alloc (.cells #[.int .i64 v1, .int .i64 v2] 23)) := ((((Below.refl w.heap.size w).alloc (by simp; try omega) (.cells #[.int .i64 x1, .int .i64 x2] 23)).alloc (by simp; try omega) (.cells #[.int .i64 y1, .int .i64 y2] 23)).alloc (by simp; try omega) (.cells #[.int .i64 v1, .int .i64 v2] 23))
  simp only [World.size_alloc] at b1
  simp only [World.size_alloc] at b2
  go_enter Try.func5, Try.ntmps5
  go_upto_region 1 with fail
  generalize (((w.alloc (.cells #[.int .i64 x1, .int .i64 x2] 23)).alloc (.cells #[.int .i64 y1, .int .i64 y2] 23)).alloc (.cells #[.int .i64 v1, .int .i64 v2] 23)) = w_1 at b0 b1 b2  hb ⊢
  obtain ⟨z, hz⟩ : ∃ z, w.heap.size = z := ⟨_, rfl⟩
  rw [hz] at b0 b1 b2 ⊢
  have BX := Lib.hid b0
  have BY := Lib.hid b1
  have BV := Lib.hid b2
  have HZ := Lib.hid hz
  clear b0 b1 b2 hz
  have HB := Lib.hid hb; clear hb
  go_wp2_with fail
  refine (Pn.awake w_1).mono ?_
  rintro e w_2 ⟨rfl, hb⟩
  replace BX := Lib.hid (BX.out.below hb BX.out.lt)
  replace BY := Lib.hid (BY.out.below hb BY.out.lt)
  replace BV := Lib.hid (BV.out.below hb BV.out.lt)
  replace HB := Lib.hid (below_mv HB.out hb)
  clear hb
  obtain ⟨b1, h1⟩ : ∃ b, lessI (x1, x2) (y1, y2) = b := ⟨_, rfl⟩
  obtain ⟨b2, h2⟩ : ∃ b, lessI (y1, y2) (x1, x2) = b := ⟨_, rfl⟩
  have H1 := Lib.hid h1; have H2 := Lib.hid h2; clear h1 h2
  have bx_0 := BX.out.cell 0 rfl
  have bx_1 := BX.out.cell 1 rfl
  have by_0 := BY.out.cell 0 rfl
  have by_1 := BY.out.cell 1 rfl
  go_wp2_with fail
  refine (LessC (x1, x2) (y1, y2) w_2 b1 H1.out).mono ?_
  rintro e w_3 ⟨rfl, hb⟩
  replace BX := Lib.hid (BX.out.below hb BX.out.lt)
  replace BY := Lib.hid (BY.out.below hb BY.out.lt)
  replace BV := Lib.hid (BV.out.below hb BV.out.lt)
  replace HB := Lib.hid (below_mv HB.out hb)
  clear hb
  clear bx_0 bx_1 by_0 by_1
  have by_0 := BY.out.cell 0 rfl
  have by_1 := BY.out.cell 1 rfl
  have bx_0 := BX.out.cell 0 rfl
  have bx_1 := BX.out.cell 1 rfl
  go_wp2_with fail
  refine (LessC (y1, y2) (x1, x2) w_3 b2 H2.out).mono ?_
  rintro e w_4 ⟨rfl, hb⟩
  replace BX := Lib.hid (BX.out.below hb BX.out.lt)
  replace BY := Lib.hid (BY.out.below hb BY.out.lt)
  replace BV := Lib.hid (BV.out.below hb BV.out.lt)
  replace HB := Lib.hid (below_mv HB.out hb)
  clear hb
  clear by_0 by_1 bx_0 bx_1
  cases b1 with
  | false =>
    cases b2 with
    | false =>
      have he : (x1, x2) = (y1, y2) := by
        refine Classical.byContradiction fun e => ?_
        have h3 := lessI_tri.2 e
        rw [H1.out, H2.out] at h3
        cases h3 with
        | inl h => cases h
        | inr h => cases h
      injection he with k1 k2
      subst k1 k2
      have bx_0 := BX.out.cell 0 rfl
      have bx_1 := BX.out.cell 1 rfl
      have by_0 := BY.out.cell 0 rfl
      have by_1 := BY.out.cell 1 rfl
      go_wp2
      go_ret
      exact ⟨rfl, HB.out⟩
    | true =>
      have HNE : Hid ((x1, x2) ≠ (y1, y2)) := Lib.hid (lessI_tri.1 (.inr H2.out))
      by_cases k1 : x1 = y1
      case pos =>
        have k2 : (x2 == y2) = false := by rw [beq_eq_false_iff_ne]; exact fun e => HNE.out (by rw [k1, e])
        subst k1
        have bx_0 := BX.out.cell 0 rfl
        have bx_1 := BX.out.cell 1 rfl
        have by_0 := BY.out.cell 0 rfl
        have by_1 := BY.out.cell 1 rfl
        go_wp2
        go_ret
        exact ⟨rfl, HB.out⟩
      case neg =>
        have k2 : (x1 == y1) = false := by rw [beq_eq_false_iff_ne]; exact k1
        clear k1
        have bx_0 := BX.out.cell 0 rfl
        have bx_1 := BX.out.cell 1 rfl
        have by_0 := BY.out.cell 0 rfl
        have by_1 := BY.out.cell 1 rfl
        go_wp2
        go_ret
        exact ⟨rfl, HB.out⟩
  | true =>
    obtain rfl : b2 = false := by
      cases b2 with
      | false => rfl
      | true => exact absurd ⟨H1.out, H2.out⟩ lessI_asym
    have HNE : Hid ((x1, x2) ≠ (y1, y2)) := Lib.hid (lessI_tri.1 (.inl H1.out))
    by_cases k1 : x1 = y1
    case pos =>
      have k2 : (x2 == y2) = false := by rw [beq_eq_false_iff_ne]; exact fun e => HNE.out (by rw [k1, e])
      subst k1
      obtain ⟨b3, h3⟩ : ∃ b, lessI (x1, y2) (v1, v2) = b := ⟨_, rfl⟩
      have H3 := Lib.hid h3; clear h3
      have bx_0 := BX.out.cell 0 rfl
      have bx_1 := BX.out.cell 1 rfl
      have by_0 := BY.out.cell 0 rfl
      have by_1 := BY.out.cell 1 rfl
      have bv_0 := BV.out.cell 0 rfl
      have bv_1 := BV.out.cell 1 rfl
      go_wp2_with fail
      refine (LessC (x1, y2) (v1, v2) w_4 b3 H3.out).mono ?_
      rintro e w_5 ⟨rfl, hb⟩
      replace BX := Lib.hid (BX.out.below hb BX.out.lt)
      replace BY := Lib.hid (BY.out.below hb BY.out.lt)
      replace BV := Lib.hid (BV.out.below hb BV.out.lt)
      replace HB := Lib.hid (below_mv HB.out hb)
      clear hb
      clear bx_0 bx_1 by_0 by_1 bv_0 bv_1
      cases b3 with
      | false =>
        go_wp2
        go_ret
        exact ⟨rfl, HB.out⟩
      | true =>
        have bx_0 := BX.out.cell 0 rfl
        have bx_1 := BX.out.cell 1 rfl
        have bv_0 := BV.out.cell 0 rfl
        have bv_1 := BV.out.cell 1 rfl
        go_wp2_with fail
        refine (LessC (x1, x2) (v1, v2) w_5 true (lessI_trans H1.out H3.out)).mono ?_
        rintro e w_6 ⟨rfl, hb⟩
        replace BX := Lib.hid (BX.out.below hb BX.out.lt)
        replace BY := Lib.hid (BY.out.below hb BY.out.lt)
        replace BV := Lib.hid (BV.out.below hb BV.out.lt)
        replace HB := Lib.hid (below_mv HB.out hb)
        clear hb
        clear bx_0 bx_1 bv_0 bv_1
        go_wp2
        go_ret
        exact ⟨rfl, HB.out⟩
    case neg =>
      have k2 : (x1 == y1) = false := by rw [beq_eq_false_iff_ne]; exact k1
      clear k1
      obtain ⟨b3, h3⟩ : ∃ b, lessI (y1, y2) (v1, v2) = b := ⟨_, rfl⟩
      have H3 := Lib.hid h3; clear h3
      have bx_0 := BX.out.cell 0 rfl
      have bx_1 := BX.out.cell 1 rfl
      have by_0 := BY.out.cell 0 rfl
      have by_1 := BY.out.cell 1 rfl
      have bv_0 := BV.out.cell 0 rfl
      have bv_1 := BV.out.cell 1 rfl
      go_wp2_with fail
      refine (LessC (y1, y2) (v1, v2) w_4 b3 H3.out).mono ?_
      rintro e w_5 ⟨rfl, hb⟩
      replace BX := Lib.hid (BX.out.below hb BX.out.lt)
      replace BY := Lib.hid (BY.out.below hb BY.out.lt)
      replace BV := Lib.hid (BV.out.below hb BV.out.lt)
      replace HB := Lib.hid (below_mv HB.out hb)
      clear hb
      clear bx_0 bx_1 by_0 by_1 bv_0 bv_1
      cases b3 with
      | false =>
        go_wp2
        go_ret
        exact ⟨rfl, HB.out⟩
      | true =>
        have bx_0 := BX.out.cell 0 rfl
        have bx_1 := BX.out.cell 1 rfl
        have bv_0 := BV.out.cell 0 rfl
        have bv_1 := BV.out.cell 1 rfl
        go_wp2_with fail
        refine (LessC (x1, x2) (v1, v2) w_5 true (lessI_trans H1.out H3.out)).mono ?_
        rintro e w_6 ⟨rfl, hb⟩
        replace BX := Lib.hid (BX.out.below hb BX.out.lt)
        replace BY := Lib.hid (BY.out.below hb BY.out.lt)
        replace BV := Lib.hid (BV.out.below hb BV.out.lt)
        replace HB := Lib.hid (below_mv HB.out hb)
        clear hb
        clear bx_0 bx_1 bv_0 bv_1
        go_wp2
        go_ret
        exact ⟨rfl, HB.out⟩

end PnL
open PnL
open Tx
open Go.ChangeShapes Go.WideShapes Go.ChangeAt

theorem patchOrder_own : ownKnob Try.prog.godebug = none := by kernel_rfl
theorem patchOrder_laidOut : laidOutB Try.prog = true := by kernel_rfl

set_option maxRecDepth 100000 in
theorem patchOrder_lifted (os : Os) (started : os.Started) (H : Type) (enc : TypeId × Value → H) :
    ReturnsInHanded {} Try.checked os 5 .any (Rows.patchOrderSpec.pre6 enc Try.prog Try.f5 Rows.patchOrderRow.domain false) (Rows.patchOrderSpec.post enc Try.prog Try.f5 false true false false) := by
  refine returnsInHanded_of_change (C := Try.checked) patchOrder_own started (by kernel_rfl) Try.func5
    (ChangeSpec.witness6 (enc := enc) (C := Try.checked) false ⟨#[], #[.agg #[.int .i64 0, .int .i64 0], .agg #[.int .i64 0, .int .i64 0], .agg #[.int .i64 0, .int .i64 0]], []⟩ 8 (by kernel_rfl) (by kernel_rfl) (by kernel_rfl) (by kernel_rfl)) ?_
  intro W base args ds gs before hval0 hW hcnd _
  have hval : ∀ (j : Nat) t v, Try.f5.params[j]? = some t → args[j]? = some v → Value.okWide Try.prog W .any base t v := hval0
  have hW' := hW
  obtain ⟨p, q, hA0, hV, rfl, hfz, hnd⟩ := hW
  have hA : DataW.TrodAll enc Try.prog W 0 (fun _ => true) true Try.f5.params.toList args.toList ds p := hA0
  rw [Try.params5] at hA hval
  obtain ⟨v0, vs0, d0, ds0, p0, q0, hargs, rfl, rfl, h0, r0⟩ := trodAll_cons hA
  obtain ⟨v1, vs1, d1, ds1, p1, q1, rfl, rfl, rfl, h1, r1⟩ := trodAll_cons r0
  obtain ⟨v2, vs2, d2, ds2, p2, q2, rfl, rfl, rfl, h2, r2⟩ := trodAll_cons r1
  obtain ⟨rfl, rfl, rfl⟩ := trodAll_nil r2
  obtain rfl : args = #[v0, v1, v2] := by cases args; simp_all
  obtain ⟨rfl, rfl⟩ := trodVars_none hV
  have k0 := h0
  have lt0 : ∀ x ∈ p0, x.block < W.heap.size := by obtain ⟨m, hm⟩ := k0; exact DataW.trod_lt m _ _ _ hm
  obtain ⟨i0, rfl⟩ := id_in (hval 0 23 v0 rfl rfl) h0
  have k1 := h1
  have lt1 : ∀ x ∈ p1, x.block < W.heap.size := by obtain ⟨m, hm⟩ := k1; exact DataW.trod_lt m _ _ _ hm
  obtain ⟨i1, rfl⟩ := id_in (hval 1 23 v1 rfl rfl) h1
  have k2 := h2
  have lt2 : ∀ x ∈ p2, x.block < W.heap.size := by obtain ⟨m, hm⟩ := k2; exact DataW.trod_lt m _ _ _ hm
  obtain ⟨i2, rfl⟩ := id_in (hval 2 23 v2 rfl rfl) h2
  clear hA0 hval0
  refine (patchOrder_walk i0 i1 i2 W ).mono fun e W' ⟨he, bel⟩ => ?_
  subst he
  exact ⟨_, rfl, _, _, _, [], _, [], hW', trodAll_mk1 (shut_bool Try.underlying4 _), (trodAll_cons_mk (Below.trod patchOrder_laidOut (by kernel_rfl) (of_decide_eq_true (by kernel_rfl)) k0 bel lt0) (trodAll_cons_mk (Below.trod patchOrder_laidOut (by kernel_rfl) (of_decide_eq_true (by kernel_rfl)) k1 bel lt1) (trodAll_cons_mk (Below.trod patchOrder_laidOut (by kernel_rfl) (of_decide_eq_true (by kernel_rfl)) k2 bel lt2) trodAll_mk0))), rfl, bel.frame _, fun h => by cases h⟩

/-- The statement. -/
theorem patchOrder_proved : Rows.PatchOrderSaid :=
  OpenClaim.holds_of_wide 5 Try.f5 rfl rfl rfl rfl rfl rfl rfl ⟨rfl, rfl, rfl, rfl, rfl⟩ rfl rfl rfl rfl rfl (by kernel_rfl) Try.func5 (by kernel_rfl)
    (of_decide_eq_true (by kernel_rfl)) (by unfold Func.isWrapper; first | (rw [if_pos (by decide +kernel)]; kernel_rfl) | (rw [if_neg (by decide +kernel)]; exact ⟨rfl, rfl⟩))
    (fun os started H enc _ => patchOrder_lifted os started H enc)

#print axioms patchOrder_proved
end Go.Proofs.Ytcfoodbfapldbaa
