/-
  The statement TreeStays: a tree that may be may be without a file, and with one that may be, if there is room; put and taken away it is as it was.
-/
import Derived.Test.YtcmpbglbmikkoaaTxRef
import Derived.Test.YtcmpbglbmikkoaaTrLaw
import Derived.OpenShut
import Derived.ShutString
namespace Go.Proofs.Ytcmpbglbmikkoaa
open Go.RowKit
set_option linter.unusedVariables false
open Tr Tx
namespace TrL

theorem RefNameV (x : List UInt8) (w : World) (hx : x.length ≤ maxLen) : Calls Try.prog 25 #[strV x] w fun e w' => e = .returned (.bool (name x)) ∧ w = w' := by
  have := RefName ⟨x.toArray⟩ w (by rw [size_strV]; exact hx)
  simpa using this

set_option maxRecDepth 100000 in
set_option maxHeartbeats 4000000 in
theorem treeStays_walk (A_t : Option Addr) (n_t c_t : Nat) (t : TR) (s : List UInt8) (A_l : Option Addr) (n_l c_l : Nat) (l : List (List UInt8)) (w : World) (h_t : TreeArg w A_t n_t c_t t) (h_s : s.length ≤ maxLen) (h_l : StrArg w A_l n_l c_l l) :
    Calls Try.prog 5 #[.slice A_t n_t c_t, strV s, .slice A_l n_l c_l] w (LawEnd w) := by
  have HT_t := Lib.hid h_t.rd; have HN_t := Lib.hid h_t.len; have HF_t := Lib.hid h_t.fit; have HC_t := Lib.hid h_t.le
  have HT_l := Lib.hid h_l.rd; have HN_l := Lib.hid h_l.len; have HC_l := Lib.hid h_l.le; have HX_l := Lib.hid h_l.short
  have HB := Lib.hid (Below.refl w.heap.size w)
  clear h_t h_l
  go_enter Try.func5, Try.ntmps5
  go_wp2_with fail
  refine (awake w).mono ?_
  rintro e w1 ⟨rfl, hb⟩
  replace HT_t := Lib.hid (HT_t.out.mv hb)
  replace HT_l := Lib.hid (rdS_mv HT_l.out hb)
  replace HB := Lib.hid (below_mv HB.out hb)
  clear hb
  go_wp2_with fail
  refine (LightT A_t c_t n_t _ t _ HN_t.out HC_t.out HF_t.out HT_t.out).mono ?_
  rintro e w' ⟨rfl, rfl⟩
  go_wp2_with fail
  refine (Light A_l c_l n_l _ 300 l _ HN_l.out HC_l.out HT_l.out (by decide)).mono ?_
  rintro e w' ⟨rfl, rfl⟩
  go_wp2_with fail
  refine (RefNameV s _ h_s).mono ?_
  rintro e w' ⟨rfl, rfl⟩
  go_wp2_with fail
  refine (RefAll A_l c_l n_l _ l _ HN_l.out HC_l.out HT_l.out HX_l.out).mono ?_
  rintro e w' ⟨rfl, rfl⟩
  cases hl : lightT t with
  | false =>
    clear hl
    go_wp2
    go_ret
    exact ⟨rfl, HB.out⟩
  | true =>
  have HS_t := Lib.hid (lightT_small hl).2; have HK_t := Lib.hid (lightT_small hl).1; clear hl HF_t HC_t
  cases hl : light l 300 with
  | false =>
    clear hl
    go_wp2
    go_ret
    exact ⟨rfl, HB.out⟩
  | true =>
  have HS_l := Lib.hid (light_small hl (by decide)); clear hl HC_l
  cases hm : mayT t with
  | false =>
    go_wp2_with fail
    refine (MayC (b := false) HN_t.out HS_t.out HT_t.out hm).mono ?_
    rintro e w2 ⟨rfl, hb⟩
    replace HT_t := Lib.hid (HT_t.out.mv hb)
    replace HT_l := Lib.hid (rdS_mv HT_l.out hb)
    replace HB := Lib.hid (below_mv HB.out hb)
    clear hb
    go_wp2
    go_ret
    exact ⟨rfl, HB.out⟩
  | true =>
    have HM := Lib.hid hm; clear hm
    go_wp2_with fail
    refine (MayC (b := true) HN_t.out HS_t.out HT_t.out HM.out).mono ?_
    rintro e w2 ⟨rfl, hb⟩
    replace HT_t := Lib.hid (HT_t.out.mv hb)
    replace HT_l := Lib.hid (rdS_mv HT_l.out hb)
    replace HB := Lib.hid (below_mv HB.out hb)
    clear hb
    cases hnm : name s with
    | false =>
      go_wp2
      go_ret
      exact ⟨rfl, HB.out⟩
    | true =>
      have HNM := Lib.hid hnm
      have HU_s : Hid (s.length ≤ 100000) := Lib.hid (by unfold name at hnm; simp only [Bool.and_eq_true, decide_eq_true_eq] at hnm; omega)
      clear hnm
      cases hal : allMay l with
      | false =>
        go_wp2
        go_ret
        exact ⟨rfl, HB.out⟩
      | true =>
        have HAL := Lib.hid hal; clear hal
        obtain ⟨b, hbx⟩ : ∃ b, (get t s).isSome = b := ⟨_, rfl⟩
        have HBX := Lib.hid hbx; clear hbx
        obtain ⟨x, hq⟩ : ∃ X : List (List UInt8), (get t s).getD [] = X := ⟨_, rfl⟩
        have HQ_x := Lib.hid hq
        obtain ⟨n_x, hn⟩ : ∃ k, x.length = k := ⟨_, rfl⟩
        have HN_x := Lib.hid hn
        have HS_x : Hid (SmallL x) := Lib.hid (by rw [← hq]; exact (small_get HS_t.out))
        have hgl : (get t s).getD [] = x := by rw [← hq]
        have hgb : (get t s).isSome = b := by exact HBX.out
        clear hq hn
        have HGL := Lib.hid hgl; have HGB := Lib.hid hgb; clear hgl hgb
        go_wp2_with fail
        refine (GetC HN_t.out HS_t.out HT_t.out HGL.out HGB.out HN_x.out).mono ?_
        rintro e w3 ⟨A_x, c_x, rfl, hc, hr, hb⟩
        replace HT_t := Lib.hid (HT_t.out.mv hb)
        replace HT_l := Lib.hid (rdS_mv HT_l.out hb)
        replace HB := Lib.hid (below_mv HB.out hb)
        clear hb
        have HT_x := Lib.hid hr; clear hr hc
        clear HGL HGB
        obtain ⟨p, hq⟩ : ∃ X, put Op.bytesLess t s l = X := ⟨_, rfl⟩
        have HQ_p := Lib.hid hq
        obtain ⟨n_p, hn⟩ : ∃ k, p.length = k := ⟨_, rfl⟩
        have HN_p := Lib.hid hn
        clear hq hn
        have HS_p : Hid (Small p) := Lib.hid (by rw [← HQ_p.out]; exact (small_put HS_t.out HK_t.out (by decide) HU_s.out HS_l.out).1)
        have HK_p : Hid (p.length ≤ 41) := Lib.hid (by rw [← HQ_p.out]; exact (small_put HS_t.out HK_t.out (by decide) HU_s.out HS_l.out).2)
        go_wp2_with fail
        refine (PutC HN_t.out HS_t.out HN_l.out HS_l.out HT_t.out HT_l.out HQ_p.out HN_p.out).mono ?_
        rintro e w4 ⟨A_p, c_p, rfl, hc, hr, hb⟩
        replace HT_t := Lib.hid (HT_t.out.mv hb)
        replace HT_l := Lib.hid (rdS_mv HT_l.out hb)
        replace HT_x := Lib.hid (rdS_mv HT_x.out hb)
        replace HB := Lib.hid (below_mv HB.out hb)
        clear hb
        have HT_p := Lib.hid hr; clear hr hc
        have HMP : Hid (mayT p = (b || decide (n_t < 30))) := Lib.hid (by rw [← HQ_p.out, mayT_put HM.out HNM.out HAL.out, HBX.out, HN_t.out])
        obtain ⟨d, hq⟩ : ∃ X, del t s = X := ⟨_, rfl⟩
        have HQ_d := Lib.hid hq
        obtain ⟨n_d, hn⟩ : ∃ k, d.length = k := ⟨_, rfl⟩
        have HN_d := Lib.hid hn
        clear hq hn
        have HS_d : Hid (Small d) := Lib.hid (by rw [← HQ_d.out]; exact (small_del HS_t.out HK_t.out).1)
        have HK_d : Hid (d.length ≤ 40) := Lib.hid (by rw [← HQ_d.out]; exact (small_del HS_t.out HK_t.out).2)
        go_wp2_with fail
        refine (DelC HN_t.out HS_t.out HT_t.out HQ_d.out HN_d.out).mono ?_
        rintro e w5 ⟨A_d, c_d, rfl, hc, hr, hb⟩
        replace HT_t := Lib.hid (HT_t.out.mv hb)
        replace HT_p := Lib.hid (HT_p.out.mv hb)
        replace HT_l := Lib.hid (rdS_mv HT_l.out hb)
        replace HT_x := Lib.hid (rdS_mv HT_x.out hb)
        replace HB := Lib.hid (below_mv HB.out hb)
        clear hb
        have HT_d := Lib.hid hr; clear hr hc
        have HMD : Hid (mayT d = true) := Lib.hid (by rw [← HQ_d.out]; exact mayT_del HM.out s)
        go_wp2_with fail
        refine (MayC (b := true) HN_d.out HS_d.out HT_d.out HMD.out).mono ?_
        rintro e w6 ⟨rfl, hb⟩
        replace HT_t := Lib.hid (HT_t.out.mv hb)
        replace HT_p := Lib.hid (HT_p.out.mv hb)
        replace HT_d := Lib.hid (HT_d.out.mv hb)
        replace HT_l := Lib.hid (rdS_mv HT_l.out hb)
        replace HT_x := Lib.hid (rdS_mv HT_x.out hb)
        replace HB := Lib.hid (below_mv HB.out hb)
        clear hb
        cases hb0 : b with
        | false =>
          subst hb0
          have hno : get t s = none := by have := HBX.out; cases hg : get t s with | none => rfl | some y => rw [hg] at this; cases this
          have HNO := Lib.hid hno; clear hno
          by_cases h30 : n_t < 30
          · skip
            have HMP2 : Hid (mayT p = true) := Lib.hid (by rw [HMP.out]; simp; omega)
            have h30a : decide ((n_t : Int) < 30) = true := by simp; omega
            go_wp2_with fail
            refine (MayC (b := true) HN_p.out HS_p.out HT_p.out HMP2.out).mono ?_
            rintro e w7 ⟨rfl, hb⟩
            replace HT_t := Lib.hid (HT_t.out.mv hb)
            replace HT_p := Lib.hid (HT_p.out.mv hb)
            replace HT_d := Lib.hid (HT_d.out.mv hb)
            replace HT_l := Lib.hid (rdS_mv HT_l.out hb)
            replace HT_x := Lib.hid (rdS_mv HT_x.out hb)
            replace HB := Lib.hid (below_mv HB.out hb)
            clear hb
            obtain ⟨d5, hq⟩ : ∃ X, del p s = X := ⟨_, rfl⟩
            have HQ_d5 := Lib.hid hq
            obtain ⟨n_d5, hn⟩ : ∃ k, d5.length = k := ⟨_, rfl⟩
            have HN_d5 := Lib.hid hn
            clear hq hn
            have HS_d5 : Hid (Small d5) := Lib.hid (by rw [← HQ_d5.out]; exact (small_del HS_p.out HK_p.out).1)
            have HK_d5 : Hid (d5.length ≤ 41) := Lib.hid (by rw [← HQ_d5.out]; exact (small_del HS_p.out HK_p.out).2)
            go_wp2_with fail
            refine (DelC HN_p.out HS_p.out HT_p.out HQ_d5.out HN_d5.out).mono ?_
            rintro e w8 ⟨A_d5, c_d5, rfl, hc, hr, hb⟩
            replace HT_t := Lib.hid (HT_t.out.mv hb)
            replace HT_p := Lib.hid (HT_p.out.mv hb)
            replace HT_d := Lib.hid (HT_d.out.mv hb)
            replace HT_l := Lib.hid (rdS_mv HT_l.out hb)
            replace HT_x := Lib.hid (rdS_mv HT_x.out hb)
            replace HB := Lib.hid (below_mv HB.out hb)
            clear hb
            have HT_d5 := Lib.hid hr; clear hr hc
            have HDT : Hid (d5 = t) := Lib.hid (by rw [← HQ_d5.out, ← HQ_p.out]; exact del_put _ HNO.out l)
            go_wp2_with fail
            refine (SameC (b := true) HN_d5.out HN_t.out HS_d5.out HT_d5.out HT_t.out (decide_eq_true HDT.out)).mono ?_
            rintro e w9 ⟨rfl, hb⟩
            replace HT_t := Lib.hid (HT_t.out.mv hb)
            replace HT_p := Lib.hid (HT_p.out.mv hb)
            replace HT_d := Lib.hid (HT_d.out.mv hb)
            replace HT_d5 := Lib.hid (HT_d5.out.mv hb)
            replace HT_l := Lib.hid (rdS_mv HT_l.out hb)
            replace HT_x := Lib.hid (rdS_mv HT_x.out hb)
            replace HB := Lib.hid (below_mv HB.out hb)
            clear hb
            go_wp2
            go_ret
            exact ⟨rfl, HB.out⟩
          · skip
            have HMP2 : Hid (mayT p = false) := Lib.hid (by rw [HMP.out]; simp; omega)
            have h30a : decide ((n_t : Int) < 30) = false := by simp; omega
            go_wp2_with fail
            refine (MayC (b := false) HN_p.out HS_p.out HT_p.out HMP2.out).mono ?_
            rintro e w7 ⟨rfl, hb⟩
            replace HT_t := Lib.hid (HT_t.out.mv hb)
            replace HT_p := Lib.hid (HT_p.out.mv hb)
            replace HT_d := Lib.hid (HT_d.out.mv hb)
            replace HT_l := Lib.hid (rdS_mv HT_l.out hb)
            replace HT_x := Lib.hid (rdS_mv HT_x.out hb)
            replace HB := Lib.hid (below_mv HB.out hb)
            clear hb
            obtain ⟨d5, hq⟩ : ∃ X, del p s = X := ⟨_, rfl⟩
            have HQ_d5 := Lib.hid hq
            obtain ⟨n_d5, hn⟩ : ∃ k, d5.length = k := ⟨_, rfl⟩
            have HN_d5 := Lib.hid hn
            clear hq hn
            have HS_d5 : Hid (Small d5) := Lib.hid (by rw [← HQ_d5.out]; exact (small_del HS_p.out HK_p.out).1)
            have HK_d5 : Hid (d5.length ≤ 41) := Lib.hid (by rw [← HQ_d5.out]; exact (small_del HS_p.out HK_p.out).2)
            go_wp2_with fail
            refine (DelC HN_p.out HS_p.out HT_p.out HQ_d5.out HN_d5.out).mono ?_
            rintro e w8 ⟨A_d5, c_d5, rfl, hc, hr, hb⟩
            replace HT_t := Lib.hid (HT_t.out.mv hb)
            replace HT_p := Lib.hid (HT_p.out.mv hb)
            replace HT_d := Lib.hid (HT_d.out.mv hb)
            replace HT_l := Lib.hid (rdS_mv HT_l.out hb)
            replace HT_x := Lib.hid (rdS_mv HT_x.out hb)
            replace HB := Lib.hid (below_mv HB.out hb)
            clear hb
            have HT_d5 := Lib.hid hr; clear hr hc
            have HDT : Hid (d5 = t) := Lib.hid (by rw [← HQ_d5.out, ← HQ_p.out]; exact del_put _ HNO.out l)
            go_wp2_with fail
            refine (SameC (b := true) HN_d5.out HN_t.out HS_d5.out HT_d5.out HT_t.out (decide_eq_true HDT.out)).mono ?_
            rintro e w9 ⟨rfl, hb⟩
            replace HT_t := Lib.hid (HT_t.out.mv hb)
            replace HT_p := Lib.hid (HT_p.out.mv hb)
            replace HT_d := Lib.hid (HT_d.out.mv hb)
            replace HT_d5 := Lib.hid (HT_d5.out.mv hb)
            replace HT_l := Lib.hid (rdS_mv HT_l.out hb)
            replace HT_x := Lib.hid (rdS_mv HT_x.out hb)
            replace HB := Lib.hid (below_mv HB.out hb)
            clear hb
            go_wp2
            go_ret
            exact ⟨rfl, HB.out⟩
        | true =>
          subst hb0
          have HMP2 : Hid (mayT p = true) := Lib.hid (by rw [HMP.out]; rfl)
          go_wp2_with fail
          refine (MayC (b := true) HN_p.out HS_p.out HT_p.out HMP2.out).mono ?_
          rintro e w7 ⟨rfl, hb⟩
          replace HT_t := Lib.hid (HT_t.out.mv hb)
          replace HT_p := Lib.hid (HT_p.out.mv hb)
          replace HT_d := Lib.hid (HT_d.out.mv hb)
          replace HT_l := Lib.hid (rdS_mv HT_l.out hb)
          replace HT_x := Lib.hid (rdS_mv HT_x.out hb)
          replace HB := Lib.hid (below_mv HB.out hb)
          clear hb
          go_wp2
          go_ret
          exact ⟨rfl, HB.out⟩

end TrL
open TrL
open Tx
open Go.ChangeShapes Go.WideShapes Go.ChangeAt
open Go.ChangeMaps (open_string shut_string)

theorem treeStays_own : ownKnob Try.prog.godebug = none := by kernel_rfl
theorem treeStays_laidOut : laidOutB Try.prog = true := by kernel_rfl

set_option maxRecDepth 100000 in
theorem treeStays_lifted (os : Os) (started : os.Started) (H : Type) (enc : TypeId × Value → H) :
    ReturnsInHanded {} Try.checked os 5 .any (Rows.treeStaysSpec.pre6 enc Try.prog Try.f5 Rows.treeStaysRow.domain false) (Rows.treeStaysSpec.post enc Try.prog Try.f5 false true false false) := by
  refine returnsInHanded_of_change (C := Try.checked) treeStays_own started (by kernel_rfl) Try.func5
    (ChangeSpec.witness6 (enc := enc) (C := Try.checked) false ⟨#[], #[.slice none 0 0, .string ByteArray.empty, .slice none 0 0], []⟩ 8 (by kernel_rfl) (by kernel_rfl) (by kernel_rfl) (by kernel_rfl)) ?_
  intro W base args ds gs before hval0 hW hcnd _
  have hval : ∀ (j : Nat) t v, Try.f5.params[j]? = some t → args[j]? = some v → Value.okWide Try.prog W .any base t v := hval0
  have hW' := hW
  obtain ⟨p, q, hA0, hV, rfl, hfz, hnd⟩ := hW
  have hA : DataW.TrodAll enc Try.prog W 0 (fun _ => true) true Try.f5.params.toList args.toList ds p := hA0
  rw [Try.params5] at hA hval
  obtain ⟨v0, vs0, d0, ds0, p0, q0, hargs, rfl, rfl, h0, r0⟩ := trodAll_cons hA
  obtain ⟨v1, vs1, d1, ds1, p1, q1, rfl, rfl, rfl, h1, r1⟩ := trodAll_cons r0
  obtain ⟨v2, vs2, d2, ds2, p2, q2, rfl, rfl, rfl, h2, r2⟩ := trodAll_cons r1
  obtain ⟨rfl, rfl, rfl⟩ := trodAll_nil r2
  obtain rfl : args = #[v0, v1, v2] := by cases args; simp_all
  obtain ⟨rfl, rfl⟩ := trodVars_none hV
  obtain ⟨a0, n0, c0, rfl⟩ := okWide_slice Try.underlying23 (hval 0 23 v0 rfl rfl)
  have k0 := h0
  have lt0 : ∀ x ∈ p0, x.block < W.heap.size := by obtain ⟨m, hm⟩ := k0; exact DataW.trod_lt m _ _ _ hm
  obtain ⟨l0, s0⟩ : ∃ l, TreeArg W a0 n0 c0 l := by
    obtain ⟨fuel, hf⟩ := h0
    exact tree_in hf (by simp [Value.cells])
  obtain ⟨a1, rfl, rfl, rfl, w1⟩ := open_string Try.underlying9 (hval 1 9 v1 rfl rfl) h1
  obtain ⟨a2, n2, c2, rfl⟩ := okWide_slice Try.underlying24 (hval 2 24 v2 rfl rfl)
  have k2 := h2
  have lt2 : ∀ x ∈ p2, x.block < W.heap.size := by obtain ⟨m, hm⟩ := k2; exact DataW.trod_lt m _ _ _ hm
  obtain ⟨l2, s2⟩ : ∃ l, StrArg W a2 n2 c2 l := by
    obtain ⟨fuel, hf⟩ := h2
    exact strs_in hf (by simp [Value.cells])
  clear hA0 hval0
  refine (treeStays_walk a0 n0 c0 l0 a1.data.toList a2 n2 c2 l2 W s0 (by rw [Array.length_toList]; exact w1) s2).mono fun e W' ⟨he, bel⟩ => ?_
  subst he
  exact ⟨_, rfl, _, _, _, [], _, [], hW', trodAll_mk1 (shut_bool Try.underlying4 _), (trodAll_cons_mk (Below.trod treeStays_laidOut (by kernel_rfl) (of_decide_eq_true (by kernel_rfl)) k0 bel lt0) (trodAll_cons_mk (shut_string Try.underlying9 w1) (trodAll_cons_mk (Below.trod treeStays_laidOut (by kernel_rfl) (of_decide_eq_true (by kernel_rfl)) k2 bel lt2) trodAll_mk0))), rfl, bel.frame _, fun h => by cases h⟩

/-- The statement. -/
theorem treeStays_proved : Rows.TreeStaysSaid :=
  OpenClaim.holds_of_wide 5 Try.f5 rfl rfl rfl rfl rfl rfl rfl ⟨rfl, rfl, rfl, rfl, rfl⟩ rfl rfl rfl rfl rfl (by kernel_rfl) Try.func5 (by kernel_rfl)
    (of_decide_eq_true (by kernel_rfl)) (by unfold Func.isWrapper; first | (rw [if_pos (by decide +kernel)]; kernel_rfl) | (rw [if_neg (by decide +kernel)]; exact ⟨rfl, rfl⟩))
    (fun os started H enc _ => treeStays_lifted os started H enc)

#print axioms treeStays_proved
end Go.Proofs.Ytcmpbglbmikkoaa
