/-
  The statement TreeKeeps: what is put is got, and changes no other file; what is taken away is not there, and changes no other one.
-/
import Derived.Test.YtcmpbglbmikkoaaTrLaw
import Derived.OpenShut
import Derived.ShutString
namespace Go.Proofs.Ytcmpbglbmikkoaa
open Go.RowKit
set_option linter.unusedVariables false
open Tr Tx
namespace TrL

set_option maxRecDepth 100000 in
set_option maxHeartbeats 4000000 in
theorem treeKeeps_walk (A_t : Option Addr) (n_t c_t : Nat) (t : TR) (s : List UInt8) (o : List UInt8) (A_l : Option Addr) (n_l c_l : Nat) (l : List (List UInt8)) (w : World) (h_t : TreeArg w A_t n_t c_t t) (h_s : s.length ≤ maxLen) (h_o : o.length ≤ maxLen) (h_l : StrArg w A_l n_l c_l l) :
    Calls Try.prog 4 #[.slice A_t n_t c_t, strV s, strV o, .slice A_l n_l c_l] w (LawEnd w) := by
  have HT_t := Lib.hid h_t.rd; have HN_t := Lib.hid h_t.len; have HF_t := Lib.hid h_t.fit; have HC_t := Lib.hid h_t.le
  have HT_l := Lib.hid h_l.rd; have HN_l := Lib.hid h_l.len; have HC_l := Lib.hid h_l.le; have HX_l := Lib.hid h_l.short
  have HB := Lib.hid (Below.refl w.heap.size w)
  clear h_t h_l
  go_enter Try.func4, Try.ntmps4
  go_wp2_with fail
  refine (awake w).mono ?_
  rintro e w1 ⟨rfl, hb⟩
  replace HT_t := Lib.hid (HT_t.out.mv hb)
  replace HT_l := Lib.hid (rdS_mv HT_l.out hb)
  replace HB := Lib.hid (below_mv HB.out hb)
  clear hb
  go_wp2_with fail
  refine (LightT A_t c_t n_t _ t _ HN_t.out HC_t.out HF_t.out HT_t.out).mono ?_
  rintro e w' ⟨rfl, rfl⟩
  go_wp2_with fail
  refine (Light A_l c_l n_l _ 300 l _ HN_l.out HC_l.out HT_l.out (by decide)).mono ?_
  rintro e w' ⟨rfl, rfl⟩
  cases hl : lightT t with
  | false =>
    clear hl
    go_wp2
    go_ret
    exact ⟨rfl, HB.out⟩
  | true =>
  have HS_t := Lib.hid (lightT_small hl).2; have HK_t := Lib.hid (lightT_small hl).1; clear hl HF_t HC_t
  cases hl : light l 300 with
  | false =>
    clear hl
    go_wp2
    go_ret
    exact ⟨rfl, HB.out⟩
  | true =>
  have HS_l := Lib.hid (light_small hl (by decide)); clear hl HC_l
  cases hm : mayT t with
  | false =>
    go_wp2_with fail
    refine (MayC (b := false) HN_t.out HS_t.out HT_t.out hm).mono ?_
    rintro e w2 ⟨rfl, hb⟩
    replace HT_t := Lib.hid (HT_t.out.mv hb)
    replace HT_l := Lib.hid (rdS_mv HT_l.out hb)
    replace HB := Lib.hid (below_mv HB.out hb)
    clear hb
    go_wp2
    go_ret
    exact ⟨rfl, HB.out⟩
  | true =>
    have HUP := Lib.hid (mayT_up hm); have HM := Lib.hid hm; clear hm
    go_wp2_with fail
    refine (MayC (b := true) HN_t.out HS_t.out HT_t.out HM.out).mono ?_
    rintro e w2 ⟨rfl, hb⟩
    replace HT_t := Lib.hid (HT_t.out.mv hb)
    replace HT_l := Lib.hid (rdS_mv HT_l.out hb)
    replace HB := Lib.hid (below_mv HB.out hb)
    clear hb
    by_cases h100_s : 100 < s.length
    · go_wp2
      go_ret
      exact ⟨rfl, HB.out⟩
    have HU_s : Hid (s.length ≤ 100000) := Lib.hid (by omega)
    by_cases h100_o : 100 < o.length
    · go_wp2
      go_ret
      exact ⟨rfl, HB.out⟩
    have HU_o : Hid (o.length ≤ 100000) := Lib.hid (by omega)
    obtain ⟨p, hq⟩ : ∃ X, put Op.bytesLess t s l = X := ⟨_, rfl⟩
    have HQ_p := Lib.hid hq
    obtain ⟨n_p, hn⟩ : ∃ k, p.length = k := ⟨_, rfl⟩
    have HN_p := Lib.hid hn
    clear hq hn
    have HS_p : Hid (Small p) := Lib.hid (by rw [← HQ_p.out]; exact (small_put HS_t.out HK_t.out (by decide) HU_s.out HS_l.out).1)
    have HK_p : Hid (p.length ≤ 41) := Lib.hid (by rw [← HQ_p.out]; exact (small_put HS_t.out HK_t.out (by decide) HU_s.out HS_l.out).2)
    go_wp2_with fail
    refine (PutC HN_t.out HS_t.out HN_l.out HS_l.out HT_t.out HT_l.out HQ_p.out HN_p.out).mono ?_
    rintro e w3 ⟨A_p, c_p, rfl, hc, hr, hb⟩
    replace HT_t := Lib.hid (HT_t.out.mv hb)
    replace HT_l := Lib.hid (rdS_mv HT_l.out hb)
    replace HB := Lib.hid (below_mv HB.out hb)
    clear hb
    have HT_p := Lib.hid hr; clear hr hc
    obtain ⟨d, hq⟩ : ∃ X, del t s = X := ⟨_, rfl⟩
    have HQ_d := Lib.hid hq
    obtain ⟨n_d, hn⟩ : ∃ k, d.length = k := ⟨_, rfl⟩
    have HN_d := Lib.hid hn
    clear hq hn
    have HS_d : Hid (Small d) := Lib.hid (by rw [← HQ_d.out]; exact (small_del HS_t.out HK_t.out).1)
    have HK_d : Hid (d.length ≤ 40) := Lib.hid (by rw [← HQ_d.out]; exact (small_del HS_t.out HK_t.out).2)
    go_wp2_with fail
    refine (DelC HN_t.out HS_t.out HT_t.out HQ_d.out HN_d.out).mono ?_
    rintro e w4 ⟨A_d, c_d, rfl, hc, hr, hb⟩
    replace HT_t := Lib.hid (HT_t.out.mv hb)
    replace HT_p := Lib.hid (HT_p.out.mv hb)
    replace HT_l := Lib.hid (rdS_mv HT_l.out hb)
    replace HB := Lib.hid (below_mv HB.out hb)
    clear hb
    have HT_d := Lib.hid hr; clear hr hc
    obtain ⟨x, hq⟩ : ∃ X : List (List UInt8), l = X := ⟨_, rfl⟩
    have HQ_x := Lib.hid hq
    obtain ⟨n_x, hn⟩ : ∃ k, x.length = k := ⟨_, rfl⟩
    have HN_x := Lib.hid hn
    have HS_x : Hid (SmallL x) := Lib.hid (by rw [← hq]; exact HS_l.out)
    have hgl : (get p s).getD [] = x := by rw [← hq]; rw [← HQ_p.out, get_put, if_pos rfl]; rfl
    have hgb : (get p s).isSome = true := by rw [← HQ_p.out, get_put, if_pos rfl]; rfl
    clear hq hn
    have HGL := Lib.hid hgl; have HGB := Lib.hid hgb; clear hgl hgb
    go_wp2_with fail
    refine (GetC HN_p.out HS_p.out HT_p.out HGL.out HGB.out HN_x.out).mono ?_
    rintro e w5 ⟨A_x, c_x, rfl, hc, hr, hb⟩
    replace HT_t := Lib.hid (HT_t.out.mv hb)
    replace HT_p := Lib.hid (HT_p.out.mv hb)
    replace HT_d := Lib.hid (HT_d.out.mv hb)
    replace HT_l := Lib.hid (rdS_mv HT_l.out hb)
    replace HB := Lib.hid (below_mv HB.out hb)
    clear hb
    have HT_x := Lib.hid hr; clear hr hc
    clear HGL HGB
    obtain ⟨x1, hq⟩ : ∃ X : List (List UInt8), ([] : List (List UInt8)) = X := ⟨_, rfl⟩
    have HQ_x1 := Lib.hid hq
    obtain ⟨n_x1, hn⟩ : ∃ k, x1.length = k := ⟨_, rfl⟩
    have HN_x1 := Lib.hid hn
    have HS_x1 : Hid (SmallL x1) := Lib.hid (by rw [← hq]; exact ⟨Nat.zero_le _, fun x hx => by cases hx⟩)
    have hgl : (get d s).getD [] = x1 := by rw [← hq]; rw [← HQ_d.out, get_del lin HUP.out, if_pos rfl]; rfl
    have hgb : (get d s).isSome = false := by rw [← HQ_d.out, get_del lin HUP.out, if_pos rfl]; rfl
    clear hq hn
    have HGL := Lib.hid hgl; have HGB := Lib.hid hgb; clear hgl hgb
    go_wp2_with fail
    refine (GetC HN_d.out HS_d.out HT_d.out HGL.out HGB.out HN_x1.out).mono ?_
    rintro e w6 ⟨A_x1, c_x1, rfl, hc, hr, hb⟩
    replace HT_t := Lib.hid (HT_t.out.mv hb)
    replace HT_p := Lib.hid (HT_p.out.mv hb)
    replace HT_d := Lib.hid (HT_d.out.mv hb)
    replace HT_l := Lib.hid (rdS_mv HT_l.out hb)
    replace HT_x := Lib.hid (rdS_mv HT_x.out hb)
    replace HB := Lib.hid (below_mv HB.out hb)
    clear hb
    have HT_x1 := Lib.hid hr; clear hr hc
    clear HGL HGB
    go_wp2_with fail
    refine (SameSC (b := true) HN_x.out HN_l.out (by rw [← HN_x.out]; exact HS_x.out.1) HT_x.out HT_l.out (decide_eq_true HQ_x.out.symm)).mono ?_
    rintro e w7 ⟨rfl, hb⟩
    replace HT_t := Lib.hid (HT_t.out.mv hb)
    replace HT_p := Lib.hid (HT_p.out.mv hb)
    replace HT_d := Lib.hid (HT_d.out.mv hb)
    replace HT_l := Lib.hid (rdS_mv HT_l.out hb)
    replace HT_x := Lib.hid (rdS_mv HT_x.out hb)
    replace HT_x1 := Lib.hid (rdS_mv HT_x1.out hb)
    replace HB := Lib.hid (below_mv HB.out hb)
    clear hb
    by_cases he : o = s
    · subst he
      go_wp2
      go_ret
      exact ⟨rfl, HB.out⟩
    have h1 : (o == s) = false := by simpa using he
    have HE := Lib.hid he; clear he
    obtain ⟨b, hbx⟩ : ∃ b, (get t o).isSome = b := ⟨_, rfl⟩
    have HBX := Lib.hid hbx; clear hbx
    obtain ⟨y, hq⟩ : ∃ X : List (List UInt8), (get t o).getD [] = X := ⟨_, rfl⟩
    have HQ_y := Lib.hid hq
    obtain ⟨n_y, hn⟩ : ∃ k, y.length = k := ⟨_, rfl⟩
    have HN_y := Lib.hid hn
    have HS_y : Hid (SmallL y) := Lib.hid (by rw [← hq]; exact (small_get HS_t.out))
    have hgl : (get t o).getD [] = y := by rw [← hq]
    have hgb : (get t o).isSome = b := by exact HBX.out
    clear hq hn
    have HGL := Lib.hid hgl; have HGB := Lib.hid hgb; clear hgl hgb
    go_wp2_with fail
    refine (GetC HN_t.out HS_t.out HT_t.out HGL.out HGB.out HN_y.out).mono ?_
    rintro e w8 ⟨A_y, c_y, rfl, hc, hr, hb⟩
    replace HT_t := Lib.hid (HT_t.out.mv hb)
    replace HT_p := Lib.hid (HT_p.out.mv hb)
    replace HT_d := Lib.hid (HT_d.out.mv hb)
    replace HT_l := Lib.hid (rdS_mv HT_l.out hb)
    replace HT_x := Lib.hid (rdS_mv HT_x.out hb)
    replace HT_x1 := Lib.hid (rdS_mv HT_x1.out hb)
    replace HB := Lib.hid (below_mv HB.out hb)
    clear hb
    have HT_y := Lib.hid hr; clear hr hc
    clear HGL HGB
    obtain ⟨z, hq⟩ : ∃ X : List (List UInt8), (get t o).getD [] = X := ⟨_, rfl⟩
    have HQ_z := Lib.hid hq
    obtain ⟨n_z, hn⟩ : ∃ k, z.length = k := ⟨_, rfl⟩
    have HN_z := Lib.hid hn
    have HS_z : Hid (SmallL z) := Lib.hid (by rw [← hq]; exact (small_get HS_t.out))
    have hgl : (get p o).getD [] = z := by rw [← hq]; rw [← HQ_p.out, get_put, if_neg (Ne.symm HE.out)]
    have hgb : (get p o).isSome = b := by rw [← HQ_p.out, get_put, if_neg (Ne.symm HE.out)]; exact HBX.out
    clear hq hn
    have HGL := Lib.hid hgl; have HGB := Lib.hid hgb; clear hgl hgb
    go_wp2_with fail
    refine (GetC HN_p.out HS_p.out HT_p.out HGL.out HGB.out HN_z.out).mono ?_
    rintro e w9 ⟨A_z, c_z, rfl, hc, hr, hb⟩
    replace HT_t := Lib.hid (HT_t.out.mv hb)
    replace HT_p := Lib.hid (HT_p.out.mv hb)
    replace HT_d := Lib.hid (HT_d.out.mv hb)
    replace HT_l := Lib.hid (rdS_mv HT_l.out hb)
    replace HT_x := Lib.hid (rdS_mv HT_x.out hb)
    replace HT_x1 := Lib.hid (rdS_mv HT_x1.out hb)
    replace HT_y := Lib.hid (rdS_mv HT_y.out hb)
    replace HB := Lib.hid (below_mv HB.out hb)
    clear hb
    have HT_z := Lib.hid hr; clear hr hc
    clear HGL HGB
    obtain ⟨v, hq⟩ : ∃ X : List (List UInt8), (get t o).getD [] = X := ⟨_, rfl⟩
    have HQ_v := Lib.hid hq
    obtain ⟨n_v, hn⟩ : ∃ k, v.length = k := ⟨_, rfl⟩
    have HN_v := Lib.hid hn
    have HS_v : Hid (SmallL v) := Lib.hid (by rw [← hq]; exact (small_get HS_t.out))
    have hgl : (get d o).getD [] = v := by rw [← hq]; rw [← HQ_d.out, get_del lin HUP.out, if_neg (Ne.symm HE.out)]
    have hgb : (get d o).isSome = b := by rw [← HQ_d.out, get_del lin HUP.out, if_neg (Ne.symm HE.out)]; exact HBX.out
    clear hq hn
    have HGL := Lib.hid hgl; have HGB := Lib.hid hgb; clear hgl hgb
    go_wp2_with fail
    refine (GetC HN_d.out HS_d.out HT_d.out HGL.out HGB.out HN_v.out).mono ?_
    rintro e w10 ⟨A_v, c_v, rfl, hc, hr, hb⟩
    replace HT_t := Lib.hid (HT_t.out.mv hb)
    replace HT_p := Lib.hid (HT_p.out.mv hb)
    replace HT_d := Lib.hid (HT_d.out.mv hb)
    replace HT_l := Lib.hid (rdS_mv HT_l.out hb)
    replace HT_x := Lib.hid (rdS_mv HT_x.out hb)
    replace HT_x1 := Lib.hid (rdS_mv HT_x1.out hb)
    replace HT_y := Lib.hid (rdS_mv HT_y.out hb)
    replace HT_z := Lib.hid (rdS_mv HT_z.out hb)
    replace HB := Lib.hid (below_mv HB.out hb)
    clear hb
    have HT_v := Lib.hid hr; clear hr hc
    clear HGL HGB
    go_wp2_with fail
    refine (SameSC (b := true) HN_y.out HN_z.out (by rw [← HN_y.out]; exact HS_y.out.1) HT_y.out HT_z.out (decide_eq_true (HQ_y.out.symm.trans HQ_z.out))).mono ?_
    rintro e w11 ⟨rfl, hb⟩
    replace HT_t := Lib.hid (HT_t.out.mv hb)
    replace HT_p := Lib.hid (HT_p.out.mv hb)
    replace HT_d := Lib.hid (HT_d.out.mv hb)
    replace HT_l := Lib.hid (rdS_mv HT_l.out hb)
    replace HT_x := Lib.hid (rdS_mv HT_x.out hb)
    replace HT_x1 := Lib.hid (rdS_mv HT_x1.out hb)
    replace HT_y := Lib.hid (rdS_mv HT_y.out hb)
    replace HT_z := Lib.hid (rdS_mv HT_z.out hb)
    replace HT_v := Lib.hid (rdS_mv HT_v.out hb)
    replace HB := Lib.hid (below_mv HB.out hb)
    clear hb
    go_wp2_with fail
    refine (SameSC (b := true) HN_y.out HN_v.out (by rw [← HN_y.out]; exact HS_y.out.1) HT_y.out HT_v.out (decide_eq_true (HQ_y.out.symm.trans HQ_v.out))).mono ?_
    rintro e w12 ⟨rfl, hb⟩
    replace HT_t := Lib.hid (HT_t.out.mv hb)
    replace HT_p := Lib.hid (HT_p.out.mv hb)
    replace HT_d := Lib.hid (HT_d.out.mv hb)
    replace HT_l := Lib.hid (rdS_mv HT_l.out hb)
    replace HT_x := Lib.hid (rdS_mv HT_x.out hb)
    replace HT_x1 := Lib.hid (rdS_mv HT_x1.out hb)
    replace HT_y := Lib.hid (rdS_mv HT_y.out hb)
    replace HT_z := Lib.hid (rdS_mv HT_z.out hb)
    replace HT_v := Lib.hid (rdS_mv HT_v.out hb)
    replace HB := Lib.hid (below_mv HB.out hb)
    clear hb
    cases b <;>
      (go_wp2
       go_ret
       exact ⟨rfl, HB.out⟩)

end TrL
open TrL
open Tx
open Go.ChangeShapes Go.WideShapes Go.ChangeAt
open Go.ChangeMaps (open_string shut_string)

theorem treeKeeps_own : ownKnob Try.prog.godebug = none := by kernel_rfl
theorem treeKeeps_laidOut : laidOutB Try.prog = true := by kernel_rfl

set_option maxRecDepth 100000 in
theorem treeKeeps_lifted (os : Os) (started : os.Started) (H : Type) (enc : TypeId × Value → H) :
    ReturnsInHanded {} Try.checked os 4 .any (Rows.treeKeepsSpec.pre6 enc Try.prog Try.f4 Rows.treeKeepsRow.domain false) (Rows.treeKeepsSpec.post enc Try.prog Try.f4 false true false false) := by
  refine returnsInHanded_of_change (C := Try.checked) treeKeeps_own started (by kernel_rfl) Try.func4
    (ChangeSpec.witness6 (enc := enc) (C := Try.checked) false ⟨#[], #[.slice none 0 0, .string ByteArray.empty, .string ByteArray.empty, .slice none 0 0], []⟩ 8 (by kernel_rfl) (by kernel_rfl) (by kernel_rfl) (by kernel_rfl)) ?_
  intro W base args ds gs before hval0 hW hcnd _
  have hval : ∀ (j : Nat) t v, Try.f4.params[j]? = some t → args[j]? = some v → Value.okWide Try.prog W .any base t v := hval0
  have hW' := hW
  obtain ⟨p, q, hA0, hV, rfl, hfz, hnd⟩ := hW
  have hA : DataW.TrodAll enc Try.prog W 0 (fun _ => true) true Try.f4.params.toList args.toList ds p := hA0
  rw [Try.params4] at hA hval
  obtain ⟨v0, vs0, d0, ds0, p0, q0, hargs, rfl, rfl, h0, r0⟩ := trodAll_cons hA
  obtain ⟨v1, vs1, d1, ds1, p1, q1, rfl, rfl, rfl, h1, r1⟩ := trodAll_cons r0
  obtain ⟨v2, vs2, d2, ds2, p2, q2, rfl, rfl, rfl, h2, r2⟩ := trodAll_cons r1
  obtain ⟨v3, vs3, d3, ds3, p3, q3, rfl, rfl, rfl, h3, r3⟩ := trodAll_cons r2
  obtain ⟨rfl, rfl, rfl⟩ := trodAll_nil r3
  obtain rfl : args = #[v0, v1, v2, v3] := by cases args; simp_all
  obtain ⟨rfl, rfl⟩ := trodVars_none hV
  obtain ⟨a0, n0, c0, rfl⟩ := okWide_slice Try.underlying23 (hval 0 23 v0 rfl rfl)
  have k0 := h0
  have lt0 : ∀ x ∈ p0, x.block < W.heap.size := by obtain ⟨m, hm⟩ := k0; exact DataW.trod_lt m _ _ _ hm
  obtain ⟨l0, s0⟩ : ∃ l, TreeArg W a0 n0 c0 l := by
    obtain ⟨fuel, hf⟩ := h0
    exact tree_in hf (by simp [Value.cells])
  obtain ⟨a1, rfl, rfl, rfl, w1⟩ := open_string Try.underlying9 (hval 1 9 v1 rfl rfl) h1
  obtain ⟨a2, rfl, rfl, rfl, w2⟩ := open_string Try.underlying9 (hval 2 9 v2 rfl rfl) h2
  obtain ⟨a3, n3, c3, rfl⟩ := okWide_slice Try.underlying24 (hval 3 24 v3 rfl rfl)
  have k3 := h3
  have lt3 : ∀ x ∈ p3, x.block < W.heap.size := by obtain ⟨m, hm⟩ := k3; exact DataW.trod_lt m _ _ _ hm
  obtain ⟨l3, s3⟩ : ∃ l, StrArg W a3 n3 c3 l := by
    obtain ⟨fuel, hf⟩ := h3
    exact strs_in hf (by simp [Value.cells])
  clear hA0 hval0
  refine (treeKeeps_walk a0 n0 c0 l0 a1.data.toList a2.data.toList a3 n3 c3 l3 W s0 (by rw [Array.length_toList]; exact w1) (by rw [Array.length_toList]; exact w2) s3).mono fun e W' ⟨he, bel⟩ => ?_
  subst he
  exact ⟨_, rfl, _, _, _, [], _, [], hW', trodAll_mk1 (shut_bool Try.underlying4 _), (trodAll_cons_mk (Below.trod treeKeeps_laidOut (by kernel_rfl) (of_decide_eq_true (by kernel_rfl)) k0 bel lt0) (trodAll_cons_mk (shut_string Try.underlying9 w1) (trodAll_cons_mk (shut_string Try.underlying9 w2) (trodAll_cons_mk (Below.trod treeKeeps_laidOut (by kernel_rfl) (of_decide_eq_true (by kernel_rfl)) k3 bel lt3) trodAll_mk0)))), rfl, bel.frame _, fun h => by cases h⟩

/-- The statement. -/
theorem treeKeeps_proved : Rows.TreeKeepsSaid :=
  OpenClaim.holds_of_wide 4 Try.f4 rfl rfl rfl rfl rfl rfl rfl ⟨rfl, rfl, rfl, rfl, rfl⟩ rfl rfl rfl rfl rfl (by kernel_rfl) Try.func4 (by kernel_rfl)
    (of_decide_eq_true (by kernel_rfl)) (by unfold Func.isWrapper; first | (rw [if_pos (by decide +kernel)]; kernel_rfl) | (rw [if_neg (by decide +kernel)]; exact ⟨rfl, rfl⟩))
    (fun os started H enc _ => treeKeeps_lifted os started H enc)

#print axioms treeKeeps_proved
end Go.Proofs.Ytcmpbglbmikkoaa
