/-
  The statement TreeOrder: two files that are put in either order are the same tree.
-/
import Derived.Test.YtcmpbglbmikkoaaTrLaw
import Derived.OpenShut
import Derived.ShutString
namespace Go.Proofs.Ytcmpbglbmikkoaa
open Go.RowKit
set_option linter.unusedVariables false
open Tr Tx
namespace TrL

set_option maxRecDepth 100000 in
set_option maxHeartbeats 4000000 in
theorem treeOrder_walk (A_t : Option Addr) (n_t c_t : Nat) (t : TR) (s : List UInt8) (o : List UInt8) (A_l : Option Addr) (n_l c_l : Nat) (l : List (List UInt8)) (A_m : Option Addr) (n_m c_m : Nat) (m : List (List UInt8)) (w : World) (h_t : TreeArg w A_t n_t c_t t) (h_s : s.length ≤ maxLen) (h_o : o.length ≤ maxLen) (h_l : StrArg w A_l n_l c_l l) (h_m : StrArg w A_m n_m c_m m) :
    Calls Try.prog 6 #[.slice A_t n_t c_t, strV s, strV o, .slice A_l n_l c_l, .slice A_m n_m c_m] w (LawEnd w) := by
  have HT_t := Lib.hid h_t.rd; have HN_t := Lib.hid h_t.len; have HF_t := Lib.hid h_t.fit; have HC_t := Lib.hid h_t.le
  have HT_l := Lib.hid h_l.rd; have HN_l := Lib.hid h_l.len; have HC_l := Lib.hid h_l.le; have HX_l := Lib.hid h_l.short
  have HT_m := Lib.hid h_m.rd; have HN_m := Lib.hid h_m.len; have HC_m := Lib.hid h_m.le; have HX_m := Lib.hid h_m.short
  have HB := Lib.hid (Below.refl w.heap.size w)
  clear h_t h_l h_m
  go_enter Try.func6, Try.ntmps6
  go_wp2_with fail
  refine (awake w).mono ?_
  rintro e w1 ⟨rfl, hb⟩
  replace HT_t := Lib.hid (HT_t.out.mv hb)
  replace HT_l := Lib.hid (rdS_mv HT_l.out hb)
  replace HT_m := Lib.hid (rdS_mv HT_m.out hb)
  replace HB := Lib.hid (below_mv HB.out hb)
  clear hb
  go_wp2_with fail
  refine (LightT A_t c_t n_t _ t _ HN_t.out HC_t.out HF_t.out HT_t.out).mono ?_
  rintro e w' ⟨rfl, rfl⟩
  go_wp2_with fail
  refine (Light A_l c_l n_l _ 300 l _ HN_l.out HC_l.out HT_l.out (by decide)).mono ?_
  rintro e w' ⟨rfl, rfl⟩
  go_wp2_with fail
  refine (Light A_m c_m n_m _ 300 m _ HN_m.out HC_m.out HT_m.out (by decide)).mono ?_
  rintro e w' ⟨rfl, rfl⟩
  cases hl : lightT t with
  | false =>
    clear hl
    go_wp2
    go_ret
    exact ⟨rfl, HB.out⟩
  | true =>
  have HS_t := Lib.hid (lightT_small hl).2; have HK_t := Lib.hid (lightT_small hl).1; clear hl HF_t HC_t
  cases hl : light l 300 with
  | false =>
    clear hl
    go_wp2
    go_ret
    exact ⟨rfl, HB.out⟩
  | true =>
  have HS_l := Lib.hid (light_small hl (by decide)); clear hl HC_l
  cases hl : light m 300 with
  | false =>
    clear hl
    go_wp2
    go_ret
    exact ⟨rfl, HB.out⟩
  | true =>
  have HS_m := Lib.hid (light_small hl (by decide)); clear hl HC_m
  cases hm : mayT t with
  | false =>
    go_wp2_with fail
    refine (MayC (b := false) HN_t.out HS_t.out HT_t.out hm).mono ?_
    rintro e w2 ⟨rfl, hb⟩
    replace HT_t := Lib.hid (HT_t.out.mv hb)
    replace HT_l := Lib.hid (rdS_mv HT_l.out hb)
    replace HT_m := Lib.hid (rdS_mv HT_m.out hb)
    replace HB := Lib.hid (below_mv HB.out hb)
    clear hb
    go_wp2
    go_ret
    exact ⟨rfl, HB.out⟩
  | true =>
    have HUP := Lib.hid (mayT_up hm); have HM := Lib.hid hm; clear hm
    go_wp2_with fail
    refine (MayC (b := true) HN_t.out HS_t.out HT_t.out HM.out).mono ?_
    rintro e w2 ⟨rfl, hb⟩
    replace HT_t := Lib.hid (HT_t.out.mv hb)
    replace HT_l := Lib.hid (rdS_mv HT_l.out hb)
    replace HT_m := Lib.hid (rdS_mv HT_m.out hb)
    replace HB := Lib.hid (below_mv HB.out hb)
    clear hb
    by_cases he : s = o
    · subst he
      go_wp2
      go_ret
      exact ⟨rfl, HB.out⟩
    have h1 : (s == o) = false := by simpa using he
    have HE := Lib.hid he; clear he
    by_cases h100_s : 100 < s.length
    · go_wp2
      go_ret
      exact ⟨rfl, HB.out⟩
    have HU_s : Hid (s.length ≤ 100000) := Lib.hid (by omega)
    by_cases h100_o : 100 < o.length
    · go_wp2
      go_ret
      exact ⟨rfl, HB.out⟩
    have HU_o : Hid (o.length ≤ 100000) := Lib.hid (by omega)
    obtain ⟨p, hq⟩ : ∃ X, put Op.bytesLess t s l = X := ⟨_, rfl⟩
    have HQ_p := Lib.hid hq
    obtain ⟨n_p, hn⟩ : ∃ k, p.length = k := ⟨_, rfl⟩
    have HN_p := Lib.hid hn
    clear hq hn
    have HS_p : Hid (Small p) := Lib.hid (by rw [← HQ_p.out]; exact (small_put HS_t.out HK_t.out (by decide) HU_s.out HS_l.out).1)
    have HK_p : Hid (p.length ≤ 41) := Lib.hid (by rw [← HQ_p.out]; exact (small_put HS_t.out HK_t.out (by decide) HU_s.out HS_l.out).2)
    go_wp2_with fail
    refine (PutC HN_t.out HS_t.out HN_l.out HS_l.out HT_t.out HT_l.out HQ_p.out HN_p.out).mono ?_
    rintro e w3 ⟨A_p, c_p, rfl, hc, hr, hb⟩
    replace HT_t := Lib.hid (HT_t.out.mv hb)
    replace HT_l := Lib.hid (rdS_mv HT_l.out hb)
    replace HT_m := Lib.hid (rdS_mv HT_m.out hb)
    replace HB := Lib.hid (below_mv HB.out hb)
    clear hb
    have HT_p := Lib.hid hr; clear hr hc
    obtain ⟨x, hq⟩ : ∃ X, put Op.bytesLess p o m = X := ⟨_, rfl⟩
    have HQ_x := Lib.hid hq
    obtain ⟨n_x, hn⟩ : ∃ k, x.length = k := ⟨_, rfl⟩
    have HN_x := Lib.hid hn
    clear hq hn
    have HS_x : Hid (Small x) := Lib.hid (by rw [← HQ_x.out]; exact (small_put HS_p.out HK_p.out (by decide) HU_o.out HS_m.out).1)
    have HK_x : Hid (x.length ≤ 42) := Lib.hid (by rw [← HQ_x.out]; exact (small_put HS_p.out HK_p.out (by decide) HU_o.out HS_m.out).2)
    go_wp2_with fail
    refine (PutC HN_p.out HS_p.out HN_m.out HS_m.out HT_p.out HT_m.out HQ_x.out HN_x.out).mono ?_
    rintro e w4 ⟨A_x, c_x, rfl, hc, hr, hb⟩
    replace HT_t := Lib.hid (HT_t.out.mv hb)
    replace HT_p := Lib.hid (HT_p.out.mv hb)
    replace HT_l := Lib.hid (rdS_mv HT_l.out hb)
    replace HT_m := Lib.hid (rdS_mv HT_m.out hb)
    replace HB := Lib.hid (below_mv HB.out hb)
    clear hb
    have HT_x := Lib.hid hr; clear hr hc
    obtain ⟨q, hq⟩ : ∃ X, put Op.bytesLess t o m = X := ⟨_, rfl⟩
    have HQ_q := Lib.hid hq
    obtain ⟨n_q, hn⟩ : ∃ k, q.length = k := ⟨_, rfl⟩
    have HN_q := Lib.hid hn
    clear hq hn
    have HS_q : Hid (Small q) := Lib.hid (by rw [← HQ_q.out]; exact (small_put HS_t.out HK_t.out (by decide) HU_o.out HS_m.out).1)
    have HK_q : Hid (q.length ≤ 41) := Lib.hid (by rw [← HQ_q.out]; exact (small_put HS_t.out HK_t.out (by decide) HU_o.out HS_m.out).2)
    go_wp2_with fail
    refine (PutC HN_t.out HS_t.out HN_m.out HS_m.out HT_t.out HT_m.out HQ_q.out HN_q.out).mono ?_
    rintro e w5 ⟨A_q, c_q, rfl, hc, hr, hb⟩
    replace HT_t := Lib.hid (HT_t.out.mv hb)
    replace HT_p := Lib.hid (HT_p.out.mv hb)
    replace HT_x := Lib.hid (HT_x.out.mv hb)
    replace HT_l := Lib.hid (rdS_mv HT_l.out hb)
    replace HT_m := Lib.hid (rdS_mv HT_m.out hb)
    replace HB := Lib.hid (below_mv HB.out hb)
    clear hb
    have HT_q := Lib.hid hr; clear hr hc
    obtain ⟨y, hq⟩ : ∃ X, put Op.bytesLess q s l = X := ⟨_, rfl⟩
    have HQ_y := Lib.hid hq
    obtain ⟨n_y, hn⟩ : ∃ k, y.length = k := ⟨_, rfl⟩
    have HN_y := Lib.hid hn
    clear hq hn
    have HS_y : Hid (Small y) := Lib.hid (by rw [← HQ_y.out]; exact (small_put HS_q.out HK_q.out (by decide) HU_s.out HS_l.out).1)
    have HK_y : Hid (y.length ≤ 42) := Lib.hid (by rw [← HQ_y.out]; exact (small_put HS_q.out HK_q.out (by decide) HU_s.out HS_l.out).2)
    go_wp2_with fail
    refine (PutC HN_q.out HS_q.out HN_l.out HS_l.out HT_q.out HT_l.out HQ_y.out HN_y.out).mono ?_
    rintro e w6 ⟨A_y, c_y, rfl, hc, hr, hb⟩
    replace HT_t := Lib.hid (HT_t.out.mv hb)
    replace HT_p := Lib.hid (HT_p.out.mv hb)
    replace HT_x := Lib.hid (HT_x.out.mv hb)
    replace HT_q := Lib.hid (HT_q.out.mv hb)
    replace HT_l := Lib.hid (rdS_mv HT_l.out hb)
    replace HT_m := Lib.hid (rdS_mv HT_m.out hb)
    replace HB := Lib.hid (below_mv HB.out hb)
    clear hb
    have HT_y := Lib.hid hr; clear hr hc
    have HXY : Hid (x = y) := Lib.hid (by rw [← HQ_x.out, ← HQ_p.out, ← HQ_y.out, ← HQ_q.out]; exact put_put lin HUP.out HE.out l m)
    go_wp2_with fail
    refine (SameC (b := true) HN_x.out HN_y.out HS_x.out HT_x.out HT_y.out (decide_eq_true HXY.out)).mono ?_
    rintro e w7 ⟨rfl, hb⟩
    replace HT_t := Lib.hid (HT_t.out.mv hb)
    replace HT_p := Lib.hid (HT_p.out.mv hb)
    replace HT_x := Lib.hid (HT_x.out.mv hb)
    replace HT_q := Lib.hid (HT_q.out.mv hb)
    replace HT_y := Lib.hid (HT_y.out.mv hb)
    replace HT_l := Lib.hid (rdS_mv HT_l.out hb)
    replace HT_m := Lib.hid (rdS_mv HT_m.out hb)
    replace HB := Lib.hid (below_mv HB.out hb)
    clear hb
    obtain ⟨d1, hq⟩ : ∃ X, del x s = X := ⟨_, rfl⟩
    have HQ_d1 := Lib.hid hq
    obtain ⟨n_d1, hn⟩ : ∃ k, d1.length = k := ⟨_, rfl⟩
    have HN_d1 := Lib.hid hn
    clear hq hn
    have HS_d1 : Hid (Small d1) := Lib.hid (by rw [← HQ_d1.out]; exact (small_del HS_x.out HK_x.out).1)
    have HK_d1 : Hid (d1.length ≤ 42) := Lib.hid (by rw [← HQ_d1.out]; exact (small_del HS_x.out HK_x.out).2)
    go_wp2_with fail
    refine (DelC HN_x.out HS_x.out HT_x.out HQ_d1.out HN_d1.out).mono ?_
    rintro e w8 ⟨A_d1, c_d1, rfl, hc, hr, hb⟩
    replace HT_t := Lib.hid (HT_t.out.mv hb)
    replace HT_p := Lib.hid (HT_p.out.mv hb)
    replace HT_x := Lib.hid (HT_x.out.mv hb)
    replace HT_q := Lib.hid (HT_q.out.mv hb)
    replace HT_y := Lib.hid (HT_y.out.mv hb)
    replace HT_l := Lib.hid (rdS_mv HT_l.out hb)
    replace HT_m := Lib.hid (rdS_mv HT_m.out hb)
    replace HB := Lib.hid (below_mv HB.out hb)
    clear hb
    have HT_d1 := Lib.hid hr; clear hr hc
    obtain ⟨d2, hq⟩ : ∃ X, del d1 o = X := ⟨_, rfl⟩
    have HQ_d2 := Lib.hid hq
    obtain ⟨n_d2, hn⟩ : ∃ k, d2.length = k := ⟨_, rfl⟩
    have HN_d2 := Lib.hid hn
    clear hq hn
    have HS_d2 : Hid (Small d2) := Lib.hid (by rw [← HQ_d2.out]; exact (small_del HS_d1.out HK_d1.out).1)
    have HK_d2 : Hid (d2.length ≤ 42) := Lib.hid (by rw [← HQ_d2.out]; exact (small_del HS_d1.out HK_d1.out).2)
    go_wp2_with fail
    refine (DelC HN_d1.out HS_d1.out HT_d1.out HQ_d2.out HN_d2.out).mono ?_
    rintro e w9 ⟨A_d2, c_d2, rfl, hc, hr, hb⟩
    replace HT_t := Lib.hid (HT_t.out.mv hb)
    replace HT_p := Lib.hid (HT_p.out.mv hb)
    replace HT_x := Lib.hid (HT_x.out.mv hb)
    replace HT_q := Lib.hid (HT_q.out.mv hb)
    replace HT_y := Lib.hid (HT_y.out.mv hb)
    replace HT_d1 := Lib.hid (HT_d1.out.mv hb)
    replace HT_l := Lib.hid (rdS_mv HT_l.out hb)
    replace HT_m := Lib.hid (rdS_mv HT_m.out hb)
    replace HB := Lib.hid (below_mv HB.out hb)
    clear hb
    have HT_d2 := Lib.hid hr; clear hr hc
    obtain ⟨d3, hq⟩ : ∃ X, del t s = X := ⟨_, rfl⟩
    have HQ_d3 := Lib.hid hq
    obtain ⟨n_d3, hn⟩ : ∃ k, d3.length = k := ⟨_, rfl⟩
    have HN_d3 := Lib.hid hn
    clear hq hn
    have HS_d3 : Hid (Small d3) := Lib.hid (by rw [← HQ_d3.out]; exact (small_del HS_t.out HK_t.out).1)
    have HK_d3 : Hid (d3.length ≤ 40) := Lib.hid (by rw [← HQ_d3.out]; exact (small_del HS_t.out HK_t.out).2)
    go_wp2_with fail
    refine (DelC HN_t.out HS_t.out HT_t.out HQ_d3.out HN_d3.out).mono ?_
    rintro e w10 ⟨A_d3, c_d3, rfl, hc, hr, hb⟩
    replace HT_t := Lib.hid (HT_t.out.mv hb)
    replace HT_p := Lib.hid (HT_p.out.mv hb)
    replace HT_x := Lib.hid (HT_x.out.mv hb)
    replace HT_q := Lib.hid (HT_q.out.mv hb)
    replace HT_y := Lib.hid (HT_y.out.mv hb)
    replace HT_d1 := Lib.hid (HT_d1.out.mv hb)
    replace HT_d2 := Lib.hid (HT_d2.out.mv hb)
    replace HT_l := Lib.hid (rdS_mv HT_l.out hb)
    replace HT_m := Lib.hid (rdS_mv HT_m.out hb)
    replace HB := Lib.hid (below_mv HB.out hb)
    clear hb
    have HT_d3 := Lib.hid hr; clear hr hc
    obtain ⟨d4, hq⟩ : ∃ X, del d3 o = X := ⟨_, rfl⟩
    have HQ_d4 := Lib.hid hq
    obtain ⟨n_d4, hn⟩ : ∃ k, d4.length = k := ⟨_, rfl⟩
    have HN_d4 := Lib.hid hn
    clear hq hn
    have HS_d4 : Hid (Small d4) := Lib.hid (by rw [← HQ_d4.out]; exact (small_del HS_d3.out HK_d3.out).1)
    have HK_d4 : Hid (d4.length ≤ 40) := Lib.hid (by rw [← HQ_d4.out]; exact (small_del HS_d3.out HK_d3.out).2)
    go_wp2_with fail
    refine (DelC HN_d3.out HS_d3.out HT_d3.out HQ_d4.out HN_d4.out).mono ?_
    rintro e w11 ⟨A_d4, c_d4, rfl, hc, hr, hb⟩
    replace HT_t := Lib.hid (HT_t.out.mv hb)
    replace HT_p := Lib.hid (HT_p.out.mv hb)
    replace HT_x := Lib.hid (HT_x.out.mv hb)
    replace HT_q := Lib.hid (HT_q.out.mv hb)
    replace HT_y := Lib.hid (HT_y.out.mv hb)
    replace HT_d1 := Lib.hid (HT_d1.out.mv hb)
    replace HT_d2 := Lib.hid (HT_d2.out.mv hb)
    replace HT_d3 := Lib.hid (HT_d3.out.mv hb)
    replace HT_l := Lib.hid (rdS_mv HT_l.out hb)
    replace HT_m := Lib.hid (rdS_mv HT_m.out hb)
    replace HB := Lib.hid (below_mv HB.out hb)
    clear hb
    have HT_d4 := Lib.hid hr; clear hr hc
    have HDD : Hid (d2 = d4) := Lib.hid (by rw [← HQ_d2.out, ← HQ_d1.out, ← HQ_d4.out, ← HQ_d3.out, ← HQ_x.out, ← HQ_p.out]; exact put_del lin HUP.out s o l m)
    go_wp2_with fail
    refine (SameC (b := true) HN_d2.out HN_d4.out HS_d2.out HT_d2.out HT_d4.out (decide_eq_true HDD.out)).mono ?_
    rintro e w12 ⟨rfl, hb⟩
    replace HT_t := Lib.hid (HT_t.out.mv hb)
    replace HT_p := Lib.hid (HT_p.out.mv hb)
    replace HT_x := Lib.hid (HT_x.out.mv hb)
    replace HT_q := Lib.hid (HT_q.out.mv hb)
    replace HT_y := Lib.hid (HT_y.out.mv hb)
    replace HT_d1 := Lib.hid (HT_d1.out.mv hb)
    replace HT_d2 := Lib.hid (HT_d2.out.mv hb)
    replace HT_d3 := Lib.hid (HT_d3.out.mv hb)
    replace HT_d4 := Lib.hid (HT_d4.out.mv hb)
    replace HT_l := Lib.hid (rdS_mv HT_l.out hb)
    replace HT_m := Lib.hid (rdS_mv HT_m.out hb)
    replace HB := Lib.hid (below_mv HB.out hb)
    clear hb
    go_wp2
    go_ret
    exact ⟨rfl, HB.out⟩

end TrL
open TrL
open Tx
open Go.ChangeShapes Go.WideShapes Go.ChangeAt
open Go.ChangeMaps (open_string shut_string)

theorem treeOrder_own : ownKnob Try.prog.godebug = none := by kernel_rfl
theorem treeOrder_laidOut : laidOutB Try.prog = true := by kernel_rfl

set_option maxRecDepth 100000 in
theorem treeOrder_lifted (os : Os) (started : os.Started) (H : Type) (enc : TypeId × Value → H) :
    ReturnsInHanded {} Try.checked os 6 .any (Rows.treeOrderSpec.pre6 enc Try.prog Try.f6 Rows.treeOrderRow.domain false) (Rows.treeOrderSpec.post enc Try.prog Try.f6 false true false false) := by
  refine returnsInHanded_of_change (C := Try.checked) treeOrder_own started (by kernel_rfl) Try.func6
    (ChangeSpec.witness6 (enc := enc) (C := Try.checked) false ⟨#[], #[.slice none 0 0, .string ByteArray.empty, .string ByteArray.empty, .slice none 0 0, .slice none 0 0], []⟩ 8 (by kernel_rfl) (by kernel_rfl) (by kernel_rfl) (by kernel_rfl)) ?_
  intro W base args ds gs before hval0 hW hcnd _
  have hval : ∀ (j : Nat) t v, Try.f6.params[j]? = some t → args[j]? = some v → Value.okWide Try.prog W .any base t v := hval0
  have hW' := hW
  obtain ⟨p, q, hA0, hV, rfl, hfz, hnd⟩ := hW
  have hA : DataW.TrodAll enc Try.prog W 0 (fun _ => true) true Try.f6.params.toList args.toList ds p := hA0
  rw [Try.params6] at hA hval
  obtain ⟨v0, vs0, d0, ds0, p0, q0, hargs, rfl, rfl, h0, r0⟩ := trodAll_cons hA
  obtain ⟨v1, vs1, d1, ds1, p1, q1, rfl, rfl, rfl, h1, r1⟩ := trodAll_cons r0
  obtain ⟨v2, vs2, d2, ds2, p2, q2, rfl, rfl, rfl, h2, r2⟩ := trodAll_cons r1
  obtain ⟨v3, vs3, d3, ds3, p3, q3, rfl, rfl, rfl, h3, r3⟩ := trodAll_cons r2
  obtain ⟨v4, vs4, d4, ds4, p4, q4, rfl, rfl, rfl, h4, r4⟩ := trodAll_cons r3
  obtain ⟨rfl, rfl, rfl⟩ := trodAll_nil r4
  obtain rfl : args = #[v0, v1, v2, v3, v4] := by cases args; simp_all
  obtain ⟨rfl, rfl⟩ := trodVars_none hV
  obtain ⟨a0, n0, c0, rfl⟩ := okWide_slice Try.underlying23 (hval 0 23 v0 rfl rfl)
  have k0 := h0
  have lt0 : ∀ x ∈ p0, x.block < W.heap.size := by obtain ⟨m, hm⟩ := k0; exact DataW.trod_lt m _ _ _ hm
  obtain ⟨l0, s0⟩ : ∃ l, TreeArg W a0 n0 c0 l := by
    obtain ⟨fuel, hf⟩ := h0
    exact tree_in hf (by simp [Value.cells])
  obtain ⟨a1, rfl, rfl, rfl, w1⟩ := open_string Try.underlying9 (hval 1 9 v1 rfl rfl) h1
  obtain ⟨a2, rfl, rfl, rfl, w2⟩ := open_string Try.underlying9 (hval 2 9 v2 rfl rfl) h2
  obtain ⟨a3, n3, c3, rfl⟩ := okWide_slice Try.underlying24 (hval 3 24 v3 rfl rfl)
  have k3 := h3
  have lt3 : ∀ x ∈ p3, x.block < W.heap.size := by obtain ⟨m, hm⟩ := k3; exact DataW.trod_lt m _ _ _ hm
  obtain ⟨l3, s3⟩ : ∃ l, StrArg W a3 n3 c3 l := by
    obtain ⟨fuel, hf⟩ := h3
    exact strs_in hf (by simp [Value.cells])
  obtain ⟨a4, n4, c4, rfl⟩ := okWide_slice Try.underlying24 (hval 4 24 v4 rfl rfl)
  have k4 := h4
  have lt4 : ∀ x ∈ p4, x.block < W.heap.size := by obtain ⟨m, hm⟩ := k4; exact DataW.trod_lt m _ _ _ hm
  obtain ⟨l4, s4⟩ : ∃ l, StrArg W a4 n4 c4 l := by
    obtain ⟨fuel, hf⟩ := h4
    exact strs_in hf (by simp [Value.cells])
  clear hA0 hval0
  refine (treeOrder_walk a0 n0 c0 l0 a1.data.toList a2.data.toList a3 n3 c3 l3 a4 n4 c4 l4 W s0 (by rw [Array.length_toList]; exact w1) (by rw [Array.length_toList]; exact w2) s3 s4).mono fun e W' ⟨he, bel⟩ => ?_
  subst he
  exact ⟨_, rfl, _, _, _, [], _, [], hW', trodAll_mk1 (shut_bool Try.underlying4 _), (trodAll_cons_mk (Below.trod treeOrder_laidOut (by kernel_rfl) (of_decide_eq_true (by kernel_rfl)) k0 bel lt0) (trodAll_cons_mk (shut_string Try.underlying9 w1) (trodAll_cons_mk (shut_string Try.underlying9 w2) (trodAll_cons_mk (Below.trod treeOrder_laidOut (by kernel_rfl) (of_decide_eq_true (by kernel_rfl)) k3 bel lt3) (trodAll_cons_mk (Below.trod treeOrder_laidOut (by kernel_rfl) (of_decide_eq_true (by kernel_rfl)) k4 bel lt4) trodAll_mk0))))), rfl, bel.frame _, fun h => by cases h⟩

/-- The statement. -/
theorem treeOrder_proved : Rows.TreeOrderSaid :=
  OpenClaim.holds_of_wide 6 Try.f6 rfl rfl rfl rfl rfl rfl rfl ⟨rfl, rfl, rfl, rfl, rfl⟩ rfl rfl rfl rfl rfl (by kernel_rfl) Try.func6 (by kernel_rfl)
    (of_decide_eq_true (by kernel_rfl)) (by unfold Func.isWrapper; first | (rw [if_pos (by decide +kernel)]; kernel_rfl) | (rw [if_neg (by decide +kernel)]; exact ⟨rfl, rfl⟩))
    (fun os started H enc _ => treeOrder_lifted os started H enc)

#print axioms treeOrder_proved
end Go.Proofs.Ytcmpbglbmikkoaa
