/-
  The statement TreeEqual: to be the same is an equivalence; trees that are the same have the same files.
-/
import Derived.Test.YtcmpbglbmikkoaaTrLaw
import Derived.OpenShut
import Derived.ShutString
namespace Go.Proofs.Ytcmpbglbmikkoaa
open Go.RowKit
set_option linter.unusedVariables false
open Tr Tx
namespace TrL

set_option maxRecDepth 100000 in
set_option maxHeartbeats 4000000 in
theorem treeEqual_walk (A_t : Option Addr) (n_t c_t : Nat) (t : TR) (A_u : Option Addr) (n_u c_u : Nat) (u : TR) (A_v : Option Addr) (n_v c_v : Nat) (v : TR) (s : List UInt8) (w : World) (h_t : TreeArg w A_t n_t c_t t) (h_u : TreeArg w A_u n_u c_u u) (h_v : TreeArg w A_v n_v c_v v) (h_s : s.length ≤ maxLen) :
    Calls Try.prog 8 #[.slice A_t n_t c_t, .slice A_u n_u c_u, .slice A_v n_v c_v, strV s] w (LawEnd w) := by
  have HT_t := Lib.hid h_t.rd; have HN_t := Lib.hid h_t.len; have HF_t := Lib.hid h_t.fit; have HC_t := Lib.hid h_t.le
  have HT_u := Lib.hid h_u.rd; have HN_u := Lib.hid h_u.len; have HF_u := Lib.hid h_u.fit; have HC_u := Lib.hid h_u.le
  have HT_v := Lib.hid h_v.rd; have HN_v := Lib.hid h_v.len; have HF_v := Lib.hid h_v.fit; have HC_v := Lib.hid h_v.le
  have HB := Lib.hid (Below.refl w.heap.size w)
  clear h_t h_u h_v
  go_enter Try.func8, Try.ntmps8
  go_wp2_with fail
  refine (awake w).mono ?_
  rintro e w1 ⟨rfl, hb⟩
  replace HT_t := Lib.hid (HT_t.out.mv hb)
  replace HT_u := Lib.hid (HT_u.out.mv hb)
  replace HT_v := Lib.hid (HT_v.out.mv hb)
  replace HB := Lib.hid (below_mv HB.out hb)
  clear hb
  go_wp2_with fail
  refine (LightT A_t c_t n_t _ t _ HN_t.out HC_t.out HF_t.out HT_t.out).mono ?_
  rintro e w' ⟨rfl, rfl⟩
  go_wp2_with fail
  refine (LightT A_u c_u n_u _ u _ HN_u.out HC_u.out HF_u.out HT_u.out).mono ?_
  rintro e w' ⟨rfl, rfl⟩
  go_wp2_with fail
  refine (LightT A_v c_v n_v _ v _ HN_v.out HC_v.out HF_v.out HT_v.out).mono ?_
  rintro e w' ⟨rfl, rfl⟩
  cases hl : lightT t with
  | false =>
    clear hl
    go_wp2
    go_ret
    exact ⟨rfl, HB.out⟩
  | true =>
  have HS_t := Lib.hid (lightT_small hl).2; have HK_t := Lib.hid (lightT_small hl).1; clear hl HF_t HC_t
  cases hl : lightT u with
  | false =>
    clear hl
    go_wp2
    go_ret
    exact ⟨rfl, HB.out⟩
  | true =>
  have HS_u := Lib.hid (lightT_small hl).2; have HK_u := Lib.hid (lightT_small hl).1; clear hl HF_u HC_u
  cases hl : lightT v with
  | false =>
    clear hl
    go_wp2
    go_ret
    exact ⟨rfl, HB.out⟩
  | true =>
  have HS_v := Lib.hid (lightT_small hl).2; have HK_v := Lib.hid (lightT_small hl).1; clear hl HF_v HC_v
  by_cases h100_s : 100 < s.length
  · go_wp2
    go_ret
    exact ⟨rfl, HB.out⟩
  have HU_s : Hid (s.length ≤ 100000) := Lib.hid (by omega)
  go_wp2_with fail
  refine (SameC (b := true) HN_t.out HN_t.out HS_t.out HT_t.out HT_t.out (decide_eq_true rfl)).mono ?_
  rintro e w2 ⟨rfl, hb⟩
  replace HT_t := Lib.hid (HT_t.out.mv hb)
  replace HT_u := Lib.hid (HT_u.out.mv hb)
  replace HT_v := Lib.hid (HT_v.out.mv hb)
  replace HB := Lib.hid (below_mv HB.out hb)
  clear hb
  cases hab : decide (t = u) with
  | false =>
    have HE := Lib.hid (of_decide_eq_false hab); clear hab
    go_wp2_with fail
    refine (SameC (b := false) HN_t.out HN_u.out HS_t.out HT_t.out HT_u.out (decide_eq_false HE.out)).mono ?_
    rintro e w3 ⟨rfl, hb⟩
    replace HT_t := Lib.hid (HT_t.out.mv hb)
    replace HT_u := Lib.hid (HT_u.out.mv hb)
    replace HT_v := Lib.hid (HT_v.out.mv hb)
    replace HB := Lib.hid (below_mv HB.out hb)
    clear hb
    go_wp2_with fail
    refine (SameC (b := false) HN_u.out HN_t.out HS_u.out HT_u.out HT_t.out (decide_eq_false fun e => HE.out e.symm)).mono ?_
    rintro e w4 ⟨rfl, hb⟩
    replace HT_t := Lib.hid (HT_t.out.mv hb)
    replace HT_u := Lib.hid (HT_u.out.mv hb)
    replace HT_v := Lib.hid (HT_v.out.mv hb)
    replace HB := Lib.hid (below_mv HB.out hb)
    clear hb
    go_wp2_with fail
    refine (SameC (b := false) HN_t.out HN_u.out HS_t.out HT_t.out HT_u.out (decide_eq_false HE.out)).mono ?_
    rintro e w5 ⟨rfl, hb⟩
    replace HT_t := Lib.hid (HT_t.out.mv hb)
    replace HT_u := Lib.hid (HT_u.out.mv hb)
    replace HT_v := Lib.hid (HT_v.out.mv hb)
    replace HB := Lib.hid (below_mv HB.out hb)
    clear hb
    obtain ⟨bx, hbx⟩ : ∃ b, (get t s).isSome = b := ⟨_, rfl⟩
    obtain ⟨by_, hby⟩ : ∃ b, (get u s).isSome = b := ⟨_, rfl⟩
    have HBX := Lib.hid hbx; have HBY := Lib.hid hby; clear hbx hby
    obtain ⟨x, hq⟩ : ∃ X : List (List UInt8), (get t s).getD [] = X := ⟨_, rfl⟩
    have HQ_x := Lib.hid hq
    obtain ⟨n_x, hn⟩ : ∃ k, x.length = k := ⟨_, rfl⟩
    have HN_x := Lib.hid hn
    have HS_x : Hid (SmallL x) := Lib.hid (by rw [← hq]; exact (small_get HS_t.out))
    have hgl : (get t s).getD [] = x := by rw [← hq]
    have hgb : (get t s).isSome = bx := by exact HBX.out
    clear hq hn
    have HGL := Lib.hid hgl; have HGB := Lib.hid hgb; clear hgl hgb
    go_wp2_with fail
    refine (GetC HN_t.out HS_t.out HT_t.out HGL.out HGB.out HN_x.out).mono ?_
    rintro e w6 ⟨A_x, c_x, rfl, hc, hr, hb⟩
    replace HT_t := Lib.hid (HT_t.out.mv hb)
    replace HT_u := Lib.hid (HT_u.out.mv hb)
    replace HT_v := Lib.hid (HT_v.out.mv hb)
    replace HB := Lib.hid (below_mv HB.out hb)
    clear hb
    have HT_x := Lib.hid hr; clear hr hc
    clear HGL HGB
    obtain ⟨y, hq⟩ : ∃ X : List (List UInt8), (get u s).getD [] = X := ⟨_, rfl⟩
    have HQ_y := Lib.hid hq
    obtain ⟨n_y, hn⟩ : ∃ k, y.length = k := ⟨_, rfl⟩
    have HN_y := Lib.hid hn
    have HS_y : Hid (SmallL y) := Lib.hid (by rw [← hq]; exact (small_get HS_u.out))
    have hgl : (get u s).getD [] = y := by rw [← hq]
    have hgb : (get u s).isSome = by_ := by exact HBY.out
    clear hq hn
    have HGL := Lib.hid hgl; have HGB := Lib.hid hgb; clear hgl hgb
    go_wp2_with fail
    refine (GetC HN_u.out HS_u.out HT_u.out HGL.out HGB.out HN_y.out).mono ?_
    rintro e w7 ⟨A_y, c_y, rfl, hc, hr, hb⟩
    replace HT_t := Lib.hid (HT_t.out.mv hb)
    replace HT_u := Lib.hid (HT_u.out.mv hb)
    replace HT_v := Lib.hid (HT_v.out.mv hb)
    replace HT_x := Lib.hid (rdS_mv HT_x.out hb)
    replace HB := Lib.hid (below_mv HB.out hb)
    clear hb
    have HT_y := Lib.hid hr; clear hr hc
    clear HGL HGB
    go_wp2_with fail
    refine (SameC (b := false) HN_t.out HN_u.out HS_t.out HT_t.out HT_u.out (decide_eq_false HE.out)).mono ?_
    rintro e w8 ⟨rfl, hb⟩
    replace HT_t := Lib.hid (HT_t.out.mv hb)
    replace HT_u := Lib.hid (HT_u.out.mv hb)
    replace HT_v := Lib.hid (HT_v.out.mv hb)
    replace HT_x := Lib.hid (rdS_mv HT_x.out hb)
    replace HT_y := Lib.hid (rdS_mv HT_y.out hb)
    replace HB := Lib.hid (below_mv HB.out hb)
    clear hb
    go_wp2
    go_ret
    exact ⟨rfl, HB.out⟩
  | true =>
    have HE := Lib.hid (of_decide_eq_true hab); clear hab
    go_wp2_with fail
    refine (SameC (b := true) HN_t.out HN_u.out HS_t.out HT_t.out HT_u.out (decide_eq_true HE.out)).mono ?_
    rintro e w3 ⟨rfl, hb⟩
    replace HT_t := Lib.hid (HT_t.out.mv hb)
    replace HT_u := Lib.hid (HT_u.out.mv hb)
    replace HT_v := Lib.hid (HT_v.out.mv hb)
    replace HB := Lib.hid (below_mv HB.out hb)
    clear hb
    go_wp2_with fail
    refine (SameC (b := true) HN_u.out HN_t.out HS_u.out HT_u.out HT_t.out (decide_eq_true HE.out.symm)).mono ?_
    rintro e w4 ⟨rfl, hb⟩
    replace HT_t := Lib.hid (HT_t.out.mv hb)
    replace HT_u := Lib.hid (HT_u.out.mv hb)
    replace HT_v := Lib.hid (HT_v.out.mv hb)
    replace HB := Lib.hid (below_mv HB.out hb)
    clear hb
    go_wp2_with fail
    refine (SameC (b := true) HN_t.out HN_u.out HS_t.out HT_t.out HT_u.out (decide_eq_true HE.out)).mono ?_
    rintro e w5 ⟨rfl, hb⟩
    replace HT_t := Lib.hid (HT_t.out.mv hb)
    replace HT_u := Lib.hid (HT_u.out.mv hb)
    replace HT_v := Lib.hid (HT_v.out.mv hb)
    replace HB := Lib.hid (below_mv HB.out hb)
    clear hb
    cases hbc : decide (u = v) with
    | false =>
      have HF := Lib.hid (of_decide_eq_false hbc); clear hbc
      go_wp2_with fail
      refine (SameC (b := false) HN_u.out HN_v.out HS_u.out HT_u.out HT_v.out (decide_eq_false HF.out)).mono ?_
      rintro e w6 ⟨rfl, hb⟩
      replace HT_t := Lib.hid (HT_t.out.mv hb)
      replace HT_u := Lib.hid (HT_u.out.mv hb)
      replace HT_v := Lib.hid (HT_v.out.mv hb)
      replace HB := Lib.hid (below_mv HB.out hb)
      clear hb
      obtain ⟨bx, hbx⟩ : ∃ b, (get t s).isSome = b := ⟨_, rfl⟩
      obtain ⟨by_, hby⟩ : ∃ b, (get u s).isSome = b := ⟨_, rfl⟩
      have HBX := Lib.hid hbx; have HBY := Lib.hid hby; clear hbx hby
      obtain ⟨x, hq⟩ : ∃ X : List (List UInt8), (get t s).getD [] = X := ⟨_, rfl⟩
      have HQ_x := Lib.hid hq
      obtain ⟨n_x, hn⟩ : ∃ k, x.length = k := ⟨_, rfl⟩
      have HN_x := Lib.hid hn
      have HS_x : Hid (SmallL x) := Lib.hid (by rw [← hq]; exact (small_get HS_t.out))
      have hgl : (get t s).getD [] = x := by rw [← hq]
      have hgb : (get t s).isSome = bx := by exact HBX.out
      clear hq hn
      have HGL := Lib.hid hgl; have HGB := Lib.hid hgb; clear hgl hgb
      go_wp2_with fail
      refine (GetC HN_t.out HS_t.out HT_t.out HGL.out HGB.out HN_x.out).mono ?_
      rintro e w7 ⟨A_x, c_x, rfl, hc, hr, hb⟩
      replace HT_t := Lib.hid (HT_t.out.mv hb)
      replace HT_u := Lib.hid (HT_u.out.mv hb)
      replace HT_v := Lib.hid (HT_v.out.mv hb)
      replace HB := Lib.hid (below_mv HB.out hb)
      clear hb
      have HT_x := Lib.hid hr; clear hr hc
      clear HGL HGB
      obtain ⟨y, hq⟩ : ∃ X : List (List UInt8), (get u s).getD [] = X := ⟨_, rfl⟩
      have HQ_y := Lib.hid hq
      obtain ⟨n_y, hn⟩ : ∃ k, y.length = k := ⟨_, rfl⟩
      have HN_y := Lib.hid hn
      have HS_y : Hid (SmallL y) := Lib.hid (by rw [← hq]; exact (small_get HS_u.out))
      have hgl : (get u s).getD [] = y := by rw [← hq]
      have hgb : (get u s).isSome = by_ := by exact HBY.out
      clear hq hn
      have HGL := Lib.hid hgl; have HGB := Lib.hid hgb; clear hgl hgb
      go_wp2_with fail
      refine (GetC HN_u.out HS_u.out HT_u.out HGL.out HGB.out HN_y.out).mono ?_
      rintro e w8 ⟨A_y, c_y, rfl, hc, hr, hb⟩
      replace HT_t := Lib.hid (HT_t.out.mv hb)
      replace HT_u := Lib.hid (HT_u.out.mv hb)
      replace HT_v := Lib.hid (HT_v.out.mv hb)
      replace HT_x := Lib.hid (rdS_mv HT_x.out hb)
      replace HB := Lib.hid (below_mv HB.out hb)
      clear hb
      have HT_y := Lib.hid hr; clear hr hc
      clear HGL HGB
      obtain rfl : bx = by_ := by rw [← HBX.out, ← HBY.out, HE.out]
      obtain rfl : n_x = n_y := by rw [← HN_x.out, ← HN_y.out, ← HQ_x.out, ← HQ_y.out, HE.out]
      go_wp2_with fail
      refine (SameC (b := true) HN_t.out HN_u.out HS_t.out HT_t.out HT_u.out (decide_eq_true HE.out)).mono ?_
      rintro e w9 ⟨rfl, hb⟩
      replace HT_t := Lib.hid (HT_t.out.mv hb)
      replace HT_u := Lib.hid (HT_u.out.mv hb)
      replace HT_v := Lib.hid (HT_v.out.mv hb)
      replace HT_x := Lib.hid (rdS_mv HT_x.out hb)
      replace HT_y := Lib.hid (rdS_mv HT_y.out hb)
      replace HB := Lib.hid (below_mv HB.out hb)
      clear hb
      go_wp2
      go_ret
      exact ⟨rfl, HB.out⟩
    | true =>
      have HF := Lib.hid (of_decide_eq_true hbc); clear hbc
      go_wp2_with fail
      refine (SameC (b := true) HN_u.out HN_v.out HS_u.out HT_u.out HT_v.out (decide_eq_true HF.out)).mono ?_
      rintro e w6 ⟨rfl, hb⟩
      replace HT_t := Lib.hid (HT_t.out.mv hb)
      replace HT_u := Lib.hid (HT_u.out.mv hb)
      replace HT_v := Lib.hid (HT_v.out.mv hb)
      replace HB := Lib.hid (below_mv HB.out hb)
      clear hb
      go_wp2_with fail
      refine (SameC (b := true) HN_t.out HN_v.out HS_t.out HT_t.out HT_v.out (decide_eq_true (HE.out.trans HF.out))).mono ?_
      rintro e w7 ⟨rfl, hb⟩
      replace HT_t := Lib.hid (HT_t.out.mv hb)
      replace HT_u := Lib.hid (HT_u.out.mv hb)
      replace HT_v := Lib.hid (HT_v.out.mv hb)
      replace HB := Lib.hid (below_mv HB.out hb)
      clear hb
      obtain ⟨bx, hbx⟩ : ∃ b, (get t s).isSome = b := ⟨_, rfl⟩
      obtain ⟨by_, hby⟩ : ∃ b, (get u s).isSome = b := ⟨_, rfl⟩
      have HBX := Lib.hid hbx; have HBY := Lib.hid hby; clear hbx hby
      obtain ⟨x, hq⟩ : ∃ X : List (List UInt8), (get t s).getD [] = X := ⟨_, rfl⟩
      have HQ_x := Lib.hid hq
      obtain ⟨n_x, hn⟩ : ∃ k, x.length = k := ⟨_, rfl⟩
      have HN_x := Lib.hid hn
      have HS_x : Hid (SmallL x) := Lib.hid (by rw [← hq]; exact (small_get HS_t.out))
      have hgl : (get t s).getD [] = x := by rw [← hq]
      have hgb : (get t s).isSome = bx := by exact HBX.out
      clear hq hn
      have HGL := Lib.hid hgl; have HGB := Lib.hid hgb; clear hgl hgb
      go_wp2_with fail
      refine (GetC HN_t.out HS_t.out HT_t.out HGL.out HGB.out HN_x.out).mono ?_
      rintro e w8 ⟨A_x, c_x, rfl, hc, hr, hb⟩
      replace HT_t := Lib.hid (HT_t.out.mv hb)
      replace HT_u := Lib.hid (HT_u.out.mv hb)
      replace HT_v := Lib.hid (HT_v.out.mv hb)
      replace HB := Lib.hid (below_mv HB.out hb)
      clear hb
      have HT_x := Lib.hid hr; clear hr hc
      clear HGL HGB
      obtain ⟨y, hq⟩ : ∃ X : List (List UInt8), (get u s).getD [] = X := ⟨_, rfl⟩
      have HQ_y := Lib.hid hq
      obtain ⟨n_y, hn⟩ : ∃ k, y.length = k := ⟨_, rfl⟩
      have HN_y := Lib.hid hn
      have HS_y : Hid (SmallL y) := Lib.hid (by rw [← hq]; exact (small_get HS_u.out))
      have hgl : (get u s).getD [] = y := by rw [← hq]
      have hgb : (get u s).isSome = by_ := by exact HBY.out
      clear hq hn
      have HGL := Lib.hid hgl; have HGB := Lib.hid hgb; clear hgl hgb
      go_wp2_with fail
      refine (GetC HN_u.out HS_u.out HT_u.out HGL.out HGB.out HN_y.out).mono ?_
      rintro e w9 ⟨A_y, c_y, rfl, hc, hr, hb⟩
      replace HT_t := Lib.hid (HT_t.out.mv hb)
      replace HT_u := Lib.hid (HT_u.out.mv hb)
      replace HT_v := Lib.hid (HT_v.out.mv hb)
      replace HT_x := Lib.hid (rdS_mv HT_x.out hb)
      replace HB := Lib.hid (below_mv HB.out hb)
      clear hb
      have HT_y := Lib.hid hr; clear hr hc
      clear HGL HGB
      obtain rfl : bx = by_ := by rw [← HBX.out, ← HBY.out, HE.out]
      obtain rfl : n_x = n_y := by rw [← HN_x.out, ← HN_y.out, ← HQ_x.out, ← HQ_y.out, HE.out]
      go_wp2_with fail
      refine (SameC (b := true) HN_t.out HN_u.out HS_t.out HT_t.out HT_u.out (decide_eq_true HE.out)).mono ?_
      rintro e w10 ⟨rfl, hb⟩
      replace HT_t := Lib.hid (HT_t.out.mv hb)
      replace HT_u := Lib.hid (HT_u.out.mv hb)
      replace HT_v := Lib.hid (HT_v.out.mv hb)
      replace HT_x := Lib.hid (rdS_mv HT_x.out hb)
      replace HT_y := Lib.hid (rdS_mv HT_y.out hb)
      replace HB := Lib.hid (below_mv HB.out hb)
      clear hb
      go_wp2
      go_ret
      exact ⟨rfl, HB.out⟩

end TrL
open TrL
open Tx
open Go.ChangeShapes Go.WideShapes Go.ChangeAt
open Go.ChangeMaps (open_string shut_string)

theorem treeEqual_own : ownKnob Try.prog.godebug = none := by kernel_rfl
theorem treeEqual_laidOut : laidOutB Try.prog = true := by kernel_rfl

set_option maxRecDepth 100000 in
theorem treeEqual_lifted (os : Os) (started : os.Started) (H : Type) (enc : TypeId × Value → H) :
    ReturnsInHanded {} Try.checked os 8 .any (Rows.treeEqualSpec.pre6 enc Try.prog Try.f8 Rows.treeEqualRow.domain false) (Rows.treeEqualSpec.post enc Try.prog Try.f8 false true false false) := by
  refine returnsInHanded_of_change (C := Try.checked) treeEqual_own started (by kernel_rfl) Try.func8
    (ChangeSpec.witness6 (enc := enc) (C := Try.checked) false ⟨#[], #[.slice none 0 0, .slice none 0 0, .slice none 0 0, .string ByteArray.empty], []⟩ 8 (by kernel_rfl) (by kernel_rfl) (by kernel_rfl) (by kernel_rfl)) ?_
  intro W base args ds gs before hval0 hW hcnd _
  have hval : ∀ (j : Nat) t v, Try.f8.params[j]? = some t → args[j]? = some v → Value.okWide Try.prog W .any base t v := hval0
  have hW' := hW
  obtain ⟨p, q, hA0, hV, rfl, hfz, hnd⟩ := hW
  have hA : DataW.TrodAll enc Try.prog W 0 (fun _ => true) true Try.f8.params.toList args.toList ds p := hA0
  rw [Try.params8] at hA hval
  obtain ⟨v0, vs0, d0, ds0, p0, q0, hargs, rfl, rfl, h0, r0⟩ := trodAll_cons hA
  obtain ⟨v1, vs1, d1, ds1, p1, q1, rfl, rfl, rfl, h1, r1⟩ := trodAll_cons r0
  obtain ⟨v2, vs2, d2, ds2, p2, q2, rfl, rfl, rfl, h2, r2⟩ := trodAll_cons r1
  obtain ⟨v3, vs3, d3, ds3, p3, q3, rfl, rfl, rfl, h3, r3⟩ := trodAll_cons r2
  obtain ⟨rfl, rfl, rfl⟩ := trodAll_nil r3
  obtain rfl : args = #[v0, v1, v2, v3] := by cases args; simp_all
  obtain ⟨rfl, rfl⟩ := trodVars_none hV
  obtain ⟨a0, n0, c0, rfl⟩ := okWide_slice Try.underlying23 (hval 0 23 v0 rfl rfl)
  have k0 := h0
  have lt0 : ∀ x ∈ p0, x.block < W.heap.size := by obtain ⟨m, hm⟩ := k0; exact DataW.trod_lt m _ _ _ hm
  obtain ⟨l0, s0⟩ : ∃ l, TreeArg W a0 n0 c0 l := by
    obtain ⟨fuel, hf⟩ := h0
    exact tree_in hf (by simp [Value.cells])
  obtain ⟨a1, n1, c1, rfl⟩ := okWide_slice Try.underlying23 (hval 1 23 v1 rfl rfl)
  have k1 := h1
  have lt1 : ∀ x ∈ p1, x.block < W.heap.size := by obtain ⟨m, hm⟩ := k1; exact DataW.trod_lt m _ _ _ hm
  obtain ⟨l1, s1⟩ : ∃ l, TreeArg W a1 n1 c1 l := by
    obtain ⟨fuel, hf⟩ := h1
    exact tree_in hf (by simp [Value.cells])
  obtain ⟨a2, n2, c2, rfl⟩ := okWide_slice Try.underlying23 (hval 2 23 v2 rfl rfl)
  have k2 := h2
  have lt2 : ∀ x ∈ p2, x.block < W.heap.size := by obtain ⟨m, hm⟩ := k2; exact DataW.trod_lt m _ _ _ hm
  obtain ⟨l2, s2⟩ : ∃ l, TreeArg W a2 n2 c2 l := by
    obtain ⟨fuel, hf⟩ := h2
    exact tree_in hf (by simp [Value.cells])
  obtain ⟨a3, rfl, rfl, rfl, w3⟩ := open_string Try.underlying9 (hval 3 9 v3 rfl rfl) h3
  clear hA0 hval0
  refine (treeEqual_walk a0 n0 c0 l0 a1 n1 c1 l1 a2 n2 c2 l2 a3.data.toList W s0 s1 s2 (by rw [Array.length_toList]; exact w3)).mono fun e W' ⟨he, bel⟩ => ?_
  subst he
  exact ⟨_, rfl, _, _, _, [], _, [], hW', trodAll_mk1 (shut_bool Try.underlying4 _), (trodAll_cons_mk (Below.trod treeEqual_laidOut (by kernel_rfl) (of_decide_eq_true (by kernel_rfl)) k0 bel lt0) (trodAll_cons_mk (Below.trod treeEqual_laidOut (by kernel_rfl) (of_decide_eq_true (by kernel_rfl)) k1 bel lt1) (trodAll_cons_mk (Below.trod treeEqual_laidOut (by kernel_rfl) (of_decide_eq_true (by kernel_rfl)) k2 bel lt2) (trodAll_cons_mk (shut_string Try.underlying9 w3) trodAll_mk0)))), rfl, bel.frame _, fun h => by cases h⟩

/-- The statement. -/
theorem treeEqual_proved : Rows.TreeEqualSaid :=
  OpenClaim.holds_of_wide 8 Try.f8 rfl rfl rfl rfl rfl rfl rfl ⟨rfl, rfl, rfl, rfl, rfl⟩ rfl rfl rfl rfl rfl (by kernel_rfl) Try.func8 (by kernel_rfl)
    (of_decide_eq_true (by kernel_rfl)) (by unfold Func.isWrapper; first | (rw [if_pos (by decide +kernel)]; kernel_rfl) | (rw [if_neg (by decide +kernel)]; exact ⟨rfl, rfl⟩))
    (fun os started H enc _ => treeEqual_lifted os started H enc)

#print axioms treeEqual_proved
end Go.Proofs.Ytcmpbglbmikkoaa
