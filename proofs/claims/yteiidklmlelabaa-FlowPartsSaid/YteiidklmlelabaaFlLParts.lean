/-
  The statement FlowParts: a list passes two lists, one behind the other, as it passes their joint; two pass it so, too.
-/
import Derived.Test.YteiidklmlelabaaFlGuard
import Derived.Test.YteiidklmlelabaaFlAwake
import Derived.Test.YteiidklmlelabaaFlOpen
import Derived.Test.YteiidklmlelabaaFlLaw
import Derived.OpenShut
import Derived.ShutString
import Derived.BigQuiet
set_option maxRecDepth 100000
namespace Go.Proofs.Yteiidklmlelabaa
open Go.RowKit
set_option linter.unusedVariables false
open Tr Tx Hk Pr Fl
namespace FlL

set_option maxRecDepth 100000 in
set_option maxHeartbeats 8000000 in
theorem flowParts_walk (A_a : Option Addr) (n_a c_a : Nat) (a : List Ch) (A_b : Option Addr) (n_b c_b : Nat) (b : List Ch) (A_c : Option Addr) (n_c c_c : Nat) (c : List Ch) (w : World) (h_a : PrsArg w A_a n_a c_a a) (h_b : PrsArg w A_b n_b c_b b) (h_c : PrsArg w A_c n_c c_c c) :
    Calls Try.prog 4 #[.slice A_a n_a c_a, .slice A_b n_b c_b, .slice A_c n_c c_c] w (LawEnd w) := by
  have HR_a := Lib.hid h_a.rd; have HN_a := Lib.hid h_a.len; have HC_a := Lib.hid h_a.cap; have HM_a := Lib.hid h_a.le
  have HR_b := Lib.hid h_b.rd; have HN_b := Lib.hid h_b.len; have HC_b := Lib.hid h_b.cap; have HM_b := Lib.hid h_b.le
  have HR_c := Lib.hid h_c.rd; have HN_c := Lib.hid h_c.len; have HC_c := Lib.hid h_c.cap; have HM_c := Lib.hid h_c.le
  have HB := Lib.hid (Below.refl w.heap.size w)
  clear h_a h_b h_c
  go_enter Try.func4, Try.ntmps4
  go_wp2_with fail
  refine (Fl.awake w).mono ?_
  rintro e w1 ⟨rfl, hb⟩
  replace HR_a := Lib.hid (HR_a.out.mv hb)
  replace HR_b := Lib.hid (HR_b.out.mv hb)
  replace HR_c := Lib.hid (HR_c.out.mv hb)
  replace HB := Lib.hid (below_mv HB.out hb)
  clear hb
  obtain ⟨bl_a, hbl⟩ : ∃ bb, fewP a 10 = bb := ⟨_, rfl⟩
  have HBL_a := Lib.hid hbl; clear hbl
  go_wp2_with fail
  refine (Few A_a n_a c_a 10 a _ bl_a (by decide) ⟨HN_a.out, HC_a.out, HM_a.out, HR_a.out⟩ HBL_a.out).mono ?_
  rintro e w2 ⟨rfl, hb⟩
  replace HR_a := Lib.hid (HR_a.out.mv hb)
  replace HR_b := Lib.hid (HR_b.out.mv hb)
  replace HR_c := Lib.hid (HR_c.out.mv hb)
  replace HB := Lib.hid (below_mv HB.out hb)
  clear hb
  obtain ⟨bl_b, hbl⟩ : ∃ bb, fewP b 10 = bb := ⟨_, rfl⟩
  have HBL_b := Lib.hid hbl; clear hbl
  go_wp2_with fail
  refine (Few A_b n_b c_b 10 b _ bl_b (by decide) ⟨HN_b.out, HC_b.out, HM_b.out, HR_b.out⟩ HBL_b.out).mono ?_
  rintro e w3 ⟨rfl, hb⟩
  replace HR_a := Lib.hid (HR_a.out.mv hb)
  replace HR_b := Lib.hid (HR_b.out.mv hb)
  replace HR_c := Lib.hid (HR_c.out.mv hb)
  replace HB := Lib.hid (below_mv HB.out hb)
  clear hb
  obtain ⟨bl_c, hbl⟩ : ∃ bb, fewP c 10 = bb := ⟨_, rfl⟩
  have HBL_c := Lib.hid hbl; clear hbl
  go_wp2_with fail
  refine (Few A_c n_c c_c 10 c _ bl_c (by decide) ⟨HN_c.out, HC_c.out, HM_c.out, HR_c.out⟩ HBL_c.out).mono ?_
  rintro e w4 ⟨rfl, hb⟩
  replace HR_a := Lib.hid (HR_a.out.mv hb)
  replace HR_b := Lib.hid (HR_b.out.mv hb)
  replace HR_c := Lib.hid (HR_c.out.mv hb)
  replace HB := Lib.hid (below_mv HB.out hb)
  clear hb
  cases bl_a with
  | false =>
    go_wp2
    go_ret
    exact ⟨rfl, HB.out⟩
  | true =>
  have HL_a := Lib.hid (fewP_lt HBL_a.out); have HQ_a : Hid (n_a ≤ 40) := Lib.hid (by have h1 := fewP_len HBL_a.out; have h2 := HN_a.out; omega)
  cases bl_b with
  | false =>
    go_wp2
    go_ret
    exact ⟨rfl, HB.out⟩
  | true =>
  have HL_b := Lib.hid (fewP_lt HBL_b.out); have HQ_b : Hid (n_b ≤ 40) := Lib.hid (by have h1 := fewP_len HBL_b.out; have h2 := HN_b.out; omega)
  cases bl_c with
  | false =>
    go_wp2
    go_ret
    exact ⟨rfl, HB.out⟩
  | true =>
  have HL_c := Lib.hid (fewP_lt HBL_c.out); have HQ_c : Hid (n_c ≤ 40) := Lib.hid (by have h1 := fewP_len HBL_c.out; have h2 := HN_c.out; omega)
  go_upto_region 8 with (at_builtin; first
    | (refine wpList_ownPL rfl (.const (.slice none 0 0)) (.tmp 55) rfl w4.heap.size w4.heap.size n_a c_a (.slice none 0 0) A_a [] a rfl rfl (ownP_nil _ _) HR_a.out (Nat.le_refl _) HN_a.out (by have := HQ_a.out; simp; omega) (Nat.le_refl _) ?_; intro va wa ho hg; have hb2 : Below w4.heap.size w4 wa := (Below.refl _ _).grown hg (Nat.le_refl _) (fun k e => by cases e); have HO_ab := Lib.hid (show OwnP wa w4.heap.size va a from ho); have HB_ab := Lib.hid hb2; clear ho hg hb2)
    | (refine wpList_ownPL rfl (.tmp 56) (.tmp 57) rfl w4.heap.size w4.heap.size n_b c_b va A_b a b rfl rfl HO_ab.out (HR_b.out.below HB_ab.out) (Nat.le_refl _) HN_b.out (by have h1 := HQ_b.out; have h2 := HQ_a.out; have h3 := HN_a.out; omega) HB_ab.out.size ?_; intro vb w5 ho hg; have hb3 : Below w4.heap.size w4 w5 := HB_ab.out.grown hg HB_ab.out.size (fun k e => ownP_ge HO_ab.out k e); have HP_ab := Lib.hid ho; have HD_ab := Lib.hid hb3; clear ho hg hb3 HO_ab HB_ab; obtain ⟨A_ab, c_ab, hv, hc, hr, _⟩ := rdP_own HP_ab.out; have HR_ab := Lib.hid hr; obtain ⟨n_ab, hn⟩ : ∃ n, List.length (a ++ b) = n := ⟨_, rfl⟩; rw [hn] at hv; subst hv; have HN_ab := Lib.hid hn; clear hc hr HP_ab hn))
  have hb := HD_ab.out
  clear HD_ab
  replace HR_a := Lib.hid (HR_a.out.mv hb)
  replace HR_b := Lib.hid (HR_b.out.mv hb)
  replace HR_c := Lib.hid (HR_c.out.mv hb)
  replace HB := Lib.hid (below_mv HB.out hb)
  clear hb
  have HL_ab := Lib.hid (Lt.app HL_a.out HL_b.out); have HQ_ab : Hid (n_ab ≤ 160) := Lib.hid (by have h1 := HN_ab.out; rw [List.length_append, HN_a.out, HN_b.out] at h1; have h2 := HQ_a.out; have h3 := HQ_b.out; omega)
  go_wp2_with (at_builtin; first
    | (refine wpList_ownPL rfl (.const (.slice none 0 0)) (.tmp 59) rfl w5.heap.size w5.heap.size n_b c_b (.slice none 0 0) A_b [] b rfl rfl (ownP_nil _ _) HR_b.out (Nat.le_refl _) HN_b.out (by have := HQ_b.out; simp; omega) (Nat.le_refl _) ?_; intro va wa ho hg; have hb2 : Below w5.heap.size w5 wa := (Below.refl _ _).grown hg (Nat.le_refl _) (fun k e => by cases e); have HO_bc := Lib.hid (show OwnP wa w5.heap.size va b from ho); have HB_bc := Lib.hid hb2; clear ho hg hb2)
    | (refine wpList_ownPL rfl (.tmp 60) (.tmp 61) rfl w5.heap.size w5.heap.size n_c c_c va A_c b c rfl rfl HO_bc.out (HR_c.out.below HB_bc.out) (Nat.le_refl _) HN_c.out (by have h1 := HQ_c.out; have h2 := HQ_b.out; have h3 := HN_b.out; omega) HB_bc.out.size ?_; intro vb w6 ho hg; have hb3 : Below w5.heap.size w5 w6 := HB_bc.out.grown hg HB_bc.out.size (fun k e => ownP_ge HO_bc.out k e); have HP_bc := Lib.hid ho; have HD_bc := Lib.hid hb3; clear ho hg hb3 HO_bc HB_bc; obtain ⟨A_bc, c_bc, hv, hc, hr, _⟩ := rdP_own HP_bc.out; have HR_bc := Lib.hid hr; obtain ⟨n_bc, hn⟩ : ∃ n, List.length (b ++ c) = n := ⟨_, rfl⟩; rw [hn] at hv; subst hv; have HN_bc := Lib.hid hn; clear hc hr HP_bc hn))
  have hb := HD_bc.out
  clear HD_bc
  replace HR_a := Lib.hid (HR_a.out.mv hb)
  replace HR_b := Lib.hid (HR_b.out.mv hb)
  replace HR_c := Lib.hid (HR_c.out.mv hb)
  replace HR_ab := Lib.hid (HR_ab.out.mv hb)
  replace HB := Lib.hid (below_mv HB.out hb)
  clear hb
  have HL_bc := Lib.hid (Lt.app HL_b.out HL_c.out); have HQ_bc : Hid (n_bc ≤ 160) := Lib.hid (by have h1 := HN_bc.out; rw [List.length_append, HN_b.out, HN_c.out] at h1; have h2 := HQ_b.out; have h3 := HQ_c.out; omega)
  obtain ⟨⟨c1, ab1⟩, hx⟩ : ∃ z, outF (passF (a ++ b) c) = z := ⟨_, rfl⟩
  obtain ⟨bis, hs⟩ : ∃ bb, (passF (a ++ b) c).isSome = bb := ⟨_, rfl⟩
  have HX_c1 := Lib.hid hx; have HS_c1 := Lib.hid hs; clear hx hs
  refine (PassL A_ab n_ab c_ab A_c n_c c_c (a ++ b) c c1 ab1 w6 bis HN_ab.out HN_c.out (by have := HQ_ab.out; omega) (by have := HQ_c.out; omega) HL_ab.out HL_c.out HR_ab.out HR_c.out HX_c1.out HS_c1.out).mono ?_
  rintro e w7 ⟨A_c1, c_c1, A_ab1, c_ab1, rfl, hx, hy, hb⟩
  replace HR_a := Lib.hid (HR_a.out.mv hb)
  replace HR_b := Lib.hid (HR_b.out.mv hb)
  replace HR_c := Lib.hid (HR_c.out.mv hb)
  replace HR_ab := Lib.hid (HR_ab.out.mv hb)
  replace HR_bc := Lib.hid (HR_bc.out.mv hb)
  replace HB := Lib.hid (below_mv HB.out hb)
  clear hb
  have HR_c1 := Lib.hid hx; have HR_ab1 := Lib.hid hy; clear hx hy
  obtain ⟨n_c1, hn⟩ : ∃ n, List.length c1 = n := ⟨_, rfl⟩
  rw [hn]
  have HN_c1 := Lib.hid hn; clear hn
  obtain ⟨n_ab1, hn⟩ : ∃ n, List.length ab1 = n := ⟨_, rfl⟩
  rw [hn]
  have HN_ab1 := Lib.hid hn; clear hn
  obtain ⟨l1, l2, l3, l4⟩ := outF_good HX_c1.out HL_ab.out HL_c.out
  have HL_c1 := Lib.hid l1; have HL_ab1 := Lib.hid l2; clear l1 l2
  rw [HN_c1.out, HN_c.out] at l3
  rw [HN_ab1.out, HN_ab.out] at l4
  have HQ_c1 : Hid (n_c1 ≤ 320) := Lib.hid (by have h4 := HQ_c.out; omega); have HQ_ab1 : Hid (n_ab1 ≤ 320) := Lib.hid (by have h4 := HQ_ab.out; omega)
  clear l3 l4
  go_wp2_with fail
  obtain ⟨⟨c2, b2⟩, hx⟩ : ∃ z, outF (passF b c) = z := ⟨_, rfl⟩
  obtain ⟨bi, hs⟩ : ∃ bb, (passF b c).isSome = bb := ⟨_, rfl⟩
  have HX_c2 := Lib.hid hx; have HS_c2 := Lib.hid hs; clear hx hs
  refine (PassL A_b n_b c_b A_c n_c c_c b c c2 b2 w7 bi HN_b.out HN_c.out (by have := HQ_b.out; omega) (by have := HQ_c.out; omega) HL_b.out HL_c.out HR_b.out HR_c.out HX_c2.out HS_c2.out).mono ?_
  rintro e w8 ⟨A_c2, c_c2, A_b2, c_b2, rfl, hx, hy, hb⟩
  replace HR_a := Lib.hid (HR_a.out.mv hb)
  replace HR_b := Lib.hid (HR_b.out.mv hb)
  replace HR_c := Lib.hid (HR_c.out.mv hb)
  replace HR_ab := Lib.hid (HR_ab.out.mv hb)
  replace HR_bc := Lib.hid (HR_bc.out.mv hb)
  replace HR_c1 := Lib.hid (HR_c1.out.mv hb)
  replace HR_ab1 := Lib.hid (HR_ab1.out.mv hb)
  replace HB := Lib.hid (below_mv HB.out hb)
  clear hb
  have HR_c2 := Lib.hid hx; have HR_b2 := Lib.hid hy; clear hx hy
  obtain ⟨n_c2, hn⟩ : ∃ n, List.length c2 = n := ⟨_, rfl⟩
  rw [hn]
  have HN_c2 := Lib.hid hn; clear hn
  obtain ⟨n_b2, hn⟩ : ∃ n, List.length b2 = n := ⟨_, rfl⟩
  rw [hn]
  have HN_b2 := Lib.hid hn; clear hn
  obtain ⟨l1, l2, l3, l4⟩ := outF_good HX_c2.out HL_b.out HL_c.out
  have HL_c2 := Lib.hid l1; have HL_b2 := Lib.hid l2; clear l1 l2
  rw [HN_c2.out, HN_c.out] at l3
  rw [HN_b2.out, HN_b.out] at l4
  have HQ_c2 : Hid (n_c2 ≤ 320) := Lib.hid (by have h4 := HQ_c.out; omega); have HQ_b2 : Hid (n_b2 ≤ 320) := Lib.hid (by have h4 := HQ_b.out; omega)
  clear l3 l4
  go_wp2_with fail
  obtain ⟨⟨c3, a3⟩, hx⟩ : ∃ z, outF (passF a c2) = z := ⟨_, rfl⟩
  obtain ⟨bk, hs⟩ : ∃ bb, (passF a c2).isSome = bb := ⟨_, rfl⟩
  have HX_c3 := Lib.hid hx; have HS_c3 := Lib.hid hs; clear hx hs
  refine (PassL A_a n_a c_a A_c2 n_c2 c_c2 a c2 c3 a3 w8 bk HN_a.out HN_c2.out (by have := HQ_a.out; omega) (by have := HQ_c2.out; omega) HL_a.out HL_c2.out HR_a.out HR_c2.out HX_c3.out HS_c3.out).mono ?_
  rintro e w9 ⟨A_c3, c_c3, A_a3, c_a3, rfl, hx, hy, hb⟩
  replace HR_a := Lib.hid (HR_a.out.mv hb)
  replace HR_b := Lib.hid (HR_b.out.mv hb)
  replace HR_c := Lib.hid (HR_c.out.mv hb)
  replace HR_ab := Lib.hid (HR_ab.out.mv hb)
  replace HR_bc := Lib.hid (HR_bc.out.mv hb)
  replace HR_c1 := Lib.hid (HR_c1.out.mv hb)
  replace HR_ab1 := Lib.hid (HR_ab1.out.mv hb)
  replace HR_c2 := Lib.hid (HR_c2.out.mv hb)
  replace HR_b2 := Lib.hid (HR_b2.out.mv hb)
  replace HB := Lib.hid (below_mv HB.out hb)
  clear hb
  have HR_c3 := Lib.hid hx; have HR_a3 := Lib.hid hy; clear hx hy
  obtain ⟨n_c3, hn⟩ : ∃ n, List.length c3 = n := ⟨_, rfl⟩
  rw [hn]
  have HN_c3 := Lib.hid hn; clear hn
  obtain ⟨n_a3, hn⟩ : ∃ n, List.length a3 = n := ⟨_, rfl⟩
  rw [hn]
  have HN_a3 := Lib.hid hn; clear hn
  obtain ⟨l1, l2, l3, l4⟩ := outF_good HX_c3.out HL_a.out HL_c2.out
  have HL_c3 := Lib.hid l1; have HL_a3 := Lib.hid l2; clear l1 l2
  rw [HN_c3.out, HN_c2.out] at l3
  rw [HN_a3.out, HN_a.out] at l4
  have HQ_c3 : Hid (n_c3 ≤ 320) := Lib.hid (by have h4 := HQ_c2.out; omega); have HQ_a3 : Hid (n_a3 ≤ 320) := Lib.hid (by have h4 := HQ_a.out; omega)
  clear l3 l4
  go_wp2_with fail
  obtain ⟨⟨bc4, a4⟩, hx⟩ : ∃ z, outF (passF a (b ++ c)) = z := ⟨_, rfl⟩
  obtain ⟨bwas, hs⟩ : ∃ bb, (passF a (b ++ c)).isSome = bb := ⟨_, rfl⟩
  have HX_bc4 := Lib.hid hx; have HS_bc4 := Lib.hid hs; clear hx hs
  refine (PassL A_a n_a c_a A_bc n_bc c_bc a (b ++ c) bc4 a4 w9 bwas HN_a.out HN_bc.out (by have := HQ_a.out; omega) (by have := HQ_bc.out; omega) HL_a.out HL_bc.out HR_a.out HR_bc.out HX_bc4.out HS_bc4.out).mono ?_
  rintro e w10 ⟨A_bc4, c_bc4, A_a4, c_a4, rfl, hx, hy, hb⟩
  replace HR_a := Lib.hid (HR_a.out.mv hb)
  replace HR_b := Lib.hid (HR_b.out.mv hb)
  replace HR_c := Lib.hid (HR_c.out.mv hb)
  replace HR_ab := Lib.hid (HR_ab.out.mv hb)
  replace HR_bc := Lib.hid (HR_bc.out.mv hb)
  replace HR_c1 := Lib.hid (HR_c1.out.mv hb)
  replace HR_ab1 := Lib.hid (HR_ab1.out.mv hb)
  replace HR_c2 := Lib.hid (HR_c2.out.mv hb)
  replace HR_b2 := Lib.hid (HR_b2.out.mv hb)
  replace HR_c3 := Lib.hid (HR_c3.out.mv hb)
  replace HR_a3 := Lib.hid (HR_a3.out.mv hb)
  replace HB := Lib.hid (below_mv HB.out hb)
  clear hb
  have HR_bc4 := Lib.hid hx; have HR_a4 := Lib.hid hy; clear hx hy
  obtain ⟨n_bc4, hn⟩ : ∃ n, List.length bc4 = n := ⟨_, rfl⟩
  rw [hn]
  have HN_bc4 := Lib.hid hn; clear hn
  obtain ⟨n_a4, hn⟩ : ∃ n, List.length a4 = n := ⟨_, rfl⟩
  rw [hn]
  have HN_a4 := Lib.hid hn; clear hn
  obtain ⟨l1, l2, l3, l4⟩ := outF_good HX_bc4.out HL_a.out HL_bc.out
  have HL_bc4 := Lib.hid l1; have HL_a4 := Lib.hid l2; clear l1 l2
  rw [HN_bc4.out, HN_bc.out] at l3
  rw [HN_a4.out, HN_a.out] at l4
  have HQ_bc4 : Hid (n_bc4 ≤ 320) := Lib.hid (by have h4 := HQ_bc.out; omega); have HQ_a4 : Hid (n_a4 ≤ 320) := Lib.hid (by have h4 := HQ_a.out; omega)
  clear l3 l4
  go_wp2_with fail
  obtain ⟨⟨b5, a5⟩, hx⟩ : ∃ z, outF (passF a b) = z := ⟨_, rfl⟩
  obtain ⟨bl, hs⟩ : ∃ bb, (passF a b).isSome = bb := ⟨_, rfl⟩
  have HX_b5 := Lib.hid hx; have HS_b5 := Lib.hid hs; clear hx hs
  refine (PassL A_a n_a c_a A_b n_b c_b a b b5 a5 w10 bl HN_a.out HN_b.out (by have := HQ_a.out; omega) (by have := HQ_b.out; omega) HL_a.out HL_b.out HR_a.out HR_b.out HX_b5.out HS_b5.out).mono ?_
  rintro e w11 ⟨A_b5, c_b5, A_a5, c_a5, rfl, hx, hy, hb⟩
  replace HR_a := Lib.hid (HR_a.out.mv hb)
  replace HR_b := Lib.hid (HR_b.out.mv hb)
  replace HR_c := Lib.hid (HR_c.out.mv hb)
  replace HR_ab := Lib.hid (HR_ab.out.mv hb)
  replace HR_bc := Lib.hid (HR_bc.out.mv hb)
  replace HR_c1 := Lib.hid (HR_c1.out.mv hb)
  replace HR_ab1 := Lib.hid (HR_ab1.out.mv hb)
  replace HR_c2 := Lib.hid (HR_c2.out.mv hb)
  replace HR_b2 := Lib.hid (HR_b2.out.mv hb)
  replace HR_c3 := Lib.hid (HR_c3.out.mv hb)
  replace HR_a3 := Lib.hid (HR_a3.out.mv hb)
  replace HR_bc4 := Lib.hid (HR_bc4.out.mv hb)
  replace HR_a4 := Lib.hid (HR_a4.out.mv hb)
  replace HB := Lib.hid (below_mv HB.out hb)
  clear hb
  have HR_b5 := Lib.hid hx; have HR_a5 := Lib.hid hy; clear hx hy
  obtain ⟨n_b5, hn⟩ : ∃ n, List.length b5 = n := ⟨_, rfl⟩
  rw [hn]
  have HN_b5 := Lib.hid hn; clear hn
  obtain ⟨n_a5, hn⟩ : ∃ n, List.length a5 = n := ⟨_, rfl⟩
  rw [hn]
  have HN_a5 := Lib.hid hn; clear hn
  obtain ⟨l1, l2, l3, l4⟩ := outF_good HX_b5.out HL_a.out HL_b.out
  have HL_b5 := Lib.hid l1; have HL_a5 := Lib.hid l2; clear l1 l2
  rw [HN_b5.out, HN_b.out] at l3
  rw [HN_a5.out, HN_a.out] at l4
  have HQ_b5 : Hid (n_b5 ≤ 320) := Lib.hid (by have h4 := HQ_b.out; omega); have HQ_a5 : Hid (n_a5 ≤ 320) := Lib.hid (by have h4 := HQ_a.out; omega)
  clear l3 l4
  go_wp2_with fail
  obtain ⟨⟨c6, a6⟩, hx⟩ : ∃ z, outF (passF a5 c) = z := ⟨_, rfl⟩
  obtain ⟨bm, hs⟩ : ∃ bb, (passF a5 c).isSome = bb := ⟨_, rfl⟩
  have HX_c6 := Lib.hid hx; have HS_c6 := Lib.hid hs; clear hx hs
  refine (PassL A_a5 n_a5 c_a5 A_c n_c c_c a5 c c6 a6 w11 bm HN_a5.out HN_c.out (by have := HQ_a5.out; omega) (by have := HQ_c.out; omega) HL_a5.out HL_c.out HR_a5.out HR_c.out HX_c6.out HS_c6.out).mono ?_
  rintro e w12 ⟨A_c6, c_c6, A_a6, c_a6, rfl, hx, hy, hb⟩
  replace HR_a := Lib.hid (HR_a.out.mv hb)
  replace HR_b := Lib.hid (HR_b.out.mv hb)
  replace HR_c := Lib.hid (HR_c.out.mv hb)
  replace HR_ab := Lib.hid (HR_ab.out.mv hb)
  replace HR_bc := Lib.hid (HR_bc.out.mv hb)
  replace HR_c1 := Lib.hid (HR_c1.out.mv hb)
  replace HR_ab1 := Lib.hid (HR_ab1.out.mv hb)
  replace HR_c2 := Lib.hid (HR_c2.out.mv hb)
  replace HR_b2 := Lib.hid (HR_b2.out.mv hb)
  replace HR_c3 := Lib.hid (HR_c3.out.mv hb)
  replace HR_a3 := Lib.hid (HR_a3.out.mv hb)
  replace HR_bc4 := Lib.hid (HR_bc4.out.mv hb)
  replace HR_a4 := Lib.hid (HR_a4.out.mv hb)
  replace HR_b5 := Lib.hid (HR_b5.out.mv hb)
  replace HR_a5 := Lib.hid (HR_a5.out.mv hb)
  replace HB := Lib.hid (below_mv HB.out hb)
  clear hb
  have HR_c6 := Lib.hid hx; have HR_a6 := Lib.hid hy; clear hx hy
  obtain ⟨n_c6, hn⟩ : ∃ n, List.length c6 = n := ⟨_, rfl⟩
  rw [hn]
  have HN_c6 := Lib.hid hn; clear hn
  obtain ⟨n_a6, hn⟩ : ∃ n, List.length a6 = n := ⟨_, rfl⟩
  rw [hn]
  have HN_a6 := Lib.hid hn; clear hn
  obtain ⟨l1, l2, l3, l4⟩ := outF_good HX_c6.out HL_a5.out HL_c.out
  have HL_c6 := Lib.hid l1; have HL_a6 := Lib.hid l2; clear l1 l2
  rw [HN_c6.out, HN_c.out] at l3
  rw [HN_a6.out, HN_a5.out] at l4
  have HQ_c6 : Hid (n_c6 ≤ 320) := Lib.hid (by have h4 := HQ_c.out; omega); have HQ_a6 : Hid (n_a6 ≤ 320) := Lib.hid (by have h4 := HQ_a5.out; omega)
  clear l3 l4
  obtain ⟨i1, i2⟩ := parts1 HX_c1.out HX_c2.out HX_c3.out
  rw [HS_c1.out, HS_c2.out, HS_c3.out] at i1
  rw [HS_c1.out] at i2
  obtain ⟨j1, j2⟩ := parts2 HX_bc4.out HX_b5.out HX_c6.out
  rw [HS_bc4.out, HS_b5.out, HS_c6.out] at j1
  rw [HS_bc4.out] at j2
  have HI2 := Lib.hid i2; have HJ2 := Lib.hid j2; have HI1 := Lib.hid i1; have HJ1 := Lib.hid j1; clear i1 i2 j1 j2
  go_upto_region 15 with fail
  go_cut [118] from 105 (fun s118 wx => s118 = .bool false ∧ wx = w12)
  case first =>
    clear HI2 HJ2
    cases bi with
    | false =>
      cases bl with
      | false =>
        have hi : bis = false := HI1.out
        have hj : bwas = false := HJ1.out
        clear HI1 HJ1
        subst hi hj
        go_wp2_with fail
        go_meet
        exact ⟨rfl, rfl⟩
      | true =>
        cases bm with
        | false =>
          have hi : bis = false := HI1.out
          have hj : bwas = false := HJ1.out
          clear HI1 HJ1
          subst hi hj
          go_wp2_with fail
          go_meet
          exact ⟨rfl, rfl⟩
        | true =>
          have hi : bis = false := HI1.out
          have hj : bwas = true := HJ1.out
          clear HI1 HJ1
          subst hi hj
          go_wp2_with fail
          go_meet
          exact ⟨rfl, rfl⟩
    | true =>
      cases bk with
      | false =>
        cases bl with
        | false =>
          have hi : bis = false := HI1.out
          have hj : bwas = false := HJ1.out
          clear HI1 HJ1
          subst hi hj
          go_wp2_with fail
          go_meet
          exact ⟨rfl, rfl⟩
        | true =>
          cases bm with
          | false =>
            have hi : bis = false := HI1.out
            have hj : bwas = false := HJ1.out
            clear HI1 HJ1
            subst hi hj
            go_wp2_with fail
            go_meet
            exact ⟨rfl, rfl⟩
          | true =>
            have hi : bis = false := HI1.out
            have hj : bwas = true := HJ1.out
            clear HI1 HJ1
            subst hi hj
            go_wp2_with fail
            go_meet
            exact ⟨rfl, rfl⟩
      | true =>
        cases bl with
        | false =>
          have hi : bis = true := HI1.out
          have hj : bwas = false := HJ1.out
          clear HI1 HJ1
          subst hi hj
          go_wp2_with fail
          go_meet
          exact ⟨rfl, rfl⟩
        | true =>
          cases bm with
          | false =>
            have hi : bis = true := HI1.out
            have hj : bwas = false := HJ1.out
            clear HI1 HJ1
            subst hi hj
            go_wp2_with fail
            go_meet
            exact ⟨rfl, rfl⟩
          | true =>
            have hi : bis = true := HI1.out
            have hj : bwas = true := HJ1.out
            clear HI1 HJ1
            subst hi hj
            go_wp2_with fail
            go_meet
            exact ⟨rfl, rfl⟩
  case rest =>
  obtain ⟨rfl, hwc⟩ := hcut
  subst hwc
  clear HI1 HJ1
  go_upto_region 17 with fail
  go_cut [31] from 119 (fun s31 wx => s31 = .bool true ∧ Below w.heap.size w wx ∧ RdP wx (· < wx.heap.size) A_a4 a4 ∧ RdP wx (· < wx.heap.size) A_a6 a6 ∧ RdP wx (· < wx.heap.size) A_bc4 bc4 ∧ RdP wx (· < wx.heap.size) A_b5 b5 ∧ RdP wx (· < wx.heap.size) A_c6 c6)
  case first =>
    cases bis with
    | false =>
      go_wp2_with fail
      go_meet
      exact ⟨rfl, HB.out, HR_a4.out, HR_a6.out, HR_bc4.out, HR_b5.out, HR_c6.out⟩
    | true =>
      go_wp2_with fail
      obtain ⟨e1, e2⟩ := HI2.out (by trivial)
      have HF1 := Lib.hid e1; have HF2 := Lib.hid e2; clear e1 e2
      refine (SameL A_c1 n_c1 c_c1 A_c3 n_c3 c_c3 c1 c3 _ true HN_c1.out HN_c3.out (by have := HQ_c1.out; omega) HR_c1.out HR_c3.out (by rw [HF1.out]; exact listP_self _)).mono ?_
      rintro e w13 ⟨rfl, hb⟩
      replace HR_a := Lib.hid (HR_a.out.mv hb)
      replace HR_b := Lib.hid (HR_b.out.mv hb)
      replace HR_c := Lib.hid (HR_c.out.mv hb)
      replace HR_ab := Lib.hid (HR_ab.out.mv hb)
      replace HR_bc := Lib.hid (HR_bc.out.mv hb)
      replace HR_c1 := Lib.hid (HR_c1.out.mv hb)
      replace HR_ab1 := Lib.hid (HR_ab1.out.mv hb)
      replace HR_c2 := Lib.hid (HR_c2.out.mv hb)
      replace HR_b2 := Lib.hid (HR_b2.out.mv hb)
      replace HR_c3 := Lib.hid (HR_c3.out.mv hb)
      replace HR_a3 := Lib.hid (HR_a3.out.mv hb)
      replace HR_bc4 := Lib.hid (HR_bc4.out.mv hb)
      replace HR_a4 := Lib.hid (HR_a4.out.mv hb)
      replace HR_b5 := Lib.hid (HR_b5.out.mv hb)
      replace HR_a5 := Lib.hid (HR_a5.out.mv hb)
      replace HR_c6 := Lib.hid (HR_c6.out.mv hb)
      replace HR_a6 := Lib.hid (HR_a6.out.mv hb)
      replace HB := Lib.hid (below_mv HB.out hb)
      clear hb
      go_wp2_with (at_builtin; first
        | (refine wpList_ownPLW rfl (.const (.slice none 0 0)) (.tmp 127) rfl w13.heap.size w13.heap.size n_a3 c_a3 (.slice none 0 0) A_a3 [] a3 rfl rfl (ownP_nil _ _) HR_a3.out (Nat.le_refl _) HN_a3.out (by have := HQ_a3.out; simp; omega) (Nat.le_refl _) ?_; intro va wa ho hg; have hb2 : Below w13.heap.size w13 wa := (Below.refl _ _).grown hg (Nat.le_refl _) (fun k e => by cases e); have HO_ab3 := Lib.hid (show OwnP wa w13.heap.size va a3 from ho); have HB_ab3 := Lib.hid hb2; clear ho hg hb2)
        | (refine wpList_ownPLW rfl (.tmp 128) (.tmp 129) rfl w13.heap.size w13.heap.size n_b2 c_b2 va A_b2 a3 b2 rfl rfl HO_ab3.out (HR_b2.out.below HB_ab3.out) (Nat.le_refl _) HN_b2.out (by have h1 := HQ_b2.out; have h2 := HQ_a3.out; have h3 := HN_a3.out; omega) HB_ab3.out.size ?_; intro vb w14 ho hg; have hb3 : Below w13.heap.size w13 w14 := HB_ab3.out.grown hg HB_ab3.out.size (fun k e => ownP_ge HO_ab3.out k e); have HP_ab3 := Lib.hid ho; have HD_ab3 := Lib.hid hb3; clear ho hg hb3 HO_ab3 HB_ab3; obtain ⟨A_ab3, c_ab3, hv, hc, hr, _⟩ := rdP_own HP_ab3.out; have HR_ab3 := Lib.hid hr; obtain ⟨n_ab3, hn⟩ : ∃ n, List.length (a3 ++ b2) = n := ⟨_, rfl⟩; rw [hn] at hv; subst hv; have HN_ab3 := Lib.hid hn; clear hc hr HP_ab3 hn))
      have hb := HD_ab3.out
      clear HD_ab3
      replace HR_a := Lib.hid (HR_a.out.mv hb)
      replace HR_b := Lib.hid (HR_b.out.mv hb)
      replace HR_c := Lib.hid (HR_c.out.mv hb)
      replace HR_ab := Lib.hid (HR_ab.out.mv hb)
      replace HR_bc := Lib.hid (HR_bc.out.mv hb)
      replace HR_c1 := Lib.hid (HR_c1.out.mv hb)
      replace HR_ab1 := Lib.hid (HR_ab1.out.mv hb)
      replace HR_c2 := Lib.hid (HR_c2.out.mv hb)
      replace HR_b2 := Lib.hid (HR_b2.out.mv hb)
      replace HR_c3 := Lib.hid (HR_c3.out.mv hb)
      replace HR_a3 := Lib.hid (HR_a3.out.mv hb)
      replace HR_bc4 := Lib.hid (HR_bc4.out.mv hb)
      replace HR_a4 := Lib.hid (HR_a4.out.mv hb)
      replace HR_b5 := Lib.hid (HR_b5.out.mv hb)
      replace HR_a5 := Lib.hid (HR_a5.out.mv hb)
      replace HR_c6 := Lib.hid (HR_c6.out.mv hb)
      replace HR_a6 := Lib.hid (HR_a6.out.mv hb)
      replace HB := Lib.hid (below_mv HB.out hb)
      clear hb
      have HL_ab3 := Lib.hid (Lt.app HL_a3.out HL_b2.out); have HQ_ab3 : Hid (n_ab3 ≤ 1000) := Lib.hid (by have h1 := HN_ab3.out; rw [List.length_append, HN_a3.out, HN_b2.out] at h1; have h2 := HQ_a3.out; have h3 := HQ_b2.out; omega)
      refine (SameL A_ab1 n_ab1 c_ab1 A_ab3 n_ab3 c_ab3 ab1 (a3 ++ b2) _ true HN_ab1.out HN_ab3.out (by have := HQ_ab1.out; omega) HR_ab1.out HR_ab3.out (by rw [HF2.out]; exact listP_self _)).mono ?_
      rintro e w15 ⟨rfl, hb⟩
      replace HR_a := Lib.hid (HR_a.out.mv hb)
      replace HR_b := Lib.hid (HR_b.out.mv hb)
      replace HR_c := Lib.hid (HR_c.out.mv hb)
      replace HR_ab := Lib.hid (HR_ab.out.mv hb)
      replace HR_bc := Lib.hid (HR_bc.out.mv hb)
      replace HR_c1 := Lib.hid (HR_c1.out.mv hb)
      replace HR_ab1 := Lib.hid (HR_ab1.out.mv hb)
      replace HR_c2 := Lib.hid (HR_c2.out.mv hb)
      replace HR_b2 := Lib.hid (HR_b2.out.mv hb)
      replace HR_c3 := Lib.hid (HR_c3.out.mv hb)
      replace HR_a3 := Lib.hid (HR_a3.out.mv hb)
      replace HR_bc4 := Lib.hid (HR_bc4.out.mv hb)
      replace HR_a4 := Lib.hid (HR_a4.out.mv hb)
      replace HR_b5 := Lib.hid (HR_b5.out.mv hb)
      replace HR_a5 := Lib.hid (HR_a5.out.mv hb)
      replace HR_c6 := Lib.hid (HR_c6.out.mv hb)
      replace HR_a6 := Lib.hid (HR_a6.out.mv hb)
      replace HR_ab3 := Lib.hid (HR_ab3.out.mv hb)
      replace HB := Lib.hid (below_mv HB.out hb)
      clear hb
      go_wp2_with fail
      go_meet
      exact ⟨rfl, HB.out, HR_a4.out, HR_a6.out, HR_bc4.out, HR_b5.out, HR_c6.out⟩
  case rest =>
  clear HB HR_a HR_b HR_c HR_ab HR_bc HR_c1 HR_ab1 HR_c2 HR_b2 HR_c3 HR_a3 HR_bc4 HR_a4 HR_b5 HR_a5 HR_c6 HR_a6
  obtain ⟨rfl, hb0, h_a4, h_a6, h_bc4, h_b5, h_c6⟩ := hcut
  have HB := Lib.hid hb0; have HR_a4 := Lib.hid h_a4; have HR_a6 := Lib.hid h_a6; have HR_bc4 := Lib.hid h_bc4; have HR_b5 := Lib.hid h_b5; have HR_c6 := Lib.hid h_c6
  clear hb0 h_a4 h_a6 h_bc4 h_b5 h_c6
  cases bwas with
  | false =>
    go_wp2
    go_ret
    exact ⟨rfl, HB.out⟩
  | true =>
  go_wp2_with fail
  obtain ⟨e1, e2⟩ := HJ2.out (by trivial)
  have HE1 := Lib.hid e1; have HE2 := Lib.hid e2; clear e1 e2
  refine (SameL A_a4 n_a4 c_a4 A_a6 n_a6 c_a6 a4 a6 _ true HN_a4.out HN_a6.out (by have := HQ_a4.out; omega) HR_a4.out HR_a6.out (by rw [HE2.out]; exact listP_self _)).mono ?_
  rintro e w13 ⟨rfl, hb⟩
  replace HR_a4 := Lib.hid (HR_a4.out.mv hb)
  replace HR_a6 := Lib.hid (HR_a6.out.mv hb)
  replace HR_bc4 := Lib.hid (HR_bc4.out.mv hb)
  replace HR_b5 := Lib.hid (HR_b5.out.mv hb)
  replace HR_c6 := Lib.hid (HR_c6.out.mv hb)
  replace HB := Lib.hid (below_mv HB.out hb)
  clear hb
  go_wp2_with (at_builtin; first
    | (refine wpList_ownPLW rfl (.const (.slice none 0 0)) (.tmp 142) rfl w13.heap.size w13.heap.size n_b5 c_b5 (.slice none 0 0) A_b5 [] b5 rfl rfl (ownP_nil _ _) HR_b5.out (Nat.le_refl _) HN_b5.out (by have := HQ_b5.out; simp; omega) (Nat.le_refl _) ?_; intro va wa ho hg; have hb2 : Below w13.heap.size w13 wa := (Below.refl _ _).grown hg (Nat.le_refl _) (fun k e => by cases e); have HO_bc5 := Lib.hid (show OwnP wa w13.heap.size va b5 from ho); have HB_bc5 := Lib.hid hb2; clear ho hg hb2)
    | (refine wpList_ownPLW rfl (.tmp 143) (.tmp 144) rfl w13.heap.size w13.heap.size n_c6 c_c6 va A_c6 b5 c6 rfl rfl HO_bc5.out (HR_c6.out.below HB_bc5.out) (Nat.le_refl _) HN_c6.out (by have h1 := HQ_c6.out; have h2 := HQ_b5.out; have h3 := HN_b5.out; omega) HB_bc5.out.size ?_; intro vb w14 ho hg; have hb3 : Below w13.heap.size w13 w14 := HB_bc5.out.grown hg HB_bc5.out.size (fun k e => ownP_ge HO_bc5.out k e); have HP_bc5 := Lib.hid ho; have HD_bc5 := Lib.hid hb3; clear ho hg hb3 HO_bc5 HB_bc5; obtain ⟨A_bc5, c_bc5, hv, hc, hr, _⟩ := rdP_own HP_bc5.out; have HR_bc5 := Lib.hid hr; obtain ⟨n_bc5, hn⟩ : ∃ n, List.length (b5 ++ c6) = n := ⟨_, rfl⟩; rw [hn] at hv; subst hv; have HN_bc5 := Lib.hid hn; clear hc hr HP_bc5 hn))
  have hb := HD_bc5.out
  clear HD_bc5
  replace HR_a4 := Lib.hid (HR_a4.out.mv hb)
  replace HR_a6 := Lib.hid (HR_a6.out.mv hb)
  replace HR_bc4 := Lib.hid (HR_bc4.out.mv hb)
  replace HR_b5 := Lib.hid (HR_b5.out.mv hb)
  replace HR_c6 := Lib.hid (HR_c6.out.mv hb)
  replace HB := Lib.hid (below_mv HB.out hb)
  clear hb
  have HL_bc5 := Lib.hid (Lt.app HL_b5.out HL_c6.out); have HQ_bc5 : Hid (n_bc5 ≤ 1000) := Lib.hid (by have h1 := HN_bc5.out; rw [List.length_append, HN_b5.out, HN_c6.out] at h1; have h2 := HQ_b5.out; have h3 := HQ_c6.out; omega)
  refine (SameL A_bc4 n_bc4 c_bc4 A_bc5 n_bc5 c_bc5 bc4 (b5 ++ c6) _ true HN_bc4.out HN_bc5.out (by have := HQ_bc4.out; omega) HR_bc4.out HR_bc5.out (by rw [HE1.out]; exact listP_self _)).mono ?_
  rintro e w15 ⟨rfl, hb⟩
  replace HR_a4 := Lib.hid (HR_a4.out.mv hb)
  replace HR_a6 := Lib.hid (HR_a6.out.mv hb)
  replace HR_bc4 := Lib.hid (HR_bc4.out.mv hb)
  replace HR_b5 := Lib.hid (HR_b5.out.mv hb)
  replace HR_c6 := Lib.hid (HR_c6.out.mv hb)
  replace HR_bc5 := Lib.hid (HR_bc5.out.mv hb)
  replace HB := Lib.hid (below_mv HB.out hb)
  clear hb
  go_wp2
  go_ret
  exact ⟨rfl, HB.out⟩

end FlL
open FlL
open Tx
open Go.ChangeShapes Go.WideShapes Go.ChangeAt

theorem flowParts_own : ownKnob Try.prog.godebug = none := by kernel_rfl
theorem flowParts_laidOut : laidOutB Try.prog = true := by kernel_rfl

set_option maxRecDepth 100000 in
theorem flowParts_lifted (os : Os) (started : os.Started) (H : Type) (enc : TypeId × Value → H) :
    ReturnsInHanded {} Try.checked os 4 .any (Rows.flowPartsSpec.pre6 enc Try.prog Try.f4 Rows.flowPartsRow.domain false) (Rows.flowPartsSpec.post enc Try.prog Try.f4 false true false false) := by
  refine returnsInHanded_of_change (C := Try.checked) flowParts_own started (by kernel_rfl) Try.func4
    (ChangeSpec.witness6 (enc := enc) (C := Try.checked) false ⟨#[], #[.slice none 0 0, .slice none 0 0, .slice none 0 0], []⟩ 8 (by kernel_rfl) (by kernel_rfl) (by kernel_rfl) (by kernel_rfl)) ?_
  intro W base args ds gs before hval0 hW hcnd _
  have hval : ∀ (j : Nat) t v, Try.f4.params[j]? = some t → args[j]? = some v → Value.okWide Try.prog W .any base t v := hval0
  have hW' := hW
  obtain ⟨p, q, hA0, hV, rfl, hfz, hnd⟩ := hW
  have hA : DataW.TrodAll enc Try.prog W 0 (fun _ => true) true Try.f4.params.toList args.toList ds p := hA0
  rw [Try.params4] at hA hval
  obtain ⟨v0, vs0, d0, ds0, p0, q0, hargs, rfl, rfl, h0, r0⟩ := trodAll_cons hA
  obtain ⟨v1, vs1, d1, ds1, p1, q1, rfl, rfl, rfl, h1, r1⟩ := trodAll_cons r0
  obtain ⟨v2, vs2, d2, ds2, p2, q2, rfl, rfl, rfl, h2, r2⟩ := trodAll_cons r1
  obtain ⟨rfl, rfl, rfl⟩ := trodAll_nil r2
  obtain rfl : args = #[v0, v1, v2] := by cases args; simp_all
  obtain ⟨rfl, rfl⟩ := trodVars_none hV
  obtain ⟨a0, n0, c0, rfl⟩ := okWide_slice Try.underlying22 (hval 0 22 v0 rfl rfl)
  have k0 := h0
  have lt0 : ∀ x ∈ p0, x.block < W.heap.size := by obtain ⟨m, hm⟩ := k0; exact DataW.trod_lt m _ _ _ hm
  obtain ⟨l0, s0⟩ : ∃ l, PrsArg W a0 n0 c0 l := by
    obtain ⟨fuel, hf⟩ := h0
    exact prs_in hf (by simp [Value.cells])
  obtain ⟨a1, n1, c1, rfl⟩ := okWide_slice Try.underlying22 (hval 1 22 v1 rfl rfl)
  have k1 := h1
  have lt1 : ∀ x ∈ p1, x.block < W.heap.size := by obtain ⟨m, hm⟩ := k1; exact DataW.trod_lt m _ _ _ hm
  obtain ⟨l1, s1⟩ : ∃ l, PrsArg W a1 n1 c1 l := by
    obtain ⟨fuel, hf⟩ := h1
    exact prs_in hf (by simp [Value.cells])
  obtain ⟨a2, n2, c2, rfl⟩ := okWide_slice Try.underlying22 (hval 2 22 v2 rfl rfl)
  have k2 := h2
  have lt2 : ∀ x ∈ p2, x.block < W.heap.size := by obtain ⟨m, hm⟩ := k2; exact DataW.trod_lt m _ _ _ hm
  obtain ⟨l2, s2⟩ : ∃ l, PrsArg W a2 n2 c2 l := by
    obtain ⟨fuel, hf⟩ := h2
    exact prs_in hf (by simp [Value.cells])
  clear hA0 hval0
  refine (flowParts_walk a0 n0 c0 l0 a1 n1 c1 l1 a2 n2 c2 l2 W s0 s1 s2).mono fun e W' ⟨he, bel⟩ => ?_
  subst he
  exact ⟨_, rfl, _, _, _, [], _, [], hW', trodAll_mk1 (shut_bool Try.underlying4 _), (trodAll_cons_mk (Below.trod flowParts_laidOut (by kernel_rfl) (of_decide_eq_true (by kernel_rfl)) k0 bel lt0) (trodAll_cons_mk (Below.trod flowParts_laidOut (by kernel_rfl) (of_decide_eq_true (by kernel_rfl)) k1 bel lt1) (trodAll_cons_mk (Below.trod flowParts_laidOut (by kernel_rfl) (of_decide_eq_true (by kernel_rfl)) k2 bel lt2) trodAll_mk0))), rfl, bel.frame _, fun h => by cases h⟩

/-- The statement. -/
theorem flowParts_proved : Rows.FlowPartsSaid :=
  OpenClaim.holds_of_wide 4 Try.f4 rfl rfl rfl rfl rfl rfl rfl ⟨rfl, rfl, rfl, rfl, rfl⟩ rfl rfl rfl rfl rfl (by kernel_rfl) Try.func4 (by kernel_rfl)
    (of_decide_eq_true (by kernel_rfl)) (by unfold Func.isWrapper; first | (rw [if_pos (by decide +kernel)]; kernel_rfl) | (rw [if_neg (by decide +kernel)]; exact ⟨rfl, rfl⟩))
    (fun os started H enc _ => flowParts_lifted os started H enc)

#print axioms flowParts_proved
end Go.Proofs.Yteiidklmlelabaa
