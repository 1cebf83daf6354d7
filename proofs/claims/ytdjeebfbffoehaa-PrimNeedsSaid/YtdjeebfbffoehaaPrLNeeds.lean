/-
  The statement PrimNeeds: a change can be done only where its file is there, or, of an Add, is not; a Move's other name is free.
-/
import Derived.Test.YtdjeebfbffoehaaPrLaw
import Derived.OpenShut
import Derived.ShutString
import Derived.BigQuiet
namespace Go.Proofs.Ytdjeebfbffoehaa
open Go.RowKit
set_option linter.unusedVariables false
open Tr Tx Hk Pr
namespace PrL

set_option maxRecDepth 100000 in
set_option maxHeartbeats 4000000 in
theorem primNeeds_walk (A_t : Option Addr) (n_t c_t : Nat) (t : TR) (A_p : Option Addr) (n_p c_p : Nat) (B_p : Option Addr) (m_p d_p : Nat) (p : Ch) (w : World) (h_t : TreeArg w A_t n_t c_t t) (hw_t : Wide t) (h_p : PV w w.heap.size A_p n_p c_p B_p m_p d_p p) :
    Calls Try.prog 8 #[.slice A_t n_t c_t, prV p.k p.nm p.to p.h.pos A_p n_p c_p B_p m_p d_p] w (LawEnd w) := by
  have HT_t := Lib.hid h_t.rd; have HN_t := Lib.hid h_t.len; have HF_t := Lib.hid h_t.fit; have HC_t := Lib.hid h_t.le; have HW_t := Lib.hid hw_t
  have HV_p := Lib.hid h_p
  have HB := Lib.hid (Below.refl w.heap.size w)
  clear h_t hw_t h_p
  go_enter Try.func8, Try.ntmps8
  go_wp2_with fail
  have hb : Below w.heap.size w (World.alloc w (.cells #[.int .i64 p.k, strV p.nm, strV p.to, .int .i64 p.h.pos, .slice A_p n_p c_p, .slice B_p m_p d_p] 28)) := (Below.refl _ _).alloc (Nat.le_refl _) _
  have HK_p := Lib.hid (Blk.new w 28 #[.int .i64 p.k, strV p.nm, strV p.to, .int .i64 p.h.pos, .slice A_p n_p c_p, .slice B_p m_p d_p])
  generalize (World.alloc w (.cells #[.int .i64 p.k, strV p.nm, strV p.to, .int .i64 p.h.pos, .slice A_p n_p c_p, .slice B_p m_p d_p] 28)) = w1 at *
  replace HT_t := Lib.hid (HT_t.out.mv hb)
  replace HV_p := Lib.hid (HV_p.out.mv hb)
  replace HB := Lib.hid (below_mv HB.out hb)
  clear hb
  have x0_p : w1.cell? ⟨w.heap.size, 0, none⟩ = some (.int .i64 p.k) := HK_p.out.cell 0 rfl; have x1_p : w1.cell? ⟨w.heap.size, 1, none⟩ = some (strV p.nm) := HK_p.out.cell 1 rfl; have x2_p : w1.cell? ⟨w.heap.size, 2, none⟩ = some (strV p.to) := HK_p.out.cell 2 rfl; have x3_p : w1.cell? ⟨w.heap.size, 3, none⟩ = some (.int .i64 p.h.pos) := HK_p.out.cell 3 rfl; have x4_p : w1.cell? ⟨w.heap.size, 4, none⟩ = some (.slice A_p n_p c_p) := HK_p.out.cell 4 rfl; have x5_p : w1.cell? ⟨w.heap.size, 5, none⟩ = some (.slice B_p m_p d_p) := HK_p.out.cell 5 rfl
  refine (awake w1).mono ?_
  rintro e w2 ⟨rfl, hb⟩
  replace HT_t := Lib.hid (HT_t.out.mv hb)
  replace HV_p := Lib.hid (HV_p.out.mv hb)
  clear x0_p x1_p x2_p x3_p x4_p x5_p
  replace HK_p := Lib.hid (HK_p.out.below hb HK_p.out.lt)
  replace HB := Lib.hid (below_mv HB.out hb)
  clear hb
  have x0_p : w2.cell? ⟨w.heap.size, 0, none⟩ = some (.int .i64 p.k) := HK_p.out.cell 0 rfl; have x1_p : w2.cell? ⟨w.heap.size, 1, none⟩ = some (strV p.nm) := HK_p.out.cell 1 rfl; have x2_p : w2.cell? ⟨w.heap.size, 2, none⟩ = some (strV p.to) := HK_p.out.cell 2 rfl; have x3_p : w2.cell? ⟨w.heap.size, 3, none⟩ = some (.int .i64 p.h.pos) := HK_p.out.cell 3 rfl; have x4_p : w2.cell? ⟨w.heap.size, 4, none⟩ = some (.slice A_p n_p c_p) := HK_p.out.cell 4 rfl; have x5_p : w2.cell? ⟨w.heap.size, 5, none⟩ = some (.slice B_p m_p d_p) := HK_p.out.cell 5 rfl
  go_wp2_with fail
  refine (LightT A_t c_t n_t _ t _ HN_t.out HC_t.out HF_t.out HT_t.out).mono ?_
  rintro e w' ⟨rfl, rfl⟩
  obtain ⟨bt_t, hbl⟩ : ∃ b, lightT t = b := ⟨_, rfl⟩
  rw [hbl]
  have HBL_t := Lib.hid hbl; clear hbl
  obtain ⟨bl_p, hbl⟩ : ∃ b, lightP p = b := ⟨_, rfl⟩
  have HBL_p := Lib.hid hbl; clear hbl
  go_wp2_with fail
  refine (LightP A_p n_p c_p B_p m_p d_p _ p _ bl_p (Nat.le_refl _) HV_p.out HBL_p.out).mono ?_
  rintro e w3 ⟨rfl, hb⟩
  replace HT_t := Lib.hid (HT_t.out.mv hb)
  replace HV_p := Lib.hid (HV_p.out.mv hb)
  clear x0_p x1_p x2_p x3_p x4_p x5_p
  replace HK_p := Lib.hid (HK_p.out.below hb HK_p.out.lt)
  replace HB := Lib.hid (below_mv HB.out hb)
  clear hb
  have x0_p : w3.cell? ⟨w.heap.size, 0, none⟩ = some (.int .i64 p.k) := HK_p.out.cell 0 rfl; have x1_p : w3.cell? ⟨w.heap.size, 1, none⟩ = some (strV p.nm) := HK_p.out.cell 1 rfl; have x2_p : w3.cell? ⟨w.heap.size, 2, none⟩ = some (strV p.to) := HK_p.out.cell 2 rfl; have x3_p : w3.cell? ⟨w.heap.size, 3, none⟩ = some (.int .i64 p.h.pos) := HK_p.out.cell 3 rfl; have x4_p : w3.cell? ⟨w.heap.size, 4, none⟩ = some (.slice A_p n_p c_p) := HK_p.out.cell 4 rfl; have x5_p : w3.cell? ⟨w.heap.size, 5, none⟩ = some (.slice B_p m_p d_p) := HK_p.out.cell 5 rfl
  obtain ⟨⟨r, u⟩, hD⟩ : ∃ D, doP t p = D := ⟨_, rfl⟩
  have HD_u := Lib.hid hD
  clear hD
  obtain ⟨n_u, hn⟩ : ∃ k, u.length = k := ⟨_, rfl⟩
  have HN_u := Lib.hid hn
  clear hn
  go_wp2_with fail
  refine (ApplyC HW_t.out HN_t.out HT_t.out HV_p.out HD_u.out HN_u.out).mono ?_
  rintro e w4 ⟨A_u, c_u, rfl, hc, hr, hb⟩
  replace HT_t := Lib.hid (HT_t.out.mv hb)
  replace HV_p := Lib.hid (HV_p.out.mv hb)
  clear x0_p x1_p x2_p x3_p x4_p x5_p
  replace HK_p := Lib.hid (HK_p.out.below hb HK_p.out.lt)
  replace HB := Lib.hid (below_mv HB.out hb)
  clear hb
  have x0_p : w4.cell? ⟨w.heap.size, 0, none⟩ = some (.int .i64 p.k) := HK_p.out.cell 0 rfl; have x1_p : w4.cell? ⟨w.heap.size, 1, none⟩ = some (strV p.nm) := HK_p.out.cell 1 rfl; have x2_p : w4.cell? ⟨w.heap.size, 2, none⟩ = some (strV p.to) := HK_p.out.cell 2 rfl; have x3_p : w4.cell? ⟨w.heap.size, 3, none⟩ = some (.int .i64 p.h.pos) := HK_p.out.cell 3 rfl; have x4_p : w4.cell? ⟨w.heap.size, 4, none⟩ = some (.slice A_p n_p c_p) := HK_p.out.cell 4 rfl; have x5_p : w4.cell? ⟨w.heap.size, 5, none⟩ = some (.slice B_p m_p d_p) := HK_p.out.cell 5 rfl
  have HT_u := Lib.hid hr; clear hr hc
  cases bt_t with
  | false =>
    go_wp2
    go_ret
    exact ⟨rfl, HB.out⟩
  | true =>
  have HS_t := Lib.hid (lightT_small HBL_t.out).2; have HK40_t := Lib.hid (lightT_small HBL_t.out).1; clear HF_t HC_t
  cases bl_p with
  | false =>
    go_wp2
    go_ret
    exact ⟨rfl, HB.out⟩
  | true =>
  have HLN_p := Lib.hid (HV_p.out.len HBL_p.out)
  have HSU := Lib.hid (doP_small HBL_t.out HBL_p.out HD_u.out)
  have HS_u := Lib.hid HSU.out.1
  cases hm : mayT t with
  | false =>
    go_wp2_with fail
    refine (MayC (b := false) HN_t.out HS_t.out HT_t.out hm).mono ?_
    rintro e w5 ⟨rfl, hb⟩
    replace HT_t := Lib.hid (HT_t.out.mv hb)
    replace HT_u := Lib.hid (HT_u.out.mv hb)
    replace HV_p := Lib.hid (HV_p.out.mv hb)
    clear x0_p x1_p x2_p x3_p x4_p x5_p
    replace HK_p := Lib.hid (HK_p.out.below hb HK_p.out.lt)
    replace HB := Lib.hid (below_mv HB.out hb)
    clear hb
    have x0_p : w5.cell? ⟨w.heap.size, 0, none⟩ = some (.int .i64 p.k) := HK_p.out.cell 0 rfl; have x1_p : w5.cell? ⟨w.heap.size, 1, none⟩ = some (strV p.nm) := HK_p.out.cell 1 rfl; have x2_p : w5.cell? ⟨w.heap.size, 2, none⟩ = some (strV p.to) := HK_p.out.cell 2 rfl; have x3_p : w5.cell? ⟨w.heap.size, 3, none⟩ = some (.int .i64 p.h.pos) := HK_p.out.cell 3 rfl; have x4_p : w5.cell? ⟨w.heap.size, 4, none⟩ = some (.slice A_p n_p c_p) := HK_p.out.cell 4 rfl; have x5_p : w5.cell? ⟨w.heap.size, 5, none⟩ = some (.slice B_p m_p d_p) := HK_p.out.cell 5 rfl
    go_wp2
    go_ret
    exact ⟨rfl, HB.out⟩
  | true =>
    have HUP := Lib.hid (mayT_up hm); have HM := Lib.hid hm; clear hm
    go_wp2_with fail
    refine (MayC (b := true) HN_t.out HS_t.out HT_t.out HM.out).mono ?_
    rintro e w5 ⟨rfl, hb⟩
    replace HT_t := Lib.hid (HT_t.out.mv hb)
    replace HT_u := Lib.hid (HT_u.out.mv hb)
    replace HV_p := Lib.hid (HV_p.out.mv hb)
    clear x0_p x1_p x2_p x3_p x4_p x5_p
    replace HK_p := Lib.hid (HK_p.out.below hb HK_p.out.lt)
    replace HB := Lib.hid (below_mv HB.out hb)
    clear hb
    have x0_p : w5.cell? ⟨w.heap.size, 0, none⟩ = some (.int .i64 p.k) := HK_p.out.cell 0 rfl; have x1_p : w5.cell? ⟨w.heap.size, 1, none⟩ = some (strV p.nm) := HK_p.out.cell 1 rfl; have x2_p : w5.cell? ⟨w.heap.size, 2, none⟩ = some (strV p.to) := HK_p.out.cell 2 rfl; have x3_p : w5.cell? ⟨w.heap.size, 3, none⟩ = some (.int .i64 p.h.pos) := HK_p.out.cell 3 rfl; have x4_p : w5.cell? ⟨w.heap.size, 4, none⟩ = some (.slice A_p n_p c_p) := HK_p.out.cell 4 rfl; have x5_p : w5.cell? ⟨w.heap.size, 5, none⟩ = some (.slice B_p m_p d_p) := HK_p.out.cell 5 rfl
    by_cases h0 : r = 0
    case neg =>
      have e0 : (r == 0) = false := by rw [beq_eq_false_iff_ne]; exact h0
      go_wp2
      go_ret
      exact ⟨rfl, HB.out⟩
    subst h0
    have HND := Lib.hid (doP_needs HUP.out HD_u.out)
    obtain ⟨b1, hb_b1⟩ : ∃ b, (get t p.nm).isSome = b := ⟨_, rfl⟩
    have HX_b1 := Lib.hid hb_b1; clear hb_b1
    obtain ⟨b2, hb_b2⟩ : ∃ b, (get u p.nm).isSome = b := ⟨_, rfl⟩
    have HX_b2 := Lib.hid hb_b2; clear hb_b2
    obtain ⟨b3, hb_b3⟩ : ∃ b, (get t p.to).isSome = b := ⟨_, rfl⟩
    have HX_b3 := Lib.hid hb_b3; clear hb_b3
    obtain ⟨b4, hb_b4⟩ : ∃ b, (get u p.to).isSome = b := ⟨_, rfl⟩
    have HX_b4 := Lib.hid hb_b4; clear hb_b4
    obtain ⟨y1, hq⟩ : ∃ X : List (List UInt8), (get t p.nm).getD [] = X := ⟨_, rfl⟩
    have HQ_y1 := Lib.hid hq
    obtain ⟨n_y1, hn⟩ : ∃ k, y1.length = k := ⟨_, rfl⟩
    have HN_y1 := Lib.hid hn
    have hgb : (get t p.nm).isSome = b1 := by exact HX_b1.out
    clear hq hn
    have HGB := Lib.hid hgb; clear hgb
    go_wp2_with fail
    refine (GetC HN_t.out HS_t.out HT_t.out HQ_y1.out HGB.out HN_y1.out).mono ?_
    rintro e w6 ⟨A_y1, c_y1, rfl, hc, hr, hb⟩
    replace HT_t := Lib.hid (HT_t.out.mv hb)
    replace HT_u := Lib.hid (HT_u.out.mv hb)
    replace HV_p := Lib.hid (HV_p.out.mv hb)
    clear x0_p x1_p x2_p x3_p x4_p x5_p
    replace HK_p := Lib.hid (HK_p.out.below hb HK_p.out.lt)
    replace HB := Lib.hid (below_mv HB.out hb)
    clear hb
    have x0_p : w6.cell? ⟨w.heap.size, 0, none⟩ = some (.int .i64 p.k) := HK_p.out.cell 0 rfl; have x1_p : w6.cell? ⟨w.heap.size, 1, none⟩ = some (strV p.nm) := HK_p.out.cell 1 rfl; have x2_p : w6.cell? ⟨w.heap.size, 2, none⟩ = some (strV p.to) := HK_p.out.cell 2 rfl; have x3_p : w6.cell? ⟨w.heap.size, 3, none⟩ = some (.int .i64 p.h.pos) := HK_p.out.cell 3 rfl; have x4_p : w6.cell? ⟨w.heap.size, 4, none⟩ = some (.slice A_p n_p c_p) := HK_p.out.cell 4 rfl; have x5_p : w6.cell? ⟨w.heap.size, 5, none⟩ = some (.slice B_p m_p d_p) := HK_p.out.cell 5 rfl
    have HT_y1 := Lib.hid hr; clear hr hc
    clear HGB
    obtain ⟨y2, hq⟩ : ∃ X : List (List UInt8), (get u p.nm).getD [] = X := ⟨_, rfl⟩
    have HQ_y2 := Lib.hid hq
    obtain ⟨n_y2, hn⟩ : ∃ k, y2.length = k := ⟨_, rfl⟩
    have HN_y2 := Lib.hid hn
    have hgb : (get u p.nm).isSome = b2 := by exact HX_b2.out
    clear hq hn
    have HGB := Lib.hid hgb; clear hgb
    go_wp2_with fail
    refine (GetC HN_u.out HS_u.out HT_u.out HQ_y2.out HGB.out HN_y2.out).mono ?_
    rintro e w7 ⟨A_y2, c_y2, rfl, hc, hr, hb⟩
    replace HT_t := Lib.hid (HT_t.out.mv hb)
    replace HT_u := Lib.hid (HT_u.out.mv hb)
    replace HT_y1 := Lib.hid (rdS_mv HT_y1.out hb)
    replace HV_p := Lib.hid (HV_p.out.mv hb)
    clear x0_p x1_p x2_p x3_p x4_p x5_p
    replace HK_p := Lib.hid (HK_p.out.below hb HK_p.out.lt)
    replace HB := Lib.hid (below_mv HB.out hb)
    clear hb
    have x0_p : w7.cell? ⟨w.heap.size, 0, none⟩ = some (.int .i64 p.k) := HK_p.out.cell 0 rfl; have x1_p : w7.cell? ⟨w.heap.size, 1, none⟩ = some (strV p.nm) := HK_p.out.cell 1 rfl; have x2_p : w7.cell? ⟨w.heap.size, 2, none⟩ = some (strV p.to) := HK_p.out.cell 2 rfl; have x3_p : w7.cell? ⟨w.heap.size, 3, none⟩ = some (.int .i64 p.h.pos) := HK_p.out.cell 3 rfl; have x4_p : w7.cell? ⟨w.heap.size, 4, none⟩ = some (.slice A_p n_p c_p) := HK_p.out.cell 4 rfl; have x5_p : w7.cell? ⟨w.heap.size, 5, none⟩ = some (.slice B_p m_p d_p) := HK_p.out.cell 5 rfl
    have HT_y2 := Lib.hid hr; clear hr hc
    clear HGB
    obtain ⟨y3, hq⟩ : ∃ X : List (List UInt8), (get t p.to).getD [] = X := ⟨_, rfl⟩
    have HQ_y3 := Lib.hid hq
    obtain ⟨n_y3, hn⟩ : ∃ k, y3.length = k := ⟨_, rfl⟩
    have HN_y3 := Lib.hid hn
    have hgb : (get t p.to).isSome = b3 := by exact HX_b3.out
    clear hq hn
    have HGB := Lib.hid hgb; clear hgb
    go_wp2_with fail
    refine (GetC HN_t.out HS_t.out HT_t.out HQ_y3.out HGB.out HN_y3.out).mono ?_
    rintro e w8 ⟨A_y3, c_y3, rfl, hc, hr, hb⟩
    replace HT_t := Lib.hid (HT_t.out.mv hb)
    replace HT_u := Lib.hid (HT_u.out.mv hb)
    replace HT_y1 := Lib.hid (rdS_mv HT_y1.out hb)
    replace HT_y2 := Lib.hid (rdS_mv HT_y2.out hb)
    replace HV_p := Lib.hid (HV_p.out.mv hb)
    clear x0_p x1_p x2_p x3_p x4_p x5_p
    replace HK_p := Lib.hid (HK_p.out.below hb HK_p.out.lt)
    replace HB := Lib.hid (below_mv HB.out hb)
    clear hb
    have x0_p : w8.cell? ⟨w.heap.size, 0, none⟩ = some (.int .i64 p.k) := HK_p.out.cell 0 rfl; have x1_p : w8.cell? ⟨w.heap.size, 1, none⟩ = some (strV p.nm) := HK_p.out.cell 1 rfl; have x2_p : w8.cell? ⟨w.heap.size, 2, none⟩ = some (strV p.to) := HK_p.out.cell 2 rfl; have x3_p : w8.cell? ⟨w.heap.size, 3, none⟩ = some (.int .i64 p.h.pos) := HK_p.out.cell 3 rfl; have x4_p : w8.cell? ⟨w.heap.size, 4, none⟩ = some (.slice A_p n_p c_p) := HK_p.out.cell 4 rfl; have x5_p : w8.cell? ⟨w.heap.size, 5, none⟩ = some (.slice B_p m_p d_p) := HK_p.out.cell 5 rfl
    have HT_y3 := Lib.hid hr; clear hr hc
    clear HGB
    obtain ⟨y4, hq⟩ : ∃ X : List (List UInt8), (get u p.to).getD [] = X := ⟨_, rfl⟩
    have HQ_y4 := Lib.hid hq
    obtain ⟨n_y4, hn⟩ : ∃ k, y4.length = k := ⟨_, rfl⟩
    have HN_y4 := Lib.hid hn
    have hgb : (get u p.to).isSome = b4 := by exact HX_b4.out
    clear hq hn
    have HGB := Lib.hid hgb; clear hgb
    go_wp2_with fail
    refine (GetC HN_u.out HS_u.out HT_u.out HQ_y4.out HGB.out HN_y4.out).mono ?_
    rintro e w9 ⟨A_y4, c_y4, rfl, hc, hr, hb⟩
    replace HT_t := Lib.hid (HT_t.out.mv hb)
    replace HT_u := Lib.hid (HT_u.out.mv hb)
    replace HT_y1 := Lib.hid (rdS_mv HT_y1.out hb)
    replace HT_y2 := Lib.hid (rdS_mv HT_y2.out hb)
    replace HT_y3 := Lib.hid (rdS_mv HT_y3.out hb)
    replace HV_p := Lib.hid (HV_p.out.mv hb)
    clear x0_p x1_p x2_p x3_p x4_p x5_p
    replace HK_p := Lib.hid (HK_p.out.below hb HK_p.out.lt)
    replace HB := Lib.hid (below_mv HB.out hb)
    clear hb
    have x0_p : w9.cell? ⟨w.heap.size, 0, none⟩ = some (.int .i64 p.k) := HK_p.out.cell 0 rfl; have x1_p : w9.cell? ⟨w.heap.size, 1, none⟩ = some (strV p.nm) := HK_p.out.cell 1 rfl; have x2_p : w9.cell? ⟨w.heap.size, 2, none⟩ = some (strV p.to) := HK_p.out.cell 2 rfl; have x3_p : w9.cell? ⟨w.heap.size, 3, none⟩ = some (.int .i64 p.h.pos) := HK_p.out.cell 3 rfl; have x4_p : w9.cell? ⟨w.heap.size, 4, none⟩ = some (.slice A_p n_p c_p) := HK_p.out.cell 4 rfl; have x5_p : w9.cell? ⟨w.heap.size, 5, none⟩ = some (.slice B_p m_p d_p) := HK_p.out.cell 5 rfl
    have HT_y4 := Lib.hid hr; clear hr hc
    clear HGB
    clear x0_p x1_p x2_p x3_p x4_p x5_p
    have x0 := HK_p.out.cell 0 rfl
    generalize p.k = k at *
    rcases HND.out with ⟨hk, h1, h2⟩ | ⟨hk, h1, h2⟩ | ⟨hk, h1, h2, h3, h4⟩ | ⟨hk, h1, h2⟩
    · subst hk
      obtain rfl : b1 = false := by rw [← HX_b1.out, h1]; rfl
      obtain rfl : b2 = true := by rw [← HX_b2.out, h2]
      go_wp2
      go_ret
      exact ⟨rfl, HB.out⟩
    · subst hk
      obtain rfl : b1 = true := by rw [← HX_b1.out, h1]
      obtain rfl : b2 = false := by rw [← HX_b2.out, h2]; rfl
      go_wp2
      go_ret
      exact ⟨rfl, HB.out⟩
    · subst hk
      obtain rfl : b1 = true := by rw [← HX_b1.out, h1]
      obtain rfl : b2 = false := by rw [← HX_b2.out, h2]; rfl
      obtain rfl : b3 = false := by rw [← HX_b3.out, h3]; rfl
      obtain rfl : b4 = true := by rw [← HX_b4.out, h4]
      go_wp2
      go_ret
      exact ⟨rfl, HB.out⟩
    · obtain rfl : b1 = true := by rw [← HX_b1.out, h1]
      obtain rfl : b2 = true := by rw [← HX_b2.out, h2]
      have e0 : (k == 0) = false := by rw [beq_eq_false_iff_ne]; omega
      have e1 : (k == 1) = false := by rw [beq_eq_false_iff_ne]; omega
      have e2 : (k == 2) = false := by rw [beq_eq_false_iff_ne]; omega
      go_wp2
      go_ret
      exact ⟨rfl, HB.out⟩

end PrL
open PrL
open Tx
open Go.ChangeShapes Go.WideShapes Go.ChangeAt

theorem primNeeds_own : ownKnob Try.prog.godebug = none := by kernel_rfl
theorem primNeeds_laidOut : laidOutB Try.prog = true := by kernel_rfl

set_option maxRecDepth 100000 in
theorem primNeeds_lifted (os : Os) (started : os.Started) (H : Type) (enc : TypeId × Value → H) :
    ReturnsInHanded {} Try.checked os 8 .any (Rows.primNeedsSpec.pre6 enc Try.prog Try.f8 Rows.primNeedsRow.domain false) (Rows.primNeedsSpec.post enc Try.prog Try.f8 false true false false) := by
  refine returnsInHanded_of_change_sized (C := Try.checked) primNeeds_own started (by kernel_rfl) Try.func8
    (ChangeSpec.witness6 (enc := enc) (C := Try.checked) false ⟨#[], #[.slice none 0 0, .agg #[.int .i64 0, .string ByteArray.empty, .string ByteArray.empty, .int .i64 0, .slice none 0 0, .slice none 0 0]], []⟩ 8 (by kernel_rfl) (by kernel_rfl) (by kernel_rfl) (by kernel_rfl)) ?_
  intro W base args ds gs before hval0 hW hcnd hsz0 _
  have hval : ∀ (j : Nat) t v, Try.f8.params[j]? = some t → args[j]? = some v → Value.okWide Try.prog W .any base t v := hval0
  have hsz : (DataW.weightsEach Try.prog (Try.f8.params.toList ++ Rows.primNeedsSpec.plain.varTypes Try.prog) (ds ++ gs)).all (· ≤ reachBytes) = true := hsz0
  have hW' := hW
  obtain ⟨p, q, hA0, hV, rfl, hfz, hnd⟩ := hW
  have hA : DataW.TrodAll enc Try.prog W 0 (fun _ => true) true Try.f8.params.toList args.toList ds p := hA0
  rw [Try.params8] at hA hval hsz
  obtain ⟨v0, vs0, d0, ds0, p0, q0, hargs, rfl, rfl, h0, r0⟩ := trodAll_cons hA
  obtain ⟨v1, vs1, d1, ds1, p1, q1, rfl, rfl, rfl, h1, r1⟩ := trodAll_cons r0
  obtain ⟨rfl, rfl, rfl⟩ := trodAll_nil r1
  obtain rfl : args = #[v0, v1] := by cases args; simp_all
  obtain ⟨rfl, rfl⟩ := trodVars_none hV
  obtain ⟨a0, n0, c0, rfl⟩ := okWide_slice Try.underlying23 (hval 0 23 v0 rfl rfl)
  have k0 := h0
  have lt0 : ∀ x ∈ p0, x.block < W.heap.size := by obtain ⟨m, hm⟩ := k0; exact DataW.trod_lt m _ _ _ hm
  obtain ⟨l0, s0, z0⟩ : ∃ l, TreeArg W a0 n0 c0 l ∧ Wide l := by
    obtain ⟨fuel, hf⟩ := h0
    exact tree_wide hf (by simp [Value.cells]) (fun k hk => by have := List.all_eq_true.1 hsz _ (DataW.weights_mem_each (j := 0) rfl rfl k hk); simpa using this)
  have k1 := h1
  have lt1 : ∀ x ∈ p1, x.block < W.heap.size := by obtain ⟨m, hm⟩ := k1; exact DataW.trod_lt m _ _ _ hm
  obtain ⟨a1, n1, c1, b1, m1, e1, l1, rfl, s1⟩ := prim_in (hval 1 28 v1 rfl rfl) h1
  clear hA0 hval0 hsz hsz0
  refine (primNeeds_walk a0 n0 c0 l0 a1 n1 c1 b1 m1 e1 l1 W s0 z0 s1).mono fun e W' ⟨he, bel⟩ => ?_
  subst he
  exact ⟨_, rfl, _, _, _, [], _, [], hW', trodAll_mk1 (shut_bool Try.underlying4 _), (trodAll_cons_mk (Below.trod primNeeds_laidOut (by kernel_rfl) (of_decide_eq_true (by kernel_rfl)) k0 bel lt0) (trodAll_cons_mk (Below.trod primNeeds_laidOut (by kernel_rfl) (of_decide_eq_true (by kernel_rfl)) k1 bel lt1) trodAll_mk0)), rfl, bel.frame _, fun h => by cases h⟩

/-- The statement. -/
theorem primNeeds_proved : Rows.PrimNeedsSaid :=
  OpenClaim.holds_of_wide 8 Try.f8 rfl rfl rfl rfl rfl rfl rfl ⟨rfl, rfl, rfl, rfl, rfl⟩ rfl rfl rfl rfl rfl (by kernel_rfl) Try.func8 (by kernel_rfl)
    (of_decide_eq_true (by kernel_rfl)) (by unfold Func.isWrapper; first | (rw [if_pos (by decide +kernel)]; kernel_rfl) | (rw [if_neg (by decide +kernel)]; exact ⟨rfl, rfl⟩))
    (fun os started H enc _ => primNeeds_lifted os started H enc)

#print axioms primNeeds_proved
end Go.Proofs.Ytdjeebfbffoehaa
