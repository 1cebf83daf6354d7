/-
  The statement PrimBack: what a change changes it changes back, turned; turned twice it is itself, and it may be just if, turned, it may.
-/
import Derived.Test.YtdjeebfbffoehaaPrCall
import Derived.Test.YtdjeebfbffoehaaPrLaw
import Derived.OpenShut
import Derived.ShutString
import Derived.BigQuiet
namespace Go.Proofs.Ytdjeebfbffoehaa
open Go.RowKit
set_option linter.unusedVariables false
open Tr Tx Hk Pr
namespace PrL

set_option maxRecDepth 100000 in
set_option maxHeartbeats 4000000 in
theorem primBack_walk (A_t : Option Addr) (n_t c_t : Nat) (t : TR) (A_p : Option Addr) (n_p c_p : Nat) (B_p : Option Addr) (m_p d_p : Nat) (p : Ch) (w : World) (h_t : TreeArg w A_t n_t c_t t) (hw_t : Wide t) (h_p : PV w w.heap.size A_p n_p c_p B_p m_p d_p p) :
    Calls Try.prog 4 #[.slice A_t n_t c_t, prV p.k p.nm p.to p.h.pos A_p n_p c_p B_p m_p d_p] w (LawEnd w) := by
  have HT_t := Lib.hid h_t.rd; have HN_t := Lib.hid h_t.len; have HF_t := Lib.hid h_t.fit; have HC_t := Lib.hid h_t.le; have HW_t := Lib.hid hw_t
  have HV_p := Lib.hid h_p
  have HB := Lib.hid (Below.refl w.heap.size w)
  clear h_t hw_t h_p
  go_enter Try.func4, Try.ntmps4
  go_wp2_with fail
  have hb : Below w.heap.size w (World.alloc w (.cells #[.int .i64 p.k, strV p.nm, strV p.to, .int .i64 p.h.pos, .slice A_p n_p c_p, .slice B_p m_p d_p] 28)) := (Below.refl _ _).alloc (Nat.le_refl _) _
  have HK_p := Lib.hid (Blk.new w 28 #[.int .i64 p.k, strV p.nm, strV p.to, .int .i64 p.h.pos, .slice A_p n_p c_p, .slice B_p m_p d_p])
  generalize (World.alloc w (.cells #[.int .i64 p.k, strV p.nm, strV p.to, .int .i64 p.h.pos, .slice A_p n_p c_p, .slice B_p m_p d_p] 28)) = w1 at *
  replace HT_t := Lib.hid (HT_t.out.mv hb)
  replace HV_p := Lib.hid (HV_p.out.mv hb)
  replace HB := Lib.hid (below_mv HB.out hb)
  clear hb
  have x0_p : w1.cell? ⟨w.heap.size, 0, none⟩ = some (.int .i64 p.k) := HK_p.out.cell 0 rfl; have x1_p : w1.cell? ⟨w.heap.size, 1, none⟩ = some (strV p.nm) := HK_p.out.cell 1 rfl; have x2_p : w1.cell? ⟨w.heap.size, 2, none⟩ = some (strV p.to) := HK_p.out.cell 2 rfl; have x3_p : w1.cell? ⟨w.heap.size, 3, none⟩ = some (.int .i64 p.h.pos) := HK_p.out.cell 3 rfl; have x4_p : w1.cell? ⟨w.heap.size, 4, none⟩ = some (.slice A_p n_p c_p) := HK_p.out.cell 4 rfl; have x5_p : w1.cell? ⟨w.heap.size, 5, none⟩ = some (.slice B_p m_p d_p) := HK_p.out.cell 5 rfl
  refine (awake w1).mono ?_
  rintro e w2 ⟨rfl, hb⟩
  replace HT_t := Lib.hid (HT_t.out.mv hb)
  replace HV_p := Lib.hid (HV_p.out.mv hb)
  clear x0_p x1_p x2_p x3_p x4_p x5_p
  replace HK_p := Lib.hid (HK_p.out.below hb HK_p.out.lt)
  replace HB := Lib.hid (below_mv HB.out hb)
  clear hb
  have x0_p : w2.cell? ⟨w.heap.size, 0, none⟩ = some (.int .i64 p.k) := HK_p.out.cell 0 rfl; have x1_p : w2.cell? ⟨w.heap.size, 1, none⟩ = some (strV p.nm) := HK_p.out.cell 1 rfl; have x2_p : w2.cell? ⟨w.heap.size, 2, none⟩ = some (strV p.to) := HK_p.out.cell 2 rfl; have x3_p : w2.cell? ⟨w.heap.size, 3, none⟩ = some (.int .i64 p.h.pos) := HK_p.out.cell 3 rfl; have x4_p : w2.cell? ⟨w.heap.size, 4, none⟩ = some (.slice A_p n_p c_p) := HK_p.out.cell 4 rfl; have x5_p : w2.cell? ⟨w.heap.size, 5, none⟩ = some (.slice B_p m_p d_p) := HK_p.out.cell 5 rfl
  go_wp2_with fail
  refine (LightT A_t c_t n_t _ t _ HN_t.out HC_t.out HF_t.out HT_t.out).mono ?_
  rintro e w' ⟨rfl, rfl⟩
  obtain ⟨bt_t, hbl⟩ : ∃ b, lightT t = b := ⟨_, rfl⟩
  rw [hbl]
  have HBL_t := Lib.hid hbl; clear hbl
  obtain ⟨bl_p, hbl⟩ : ∃ b, lightP p = b := ⟨_, rfl⟩
  have HBL_p := Lib.hid hbl; clear hbl
  go_wp2_with fail
  refine (LightP A_p n_p c_p B_p m_p d_p _ p _ bl_p (Nat.le_refl _) HV_p.out HBL_p.out).mono ?_
  rintro e w3 ⟨rfl, hb⟩
  replace HT_t := Lib.hid (HT_t.out.mv hb)
  replace HV_p := Lib.hid (HV_p.out.mv hb)
  clear x0_p x1_p x2_p x3_p x4_p x5_p
  replace HK_p := Lib.hid (HK_p.out.below hb HK_p.out.lt)
  replace HB := Lib.hid (below_mv HB.out hb)
  clear hb
  have x0_p : w3.cell? ⟨w.heap.size, 0, none⟩ = some (.int .i64 p.k) := HK_p.out.cell 0 rfl; have x1_p : w3.cell? ⟨w.heap.size, 1, none⟩ = some (strV p.nm) := HK_p.out.cell 1 rfl; have x2_p : w3.cell? ⟨w.heap.size, 2, none⟩ = some (strV p.to) := HK_p.out.cell 2 rfl; have x3_p : w3.cell? ⟨w.heap.size, 3, none⟩ = some (.int .i64 p.h.pos) := HK_p.out.cell 3 rfl; have x4_p : w3.cell? ⟨w.heap.size, 4, none⟩ = some (.slice A_p n_p c_p) := HK_p.out.cell 4 rfl; have x5_p : w3.cell? ⟨w.heap.size, 5, none⟩ = some (.slice B_p m_p d_p) := HK_p.out.cell 5 rfl
  cases bt_t with
  | false =>
    go_wp2
    go_ret
    exact ⟨rfl, HB.out⟩
  | true =>
  have HS_t := Lib.hid (lightT_small HBL_t.out).2; have HK40_t := Lib.hid (lightT_small HBL_t.out).1; clear HF_t HC_t
  cases bl_p with
  | false =>
    go_wp2
    go_ret
    exact ⟨rfl, HB.out⟩
  | true =>
  have HLN_p := Lib.hid (HV_p.out.len HBL_p.out)
  cases hm : mayT t with
  | false =>
    go_wp2_with fail
    refine (MayC (b := false) HN_t.out HS_t.out HT_t.out hm).mono ?_
    rintro e w4 ⟨rfl, hb⟩
    replace HT_t := Lib.hid (HT_t.out.mv hb)
    replace HV_p := Lib.hid (HV_p.out.mv hb)
    clear x0_p x1_p x2_p x3_p x4_p x5_p
    replace HK_p := Lib.hid (HK_p.out.below hb HK_p.out.lt)
    replace HB := Lib.hid (below_mv HB.out hb)
    clear hb
    have x0_p : w4.cell? ⟨w.heap.size, 0, none⟩ = some (.int .i64 p.k) := HK_p.out.cell 0 rfl; have x1_p : w4.cell? ⟨w.heap.size, 1, none⟩ = some (strV p.nm) := HK_p.out.cell 1 rfl; have x2_p : w4.cell? ⟨w.heap.size, 2, none⟩ = some (strV p.to) := HK_p.out.cell 2 rfl; have x3_p : w4.cell? ⟨w.heap.size, 3, none⟩ = some (.int .i64 p.h.pos) := HK_p.out.cell 3 rfl; have x4_p : w4.cell? ⟨w.heap.size, 4, none⟩ = some (.slice A_p n_p c_p) := HK_p.out.cell 4 rfl; have x5_p : w4.cell? ⟨w.heap.size, 5, none⟩ = some (.slice B_p m_p d_p) := HK_p.out.cell 5 rfl
    go_wp2
    go_ret
    exact ⟨rfl, HB.out⟩
  | true =>
    have HUP := Lib.hid (mayT_up hm); have HM := Lib.hid hm; clear hm
    go_wp2_with fail
    refine (MayC (b := true) HN_t.out HS_t.out HT_t.out HM.out).mono ?_
    rintro e w4 ⟨rfl, hb⟩
    replace HT_t := Lib.hid (HT_t.out.mv hb)
    replace HV_p := Lib.hid (HV_p.out.mv hb)
    clear x0_p x1_p x2_p x3_p x4_p x5_p
    replace HK_p := Lib.hid (HK_p.out.below hb HK_p.out.lt)
    replace HB := Lib.hid (below_mv HB.out hb)
    clear hb
    have x0_p : w4.cell? ⟨w.heap.size, 0, none⟩ = some (.int .i64 p.k) := HK_p.out.cell 0 rfl; have x1_p : w4.cell? ⟨w.heap.size, 1, none⟩ = some (strV p.nm) := HK_p.out.cell 1 rfl; have x2_p : w4.cell? ⟨w.heap.size, 2, none⟩ = some (strV p.to) := HK_p.out.cell 2 rfl; have x3_p : w4.cell? ⟨w.heap.size, 3, none⟩ = some (.int .i64 p.h.pos) := HK_p.out.cell 3 rfl; have x4_p : w4.cell? ⟨w.heap.size, 4, none⟩ = some (.slice A_p n_p c_p) := HK_p.out.cell 4 rfl; have x5_p : w4.cell? ⟨w.heap.size, 5, none⟩ = some (.slice B_p m_p d_p) := HK_p.out.cell 5 rfl
    go_wp2_with fail
    obtain ⟨mp, hmp⟩ : ∃ b, mayP p = b := ⟨_, rfl⟩
    have HMP := Lib.hid hmp; clear hmp
    have HVD : Hid (PV w4.drew w4.drew.heap.size A_p n_p c_p B_p m_p d_p p) := Lib.hid (HV_p.out.drewN 1)
    have HKD : Hid (Blk w4.drew w.heap.size 28 #[.int .i64 p.k, strV p.nm, strV p.to, .int .i64 p.h.pos, .slice A_p n_p c_p, .slice B_p m_p d_p]) := Lib.hid (HK_p.out.drewN 1)
    have HBD : Hid (Below w.heap.size w w4.drew) := Lib.hid (below_drewN HB.out 1)
    have HED : Hid (Below w4.heap.size w4 w4.drew) := Lib.hid (below_drewN (Below.refl _ _) 1)
    have C1 := Lib.hid (TurnP A_p n_p c_p B_p m_p d_p p w4.drew HLN_p.out.1 HLN_p.out.2 HVD.out)
    have HQQ : Hid (sameP (turnP (turnP p)) p = true) := Lib.hid (by rw [turnP_turnP]; exact sameP_self p)
    have HMQ : Hid (mayP (turnP p) = mp) := Lib.hid (by rw [mayP_turn]; exact HMP.out)
    have HTL : Hid (∀ n m, (turnP p).h.old.length = n → (turnP p).h.new.length = m → n ≤ 1000 ∧ m ≤ 1000) := Lib.hid (fun n m h1 h2 => turn_len HLN_p.out HV_p.out h1 h2)
    obtain ⟨q1, hq1⟩ : ∃ q, turnP p = q := ⟨_, rfl⟩
    rw [hq1] at C1 HQQ HMQ HTL
    have HQ1 := Lib.hid hq1; clear hq1
    obtain ⟨q2, hq2⟩ : ∃ q, turnP q1 = q := ⟨_, rfl⟩
    rw [hq2] at HQQ
    have HQ2 := Lib.hid hq2; clear hq2
    go_region_held3 (fun w' => w'.cell? ⟨w.heap.size, 0, none⟩ = some (.int .i64 p.k) ∧ w'.cell? ⟨w.heap.size, 1, none⟩ = some (strV p.nm) ∧ w'.cell? ⟨w.heap.size, 2, none⟩ = some (strV p.to) ∧ w'.cell? ⟨w.heap.size, 3, none⟩ = some (.int .i64 p.h.pos) ∧ w'.cell? ⟨w.heap.size, 4, none⟩ = some (.slice A_p n_p c_p) ∧ w'.cell? ⟨w.heap.size, 5, none⟩ = some (.slice B_p m_p d_p))
      (first | go_keep | (exact ⟨ya0, ya1, ya2, ya3, ya4, ya5⟩) | (exact ⟨yb0, yb1, yb2, yb3, yb4, yb5⟩) | (exact ⟨yc0, yc1, yc2, yc3, yc4, yc5⟩) | (exact ⟨yd0, yd1, yd2, yd3, yd4, yd5⟩) | (exact ⟨ye0, ye1, ye2, ye3, ye4, ye5⟩) | (exact ⟨yf0, yf1, yf2, yf3, yf4, yf5⟩))
      (first
        | (go_at_call 16; (with_reducible refine C1.out.mono ?_); rintro e wa ⟨A1, n1, c1, B1, m1, d1, rfl, hv, hl1, hl2, hb⟩; have HLa := Lib.hid (HTL.out n1 m1 hl1 hl2); have HVq := Lib.hid hv; clear hv hl1 hl2; have bk := HKD.out.below hb HKD.out.lt; have ya0 : wa.cell? ⟨w.heap.size, 0, none⟩ = some (.int .i64 p.k) := bk.cell 0 rfl; have ya1 : wa.cell? ⟨w.heap.size, 1, none⟩ = some (strV p.nm) := bk.cell 1 rfl; have ya2 : wa.cell? ⟨w.heap.size, 2, none⟩ = some (strV p.to) := bk.cell 2 rfl; have ya3 : wa.cell? ⟨w.heap.size, 3, none⟩ = some (.int .i64 p.h.pos) := bk.cell 3 rfl; have ya4 : wa.cell? ⟨w.heap.size, 4, none⟩ = some (.slice A_p n_p c_p) := bk.cell 4 rfl; have ya5 : wa.cell? ⟨w.heap.size, 5, none⟩ = some (.slice B_p m_p d_p) := bk.cell 5 rfl; have HKwa := Lib.hid bk; have HVwa := Lib.hid (HVD.out.mv hb); have HBwa := Lib.hid (below_mv HBD.out hb); have HEwa := Lib.hid (below_mv HED.out hb); clear hb bk; have C2 := Lib.hid (TurnC HQ2.out HLa.out.1 HLa.out.2 HVq.out))
        | (go_at_call 16; (with_reducible refine C2.out.mono ?_); rintro e wb ⟨A2, n2, c2, B2, m2, d2, rfl, hv, hl1, hl2, hb⟩; have HVr := Lib.hid hv; clear hv hl1 hl2; have bk := HKwa.out.below hb HKwa.out.lt; have yb0 : wb.cell? ⟨w.heap.size, 0, none⟩ = some (.int .i64 p.k) := bk.cell 0 rfl; have yb1 : wb.cell? ⟨w.heap.size, 1, none⟩ = some (strV p.nm) := bk.cell 1 rfl; have yb2 : wb.cell? ⟨w.heap.size, 2, none⟩ = some (strV p.to) := bk.cell 2 rfl; have yb3 : wb.cell? ⟨w.heap.size, 3, none⟩ = some (.int .i64 p.h.pos) := bk.cell 3 rfl; have yb4 : wb.cell? ⟨w.heap.size, 4, none⟩ = some (.slice A_p n_p c_p) := bk.cell 4 rfl; have yb5 : wb.cell? ⟨w.heap.size, 5, none⟩ = some (.slice B_p m_p d_p) := bk.cell 5 rfl; have HKwb := Lib.hid bk; have HVwb := Lib.hid (HVwa.out.mv hb); have HBwb := Lib.hid (below_mv HBwa.out hb); have HEwb := Lib.hid (below_mv HEwa.out hb); clear hb bk; have C3 := Lib.hid (SameP A2 n2 c2 B2 m2 d2 A_p n_p c_p B_p m_p d_p q2 p wb true HVr.out HVwb.out HQQ.out))
        | (go_at_call 21; (with_reducible refine C3.out.mono ?_); rintro e wc ⟨rfl, hb⟩; have bk := HKwb.out.below hb HKwb.out.lt; have yc0 : wc.cell? ⟨w.heap.size, 0, none⟩ = some (.int .i64 p.k) := bk.cell 0 rfl; have yc1 : wc.cell? ⟨w.heap.size, 1, none⟩ = some (strV p.nm) := bk.cell 1 rfl; have yc2 : wc.cell? ⟨w.heap.size, 2, none⟩ = some (strV p.to) := bk.cell 2 rfl; have yc3 : wc.cell? ⟨w.heap.size, 3, none⟩ = some (.int .i64 p.h.pos) := bk.cell 3 rfl; have yc4 : wc.cell? ⟨w.heap.size, 4, none⟩ = some (.slice A_p n_p c_p) := bk.cell 4 rfl; have yc5 : wc.cell? ⟨w.heap.size, 5, none⟩ = some (.slice B_p m_p d_p) := bk.cell 5 rfl; have HKwc := Lib.hid bk; have HVwc := Lib.hid (HVwb.out.mv hb); have HBwc := Lib.hid (below_mv HBwb.out hb); have HEwc := Lib.hid (below_mv HEwb.out hb); clear hb bk; have C4 := Lib.hid (TurnC HQ1.out HLN_p.out.1 HLN_p.out.2 HVwc.out))
        | (go_at_call 16; (with_reducible refine C4.out.mono ?_); rintro e wd ⟨A4, n4, c4, B4, m4, d4, rfl, hv, hl1, hl2, hb⟩; have HVs := Lib.hid hv; clear hv hl1 hl2; have bk := HKwc.out.below hb HKwc.out.lt; have yd0 : wd.cell? ⟨w.heap.size, 0, none⟩ = some (.int .i64 p.k) := bk.cell 0 rfl; have yd1 : wd.cell? ⟨w.heap.size, 1, none⟩ = some (strV p.nm) := bk.cell 1 rfl; have yd2 : wd.cell? ⟨w.heap.size, 2, none⟩ = some (strV p.to) := bk.cell 2 rfl; have yd3 : wd.cell? ⟨w.heap.size, 3, none⟩ = some (.int .i64 p.h.pos) := bk.cell 3 rfl; have yd4 : wd.cell? ⟨w.heap.size, 4, none⟩ = some (.slice A_p n_p c_p) := bk.cell 4 rfl; have yd5 : wd.cell? ⟨w.heap.size, 5, none⟩ = some (.slice B_p m_p d_p) := bk.cell 5 rfl; have HKwd := Lib.hid bk; have HVwd := Lib.hid (HVwc.out.mv hb); have HBwd := Lib.hid (below_mv HBwc.out hb); have HEwd := Lib.hid (below_mv HEwc.out hb); clear hb bk; have C5 := Lib.hid (MayP A4 n4 c4 B4 m4 d4 q1 wd mp HVs.out HMQ.out))
        | (go_at_call 20; (with_reducible refine C5.out.mono ?_); rintro e we ⟨rfl, hb⟩; have bk := HKwd.out.below hb HKwd.out.lt; have ye0 : we.cell? ⟨w.heap.size, 0, none⟩ = some (.int .i64 p.k) := bk.cell 0 rfl; have ye1 : we.cell? ⟨w.heap.size, 1, none⟩ = some (strV p.nm) := bk.cell 1 rfl; have ye2 : we.cell? ⟨w.heap.size, 2, none⟩ = some (strV p.to) := bk.cell 2 rfl; have ye3 : we.cell? ⟨w.heap.size, 3, none⟩ = some (.int .i64 p.h.pos) := bk.cell 3 rfl; have ye4 : we.cell? ⟨w.heap.size, 4, none⟩ = some (.slice A_p n_p c_p) := bk.cell 4 rfl; have ye5 : we.cell? ⟨w.heap.size, 5, none⟩ = some (.slice B_p m_p d_p) := bk.cell 5 rfl; have HKwe := Lib.hid bk; have HVwe := Lib.hid (HVwd.out.mv hb); have HBwe := Lib.hid (below_mv HBwd.out hb); have HEwe := Lib.hid (below_mv HEwd.out hb); clear hb bk; have C6 := Lib.hid (MayP A_p n_p c_p B_p m_p d_p p we mp HVwe.out HMP.out))
        | (go_at_call 20; (with_reducible refine C6.out.mono ?_); rintro e wf ⟨rfl, hb⟩; have bk := HKwe.out.below hb HKwe.out.lt; have yf0 : wf.cell? ⟨w.heap.size, 0, none⟩ = some (.int .i64 p.k) := bk.cell 0 rfl; have yf1 : wf.cell? ⟨w.heap.size, 1, none⟩ = some (strV p.nm) := bk.cell 1 rfl; have yf2 : wf.cell? ⟨w.heap.size, 2, none⟩ = some (strV p.to) := bk.cell 2 rfl; have yf3 : wf.cell? ⟨w.heap.size, 3, none⟩ = some (.int .i64 p.h.pos) := bk.cell 3 rfl; have yf4 : wf.cell? ⟨w.heap.size, 4, none⟩ = some (.slice A_p n_p c_p) := bk.cell 4 rfl; have yf5 : wf.cell? ⟨w.heap.size, 5, none⟩ = some (.slice B_p m_p d_p) := bk.cell 5 rfl; have HKwf := Lib.hid bk; have HVwf := Lib.hid (HVwe.out.mv hb); have HBwf := Lib.hid (below_mv HBwe.out hb); have HEwf := Lib.hid (below_mv HEwe.out hb); clear hb bk))
    clear x0_p x1_p x2_p x3_p x4_p x5_p
    replace HT_t := Lib.hid (HT_t.out.mv HEwf.out); replace HV_p := HVwf; replace HK_p := HKwf; replace HB := HBwf
    clear HVD HKD HBD HED C1 C2 C3 C4 C5 C6 HVq HVr HVs HVwa HVwb HVwc HVwd HVwe HVwf HKwa HKwb HKwc HKwd HKwe HKwf HBwa HBwb HBwc HBwd HBwe HBwf HEwa HEwb HEwc HEwd HEwe HEwf HLa ya0 ya1 ya2 ya3 ya4 ya5 yb0 yb1 yb2 yb3 yb4 yb5 yc0 yc1 yc2 yc3 yc4 yc5 yd0 yd1 yd2 yd3 yd4 yd5 ye0 ye1 ye2 ye3 ye4 ye5 yf0 yf1 yf2 yf3 yf4 yf5
    skip
    have x0_p : wf.cell? ⟨w.heap.size, 0, none⟩ = some (.int .i64 p.k) := HK_p.out.cell 0 rfl; have x1_p : wf.cell? ⟨w.heap.size, 1, none⟩ = some (strV p.nm) := HK_p.out.cell 1 rfl; have x2_p : wf.cell? ⟨w.heap.size, 2, none⟩ = some (strV p.to) := HK_p.out.cell 2 rfl; have x3_p : wf.cell? ⟨w.heap.size, 3, none⟩ = some (.int .i64 p.h.pos) := HK_p.out.cell 3 rfl; have x4_p : wf.cell? ⟨w.heap.size, 4, none⟩ = some (.slice A_p n_p c_p) := HK_p.out.cell 4 rfl; have x5_p : wf.cell? ⟨w.heap.size, 5, none⟩ = some (.slice B_p m_p d_p) := HK_p.out.cell 5 rfl
    obtain ⟨⟨r, u⟩, hD⟩ : ∃ D, doP t p = D := ⟨_, rfl⟩
    have HD_u := Lib.hid hD
    clear hD
    obtain ⟨n_u, hn⟩ : ∃ k, u.length = k := ⟨_, rfl⟩
    have HN_u := Lib.hid hn
    clear hn
    go_wp2_with fail
    refine (ApplyC HW_t.out HN_t.out HT_t.out HV_p.out HD_u.out HN_u.out).mono ?_
    rintro e w91 ⟨A_u, c_u, rfl, hc, hr, hb⟩
    replace HT_t := Lib.hid (HT_t.out.mv hb)
    replace HV_p := Lib.hid (HV_p.out.mv hb)
    clear x0_p x1_p x2_p x3_p x4_p x5_p
    replace HK_p := Lib.hid (HK_p.out.below hb HK_p.out.lt)
    replace HB := Lib.hid (below_mv HB.out hb)
    clear hb
    have x0_p : w91.cell? ⟨w.heap.size, 0, none⟩ = some (.int .i64 p.k) := HK_p.out.cell 0 rfl; have x1_p : w91.cell? ⟨w.heap.size, 1, none⟩ = some (strV p.nm) := HK_p.out.cell 1 rfl; have x2_p : w91.cell? ⟨w.heap.size, 2, none⟩ = some (strV p.to) := HK_p.out.cell 2 rfl; have x3_p : w91.cell? ⟨w.heap.size, 3, none⟩ = some (.int .i64 p.h.pos) := HK_p.out.cell 3 rfl; have x4_p : w91.cell? ⟨w.heap.size, 4, none⟩ = some (.slice A_p n_p c_p) := HK_p.out.cell 4 rfl; have x5_p : w91.cell? ⟨w.heap.size, 5, none⟩ = some (.slice B_p m_p d_p) := HK_p.out.cell 5 rfl
    have HT_u := Lib.hid hr; clear hr hc
    have HSU := Lib.hid (doP_small HBL_t.out HBL_p.out HD_u.out)
    have HS_u := Lib.hid HSU.out.1
    have HW_u := Lib.hid HS_u.out.wide
    by_cases h0 : r = 0
    case neg =>
      have e0 : (r == 0) = false := by rw [beq_eq_false_iff_ne]; exact h0
      have h1 := doP_none (t := t) (p := p) (by rw [HD_u.out]; exact h0)
      rw [HD_u.out] at h1
      have hz : n_u = 0 := by rw [← HN_u.out]; show u.length = 0; rw [show u = [] from h1]; rfl
      subst hz
      go_wp2
      go_ret
      exact ⟨rfl, HB.out⟩
    subst h0
    have HBK := Lib.hid (doP_back HUP.out HD_u.out)
    rw [HQ1.out] at HBK
    go_wp2_with fail
    refine (TurnC HQ1.out HLN_p.out.1 HLN_p.out.2 HV_p.out).mono ?_
    rintro e w92 ⟨A_q, n_q, c_q, B_q, m_q, d_q, rfl, hv, hl1, hl2, hb⟩
    replace HT_t := Lib.hid (HT_t.out.mv hb)
    replace HT_u := Lib.hid (HT_u.out.mv hb)
    replace HV_p := Lib.hid (HV_p.out.mv hb)
    clear x0_p x1_p x2_p x3_p x4_p x5_p
    replace HK_p := Lib.hid (HK_p.out.below hb HK_p.out.lt)
    replace HB := Lib.hid (below_mv HB.out hb)
    clear hb
    have x0_p : w92.cell? ⟨w.heap.size, 0, none⟩ = some (.int .i64 p.k) := HK_p.out.cell 0 rfl; have x1_p : w92.cell? ⟨w.heap.size, 1, none⟩ = some (strV p.nm) := HK_p.out.cell 1 rfl; have x2_p : w92.cell? ⟨w.heap.size, 2, none⟩ = some (strV p.to) := HK_p.out.cell 2 rfl; have x3_p : w92.cell? ⟨w.heap.size, 3, none⟩ = some (.int .i64 p.h.pos) := HK_p.out.cell 3 rfl; have x4_p : w92.cell? ⟨w.heap.size, 4, none⟩ = some (.slice A_p n_p c_p) := HK_p.out.cell 4 rfl; have x5_p : w92.cell? ⟨w.heap.size, 5, none⟩ = some (.slice B_p m_p d_p) := HK_p.out.cell 5 rfl
    have HV_q := Lib.hid hv; clear hv hl1 hl2
    go_wp2_with fail
    refine (ApplyC HW_u.out HN_u.out HT_u.out HV_q.out HBK.out HN_t.out).mono ?_
    rintro e w93 ⟨A_v, c_v, rfl, hc, hr, hb⟩
    replace HT_t := Lib.hid (HT_t.out.mv hb)
    replace HT_u := Lib.hid (HT_u.out.mv hb)
    replace HV_p := Lib.hid (HV_p.out.mv hb)
    replace HV_q := Lib.hid (HV_q.out.mv hb)
    clear x0_p x1_p x2_p x3_p x4_p x5_p
    replace HK_p := Lib.hid (HK_p.out.below hb HK_p.out.lt)
    replace HB := Lib.hid (below_mv HB.out hb)
    clear hb
    have x0_p : w93.cell? ⟨w.heap.size, 0, none⟩ = some (.int .i64 p.k) := HK_p.out.cell 0 rfl; have x1_p : w93.cell? ⟨w.heap.size, 1, none⟩ = some (strV p.nm) := HK_p.out.cell 1 rfl; have x2_p : w93.cell? ⟨w.heap.size, 2, none⟩ = some (strV p.to) := HK_p.out.cell 2 rfl; have x3_p : w93.cell? ⟨w.heap.size, 3, none⟩ = some (.int .i64 p.h.pos) := HK_p.out.cell 3 rfl; have x4_p : w93.cell? ⟨w.heap.size, 4, none⟩ = some (.slice A_p n_p c_p) := HK_p.out.cell 4 rfl; have x5_p : w93.cell? ⟨w.heap.size, 5, none⟩ = some (.slice B_p m_p d_p) := HK_p.out.cell 5 rfl
    have HT_v := Lib.hid hr; clear hr hc
    go_wp2_with fail
    refine (SameC (b := true) HN_t.out HN_t.out HS_t.out HT_v.out HT_t.out (decide_eq_true rfl)).mono ?_
    rintro e w94 ⟨rfl, hb⟩
    replace HT_t := Lib.hid (HT_t.out.mv hb)
    replace HT_u := Lib.hid (HT_u.out.mv hb)
    replace HT_v := Lib.hid (HT_v.out.mv hb)
    replace HV_p := Lib.hid (HV_p.out.mv hb)
    replace HV_q := Lib.hid (HV_q.out.mv hb)
    clear x0_p x1_p x2_p x3_p x4_p x5_p
    replace HK_p := Lib.hid (HK_p.out.below hb HK_p.out.lt)
    replace HB := Lib.hid (below_mv HB.out hb)
    clear hb
    have x0_p : w94.cell? ⟨w.heap.size, 0, none⟩ = some (.int .i64 p.k) := HK_p.out.cell 0 rfl; have x1_p : w94.cell? ⟨w.heap.size, 1, none⟩ = some (strV p.nm) := HK_p.out.cell 1 rfl; have x2_p : w94.cell? ⟨w.heap.size, 2, none⟩ = some (strV p.to) := HK_p.out.cell 2 rfl; have x3_p : w94.cell? ⟨w.heap.size, 3, none⟩ = some (.int .i64 p.h.pos) := HK_p.out.cell 3 rfl; have x4_p : w94.cell? ⟨w.heap.size, 4, none⟩ = some (.slice A_p n_p c_p) := HK_p.out.cell 4 rfl; have x5_p : w94.cell? ⟨w.heap.size, 5, none⟩ = some (.slice B_p m_p d_p) := HK_p.out.cell 5 rfl
    go_wp2
    go_ret
    exact ⟨rfl, HB.out⟩

end PrL
open PrL
open Tx
open Go.ChangeShapes Go.WideShapes Go.ChangeAt

theorem primBack_own : ownKnob Try.prog.godebug = none := by kernel_rfl
theorem primBack_laidOut : laidOutB Try.prog = true := by kernel_rfl

set_option maxRecDepth 100000 in
theorem primBack_lifted (os : Os) (started : os.Started) (H : Type) (enc : TypeId × Value → H) :
    ReturnsInHanded {} Try.checked os 4 .any (Rows.primBackSpec.pre6 enc Try.prog Try.f4 Rows.primBackRow.domain false) (Rows.primBackSpec.post enc Try.prog Try.f4 false true false false) := by
  refine returnsInHanded_of_change_sized (C := Try.checked) primBack_own started (by kernel_rfl) Try.func4
    (ChangeSpec.witness6 (enc := enc) (C := Try.checked) false ⟨#[], #[.slice none 0 0, .agg #[.int .i64 0, .string ByteArray.empty, .string ByteArray.empty, .int .i64 0, .slice none 0 0, .slice none 0 0]], []⟩ 8 (by kernel_rfl) (by kernel_rfl) (by kernel_rfl) (by kernel_rfl)) ?_
  intro W base args ds gs before hval0 hW hcnd hsz0 _
  have hval : ∀ (j : Nat) t v, Try.f4.params[j]? = some t → args[j]? = some v → Value.okWide Try.prog W .any base t v := hval0
  have hsz : (DataW.weightsEach Try.prog (Try.f4.params.toList ++ Rows.primBackSpec.plain.varTypes Try.prog) (ds ++ gs)).all (· ≤ reachBytes) = true := hsz0
  have hW' := hW
  obtain ⟨p, q, hA0, hV, rfl, hfz, hnd⟩ := hW
  have hA : DataW.TrodAll enc Try.prog W 0 (fun _ => true) true Try.f4.params.toList args.toList ds p := hA0
  rw [Try.params4] at hA hval hsz
  obtain ⟨v0, vs0, d0, ds0, p0, q0, hargs, rfl, rfl, h0, r0⟩ := trodAll_cons hA
  obtain ⟨v1, vs1, d1, ds1, p1, q1, rfl, rfl, rfl, h1, r1⟩ := trodAll_cons r0
  obtain ⟨rfl, rfl, rfl⟩ := trodAll_nil r1
  obtain rfl : args = #[v0, v1] := by cases args; simp_all
  obtain ⟨rfl, rfl⟩ := trodVars_none hV
  obtain ⟨a0, n0, c0, rfl⟩ := okWide_slice Try.underlying23 (hval 0 23 v0 rfl rfl)
  have k0 := h0
  have lt0 : ∀ x ∈ p0, x.block < W.heap.size := by obtain ⟨m, hm⟩ := k0; exact DataW.trod_lt m _ _ _ hm
  obtain ⟨l0, s0, z0⟩ : ∃ l, TreeArg W a0 n0 c0 l ∧ Wide l := by
    obtain ⟨fuel, hf⟩ := h0
    exact tree_wide hf (by simp [Value.cells]) (fun k hk => by have := List.all_eq_true.1 hsz _ (DataW.weights_mem_each (j := 0) rfl rfl k hk); simpa using this)
  have k1 := h1
  have lt1 : ∀ x ∈ p1, x.block < W.heap.size := by obtain ⟨m, hm⟩ := k1; exact DataW.trod_lt m _ _ _ hm
  obtain ⟨a1, n1, c1, b1, m1, e1, l1, rfl, s1⟩ := prim_in (hval 1 28 v1 rfl rfl) h1
  clear hA0 hval0 hsz hsz0
  refine (primBack_walk a0 n0 c0 l0 a1 n1 c1 b1 m1 e1 l1 W s0 z0 s1).mono fun e W' ⟨he, bel⟩ => ?_
  subst he
  exact ⟨_, rfl, _, _, _, [], _, [], hW', trodAll_mk1 (shut_bool Try.underlying4 _), (trodAll_cons_mk (Below.trod primBack_laidOut (by kernel_rfl) (of_decide_eq_true (by kernel_rfl)) k0 bel lt0) (trodAll_cons_mk (Below.trod primBack_laidOut (by kernel_rfl) (of_decide_eq_true (by kernel_rfl)) k1 bel lt1) trodAll_mk0)), rfl, bel.frame _, fun h => by cases h⟩

/-- The statement. -/
theorem primBack_proved : Rows.PrimBackSaid :=
  OpenClaim.holds_of_wide 4 Try.f4 rfl rfl rfl rfl rfl rfl rfl ⟨rfl, rfl, rfl, rfl, rfl⟩ rfl rfl rfl rfl rfl (by kernel_rfl) Try.func4 (by kernel_rfl)
    (of_decide_eq_true (by kernel_rfl)) (by unfold Func.isWrapper; first | (rw [if_pos (by decide +kernel)]; kernel_rfl) | (rw [if_neg (by decide +kernel)]; exact ⟨rfl, rfl⟩))
    (fun os started H enc _ => primBack_lifted os started H enc)

#print axioms primBack_proved
end Go.Proofs.Ytdjeebfbffoehaa
