/-
  The statement PrimTells: whether any change may be, what any tree becomes by it, how it is turned, whether it changes nothing, and whether two are the same, is what the document says.
-/
import Derived.Test.YtdjeebfbffoehaaPrCall
import Derived.Test.YtdjeebfbffoehaaPrLaw
import Derived.OpenShut
import Derived.ShutString
import Derived.BigQuiet
namespace Go.Proofs.Ytdjeebfbffoehaa
open Go.RowKit
set_option linter.unusedVariables false
open Tr Tx Hk Pr
namespace PrL

set_option maxRecDepth 100000 in
set_option maxHeartbeats 4000000 in
theorem primTells_walk (A_t : Option Addr) (n_t c_t : Nat) (t : TR) (A_p : Option Addr) (n_p c_p : Nat) (B_p : Option Addr) (m_p d_p : Nat) (p : Ch) (A_q : Option Addr) (n_q c_q : Nat) (B_q : Option Addr) (m_q d_q : Nat) (q : Ch) (w : World) (h_t : TreeArg w A_t n_t c_t t) (hw_t : Wide t) (h_p : PV w w.heap.size A_p n_p c_p B_p m_p d_p p) (h_q : PV w w.heap.size A_q n_q c_q B_q m_q d_q q) :
    Calls Try.prog 3 #[.slice A_t n_t c_t, prV p.k p.nm p.to p.h.pos A_p n_p c_p B_p m_p d_p, prV q.k q.nm q.to q.h.pos A_q n_q c_q B_q m_q d_q] w (LawEnd w) := by
  have HT_t := Lib.hid h_t.rd; have HN_t := Lib.hid h_t.len; have HF_t := Lib.hid h_t.fit; have HC_t := Lib.hid h_t.le; have HW_t := Lib.hid hw_t
  have HV_p := Lib.hid h_p
  have HV_q := Lib.hid h_q
  have HB := Lib.hid (Below.refl w.heap.size w)
  clear h_t hw_t h_p h_q
  go_enter Try.func3, Try.ntmps3
  go_wp2_with fail
  have hb : Below w.heap.size w (World.alloc (World.alloc w (.cells #[.int .i64 p.k, strV p.nm, strV p.to, .int .i64 p.h.pos, .slice A_p n_p c_p, .slice B_p m_p d_p] 28)) (.cells #[.int .i64 q.k, strV q.nm, strV q.to, .int .i64 q.h.pos, .slice A_q n_q c_q, .slice B_q m_q d_q] 28)) := two_box _ _ _
  have b_p := (Blk.new w 28 #[.int .i64 p.k, strV p.nm, strV p.to, .int .i64 p.h.pos, .slice A_p n_p c_p, .slice B_p m_p d_p]).alloc (.cells #[.int .i64 q.k, strV q.nm, strV q.to, .int .i64 q.h.pos, .slice A_q n_q c_q, .slice B_q m_q d_q] 28)
  have b_q := Blk.new (World.alloc w (.cells #[.int .i64 p.k, strV p.nm, strV p.to, .int .i64 p.h.pos, .slice A_p n_p c_p, .slice B_p m_p d_p] 28)) 28 #[.int .i64 q.k, strV q.nm, strV q.to, .int .i64 q.h.pos, .slice A_q n_q c_q, .slice B_q m_q d_q]
  simp only [World.size_alloc] at b_q
  have HK_p := Lib.hid b_p; have HK_q := Lib.hid b_q
  clear b_p b_q
  generalize (World.alloc (World.alloc w (.cells #[.int .i64 p.k, strV p.nm, strV p.to, .int .i64 p.h.pos, .slice A_p n_p c_p, .slice B_p m_p d_p] 28)) (.cells #[.int .i64 q.k, strV q.nm, strV q.to, .int .i64 q.h.pos, .slice A_q n_q c_q, .slice B_q m_q d_q] 28)) = w1 at *
  replace HT_t := Lib.hid (HT_t.out.mv hb)
  replace HV_p := Lib.hid (HV_p.out.mv hb)
  replace HV_q := Lib.hid (HV_q.out.mv hb)
  replace HB := Lib.hid (below_mv HB.out hb)
  clear hb
  have x0_p : w1.cell? ⟨w.heap.size, 0, none⟩ = some (.int .i64 p.k) := HK_p.out.cell 0 rfl; have x1_p : w1.cell? ⟨w.heap.size, 1, none⟩ = some (strV p.nm) := HK_p.out.cell 1 rfl; have x2_p : w1.cell? ⟨w.heap.size, 2, none⟩ = some (strV p.to) := HK_p.out.cell 2 rfl; have x3_p : w1.cell? ⟨w.heap.size, 3, none⟩ = some (.int .i64 p.h.pos) := HK_p.out.cell 3 rfl; have x4_p : w1.cell? ⟨w.heap.size, 4, none⟩ = some (.slice A_p n_p c_p) := HK_p.out.cell 4 rfl; have x5_p : w1.cell? ⟨w.heap.size, 5, none⟩ = some (.slice B_p m_p d_p) := HK_p.out.cell 5 rfl
  have x0_q : w1.cell? ⟨w.heap.size + 1, 0, none⟩ = some (.int .i64 q.k) := HK_q.out.cell 0 rfl; have x1_q : w1.cell? ⟨w.heap.size + 1, 1, none⟩ = some (strV q.nm) := HK_q.out.cell 1 rfl; have x2_q : w1.cell? ⟨w.heap.size + 1, 2, none⟩ = some (strV q.to) := HK_q.out.cell 2 rfl; have x3_q : w1.cell? ⟨w.heap.size + 1, 3, none⟩ = some (.int .i64 q.h.pos) := HK_q.out.cell 3 rfl; have x4_q : w1.cell? ⟨w.heap.size + 1, 4, none⟩ = some (.slice A_q n_q c_q) := HK_q.out.cell 4 rfl; have x5_q : w1.cell? ⟨w.heap.size + 1, 5, none⟩ = some (.slice B_q m_q d_q) := HK_q.out.cell 5 rfl
  refine (awake w1).mono ?_
  rintro e w2 ⟨rfl, hb⟩
  replace HT_t := Lib.hid (HT_t.out.mv hb)
  replace HV_p := Lib.hid (HV_p.out.mv hb)
  replace HV_q := Lib.hid (HV_q.out.mv hb)
  clear x0_p x1_p x2_p x3_p x4_p x5_p
  clear x0_q x1_q x2_q x3_q x4_q x5_q
  replace HK_p := Lib.hid (HK_p.out.below hb HK_p.out.lt)
  replace HK_q := Lib.hid (HK_q.out.below hb HK_q.out.lt)
  replace HB := Lib.hid (below_mv HB.out hb)
  clear hb
  have x0_p : w2.cell? ⟨w.heap.size, 0, none⟩ = some (.int .i64 p.k) := HK_p.out.cell 0 rfl; have x1_p : w2.cell? ⟨w.heap.size, 1, none⟩ = some (strV p.nm) := HK_p.out.cell 1 rfl; have x2_p : w2.cell? ⟨w.heap.size, 2, none⟩ = some (strV p.to) := HK_p.out.cell 2 rfl; have x3_p : w2.cell? ⟨w.heap.size, 3, none⟩ = some (.int .i64 p.h.pos) := HK_p.out.cell 3 rfl; have x4_p : w2.cell? ⟨w.heap.size, 4, none⟩ = some (.slice A_p n_p c_p) := HK_p.out.cell 4 rfl; have x5_p : w2.cell? ⟨w.heap.size, 5, none⟩ = some (.slice B_p m_p d_p) := HK_p.out.cell 5 rfl
  have x0_q : w2.cell? ⟨w.heap.size + 1, 0, none⟩ = some (.int .i64 q.k) := HK_q.out.cell 0 rfl; have x1_q : w2.cell? ⟨w.heap.size + 1, 1, none⟩ = some (strV q.nm) := HK_q.out.cell 1 rfl; have x2_q : w2.cell? ⟨w.heap.size + 1, 2, none⟩ = some (strV q.to) := HK_q.out.cell 2 rfl; have x3_q : w2.cell? ⟨w.heap.size + 1, 3, none⟩ = some (.int .i64 q.h.pos) := HK_q.out.cell 3 rfl; have x4_q : w2.cell? ⟨w.heap.size + 1, 4, none⟩ = some (.slice A_q n_q c_q) := HK_q.out.cell 4 rfl; have x5_q : w2.cell? ⟨w.heap.size + 1, 5, none⟩ = some (.slice B_q m_q d_q) := HK_q.out.cell 5 rfl
  go_wp2_with fail
  refine (LightT A_t c_t n_t _ t _ HN_t.out HC_t.out HF_t.out HT_t.out).mono ?_
  rintro e w' ⟨rfl, rfl⟩
  obtain ⟨bt_t, hbl⟩ : ∃ b, lightT t = b := ⟨_, rfl⟩
  rw [hbl]
  have HBL_t := Lib.hid hbl; clear hbl
  obtain ⟨bl_p, hbl⟩ : ∃ b, lightP p = b := ⟨_, rfl⟩
  have HBL_p := Lib.hid hbl; clear hbl
  go_wp2_with fail
  refine (LightP A_p n_p c_p B_p m_p d_p _ p _ bl_p (Nat.le_refl _) HV_p.out HBL_p.out).mono ?_
  rintro e w3 ⟨rfl, hb⟩
  replace HT_t := Lib.hid (HT_t.out.mv hb)
  replace HV_p := Lib.hid (HV_p.out.mv hb)
  replace HV_q := Lib.hid (HV_q.out.mv hb)
  clear x0_p x1_p x2_p x3_p x4_p x5_p
  clear x0_q x1_q x2_q x3_q x4_q x5_q
  replace HK_p := Lib.hid (HK_p.out.below hb HK_p.out.lt)
  replace HK_q := Lib.hid (HK_q.out.below hb HK_q.out.lt)
  replace HB := Lib.hid (below_mv HB.out hb)
  clear hb
  have x0_p : w3.cell? ⟨w.heap.size, 0, none⟩ = some (.int .i64 p.k) := HK_p.out.cell 0 rfl; have x1_p : w3.cell? ⟨w.heap.size, 1, none⟩ = some (strV p.nm) := HK_p.out.cell 1 rfl; have x2_p : w3.cell? ⟨w.heap.size, 2, none⟩ = some (strV p.to) := HK_p.out.cell 2 rfl; have x3_p : w3.cell? ⟨w.heap.size, 3, none⟩ = some (.int .i64 p.h.pos) := HK_p.out.cell 3 rfl; have x4_p : w3.cell? ⟨w.heap.size, 4, none⟩ = some (.slice A_p n_p c_p) := HK_p.out.cell 4 rfl; have x5_p : w3.cell? ⟨w.heap.size, 5, none⟩ = some (.slice B_p m_p d_p) := HK_p.out.cell 5 rfl
  have x0_q : w3.cell? ⟨w.heap.size + 1, 0, none⟩ = some (.int .i64 q.k) := HK_q.out.cell 0 rfl; have x1_q : w3.cell? ⟨w.heap.size + 1, 1, none⟩ = some (strV q.nm) := HK_q.out.cell 1 rfl; have x2_q : w3.cell? ⟨w.heap.size + 1, 2, none⟩ = some (strV q.to) := HK_q.out.cell 2 rfl; have x3_q : w3.cell? ⟨w.heap.size + 1, 3, none⟩ = some (.int .i64 q.h.pos) := HK_q.out.cell 3 rfl; have x4_q : w3.cell? ⟨w.heap.size + 1, 4, none⟩ = some (.slice A_q n_q c_q) := HK_q.out.cell 4 rfl; have x5_q : w3.cell? ⟨w.heap.size + 1, 5, none⟩ = some (.slice B_q m_q d_q) := HK_q.out.cell 5 rfl
  obtain ⟨bl_q, hbl⟩ : ∃ b, lightP q = b := ⟨_, rfl⟩
  have HBL_q := Lib.hid hbl; clear hbl
  go_wp2_with fail
  refine (LightP A_q n_q c_q B_q m_q d_q _ q _ bl_q (Nat.le_refl _) HV_q.out HBL_q.out).mono ?_
  rintro e w4 ⟨rfl, hb⟩
  replace HT_t := Lib.hid (HT_t.out.mv hb)
  replace HV_p := Lib.hid (HV_p.out.mv hb)
  replace HV_q := Lib.hid (HV_q.out.mv hb)
  clear x0_p x1_p x2_p x3_p x4_p x5_p
  clear x0_q x1_q x2_q x3_q x4_q x5_q
  replace HK_p := Lib.hid (HK_p.out.below hb HK_p.out.lt)
  replace HK_q := Lib.hid (HK_q.out.below hb HK_q.out.lt)
  replace HB := Lib.hid (below_mv HB.out hb)
  clear hb
  have x0_p : w4.cell? ⟨w.heap.size, 0, none⟩ = some (.int .i64 p.k) := HK_p.out.cell 0 rfl; have x1_p : w4.cell? ⟨w.heap.size, 1, none⟩ = some (strV p.nm) := HK_p.out.cell 1 rfl; have x2_p : w4.cell? ⟨w.heap.size, 2, none⟩ = some (strV p.to) := HK_p.out.cell 2 rfl; have x3_p : w4.cell? ⟨w.heap.size, 3, none⟩ = some (.int .i64 p.h.pos) := HK_p.out.cell 3 rfl; have x4_p : w4.cell? ⟨w.heap.size, 4, none⟩ = some (.slice A_p n_p c_p) := HK_p.out.cell 4 rfl; have x5_p : w4.cell? ⟨w.heap.size, 5, none⟩ = some (.slice B_p m_p d_p) := HK_p.out.cell 5 rfl
  have x0_q : w4.cell? ⟨w.heap.size + 1, 0, none⟩ = some (.int .i64 q.k) := HK_q.out.cell 0 rfl; have x1_q : w4.cell? ⟨w.heap.size + 1, 1, none⟩ = some (strV q.nm) := HK_q.out.cell 1 rfl; have x2_q : w4.cell? ⟨w.heap.size + 1, 2, none⟩ = some (strV q.to) := HK_q.out.cell 2 rfl; have x3_q : w4.cell? ⟨w.heap.size + 1, 3, none⟩ = some (.int .i64 q.h.pos) := HK_q.out.cell 3 rfl; have x4_q : w4.cell? ⟨w.heap.size + 1, 4, none⟩ = some (.slice A_q n_q c_q) := HK_q.out.cell 4 rfl; have x5_q : w4.cell? ⟨w.heap.size + 1, 5, none⟩ = some (.slice B_q m_q d_q) := HK_q.out.cell 5 rfl
  cases bt_t with
  | false =>
    go_wp2
    go_ret
    exact ⟨rfl, HB.out⟩
  | true =>
  have HS_t := Lib.hid (lightT_small HBL_t.out).2; have HK40_t := Lib.hid (lightT_small HBL_t.out).1; clear HF_t HC_t
  cases bl_p with
  | false =>
    go_wp2
    go_ret
    exact ⟨rfl, HB.out⟩
  | true =>
  have HLN_p := Lib.hid (HV_p.out.len HBL_p.out)
  cases bl_q with
  | false =>
    go_wp2
    go_ret
    exact ⟨rfl, HB.out⟩
  | true =>
  have HLN_q := Lib.hid (HV_q.out.len HBL_q.out)
  obtain ⟨⟨r, u⟩, hD⟩ : ∃ D, doP t p = D := ⟨_, rfl⟩
  have HD_u := Lib.hid hD
  clear hD
  obtain ⟨n_u, hn⟩ : ∃ k, u.length = k := ⟨_, rfl⟩
  have HN_u := Lib.hid hn
  clear hn
  go_wp2_with fail
  refine (ApplyC HW_t.out HN_t.out HT_t.out HV_p.out HD_u.out HN_u.out).mono ?_
  rintro e w5 ⟨A_u, c_u, rfl, hc, hr, hb⟩
  replace HT_t := Lib.hid (HT_t.out.mv hb)
  replace HV_p := Lib.hid (HV_p.out.mv hb)
  replace HV_q := Lib.hid (HV_q.out.mv hb)
  clear x0_p x1_p x2_p x3_p x4_p x5_p
  clear x0_q x1_q x2_q x3_q x4_q x5_q
  replace HK_p := Lib.hid (HK_p.out.below hb HK_p.out.lt)
  replace HK_q := Lib.hid (HK_q.out.below hb HK_q.out.lt)
  replace HB := Lib.hid (below_mv HB.out hb)
  clear hb
  have x0_p : w5.cell? ⟨w.heap.size, 0, none⟩ = some (.int .i64 p.k) := HK_p.out.cell 0 rfl; have x1_p : w5.cell? ⟨w.heap.size, 1, none⟩ = some (strV p.nm) := HK_p.out.cell 1 rfl; have x2_p : w5.cell? ⟨w.heap.size, 2, none⟩ = some (strV p.to) := HK_p.out.cell 2 rfl; have x3_p : w5.cell? ⟨w.heap.size, 3, none⟩ = some (.int .i64 p.h.pos) := HK_p.out.cell 3 rfl; have x4_p : w5.cell? ⟨w.heap.size, 4, none⟩ = some (.slice A_p n_p c_p) := HK_p.out.cell 4 rfl; have x5_p : w5.cell? ⟨w.heap.size, 5, none⟩ = some (.slice B_p m_p d_p) := HK_p.out.cell 5 rfl
  have x0_q : w5.cell? ⟨w.heap.size + 1, 0, none⟩ = some (.int .i64 q.k) := HK_q.out.cell 0 rfl; have x1_q : w5.cell? ⟨w.heap.size + 1, 1, none⟩ = some (strV q.nm) := HK_q.out.cell 1 rfl; have x2_q : w5.cell? ⟨w.heap.size + 1, 2, none⟩ = some (strV q.to) := HK_q.out.cell 2 rfl; have x3_q : w5.cell? ⟨w.heap.size + 1, 3, none⟩ = some (.int .i64 q.h.pos) := HK_q.out.cell 3 rfl; have x4_q : w5.cell? ⟨w.heap.size + 1, 4, none⟩ = some (.slice A_q n_q c_q) := HK_q.out.cell 4 rfl; have x5_q : w5.cell? ⟨w.heap.size + 1, 5, none⟩ = some (.slice B_q m_q d_q) := HK_q.out.cell 5 rfl
  have HT_u := Lib.hid hr; clear hr hc
  have HSU := Lib.hid (doP_small HBL_t.out HBL_p.out HD_u.out)
  have HS_u := Lib.hid HSU.out.1
  go_wp2_with fail
  refine (refApplyC HBL_t.out HBL_p.out HN_t.out HT_t.out HV_p.out HD_u.out HN_u.out).mono ?_
  rintro e w6 ⟨A_v, c_v, rfl, hc, hr, hb⟩
  replace HT_t := Lib.hid (HT_t.out.mv hb)
  replace HT_u := Lib.hid (HT_u.out.mv hb)
  replace HV_p := Lib.hid (HV_p.out.mv hb)
  replace HV_q := Lib.hid (HV_q.out.mv hb)
  clear x0_p x1_p x2_p x3_p x4_p x5_p
  clear x0_q x1_q x2_q x3_q x4_q x5_q
  replace HK_p := Lib.hid (HK_p.out.below hb HK_p.out.lt)
  replace HK_q := Lib.hid (HK_q.out.below hb HK_q.out.lt)
  replace HB := Lib.hid (below_mv HB.out hb)
  clear hb
  have x0_p : w6.cell? ⟨w.heap.size, 0, none⟩ = some (.int .i64 p.k) := HK_p.out.cell 0 rfl; have x1_p : w6.cell? ⟨w.heap.size, 1, none⟩ = some (strV p.nm) := HK_p.out.cell 1 rfl; have x2_p : w6.cell? ⟨w.heap.size, 2, none⟩ = some (strV p.to) := HK_p.out.cell 2 rfl; have x3_p : w6.cell? ⟨w.heap.size, 3, none⟩ = some (.int .i64 p.h.pos) := HK_p.out.cell 3 rfl; have x4_p : w6.cell? ⟨w.heap.size, 4, none⟩ = some (.slice A_p n_p c_p) := HK_p.out.cell 4 rfl; have x5_p : w6.cell? ⟨w.heap.size, 5, none⟩ = some (.slice B_p m_p d_p) := HK_p.out.cell 5 rfl
  have x0_q : w6.cell? ⟨w.heap.size + 1, 0, none⟩ = some (.int .i64 q.k) := HK_q.out.cell 0 rfl; have x1_q : w6.cell? ⟨w.heap.size + 1, 1, none⟩ = some (strV q.nm) := HK_q.out.cell 1 rfl; have x2_q : w6.cell? ⟨w.heap.size + 1, 2, none⟩ = some (strV q.to) := HK_q.out.cell 2 rfl; have x3_q : w6.cell? ⟨w.heap.size + 1, 3, none⟩ = some (.int .i64 q.h.pos) := HK_q.out.cell 3 rfl; have x4_q : w6.cell? ⟨w.heap.size + 1, 4, none⟩ = some (.slice A_q n_q c_q) := HK_q.out.cell 4 rfl; have x5_q : w6.cell? ⟨w.heap.size + 1, 5, none⟩ = some (.slice B_q m_q d_q) := HK_q.out.cell 5 rfl
  have HT_v := Lib.hid hr; clear hr hc
  go_wp2_with fail
  refine (refSameTC (b := true) HN_u.out HN_u.out HS_u.out HT_u.out HT_v.out (decide_eq_true rfl)).mono ?_
  rintro e w7 ⟨rfl, hb⟩
  replace HT_t := Lib.hid (HT_t.out.mv hb)
  replace HT_u := Lib.hid (HT_u.out.mv hb)
  replace HT_v := Lib.hid (HT_v.out.mv hb)
  replace HV_p := Lib.hid (HV_p.out.mv hb)
  replace HV_q := Lib.hid (HV_q.out.mv hb)
  clear x0_p x1_p x2_p x3_p x4_p x5_p
  clear x0_q x1_q x2_q x3_q x4_q x5_q
  replace HK_p := Lib.hid (HK_p.out.below hb HK_p.out.lt)
  replace HK_q := Lib.hid (HK_q.out.below hb HK_q.out.lt)
  replace HB := Lib.hid (below_mv HB.out hb)
  clear hb
  have x0_p : w7.cell? ⟨w.heap.size, 0, none⟩ = some (.int .i64 p.k) := HK_p.out.cell 0 rfl; have x1_p : w7.cell? ⟨w.heap.size, 1, none⟩ = some (strV p.nm) := HK_p.out.cell 1 rfl; have x2_p : w7.cell? ⟨w.heap.size, 2, none⟩ = some (strV p.to) := HK_p.out.cell 2 rfl; have x3_p : w7.cell? ⟨w.heap.size, 3, none⟩ = some (.int .i64 p.h.pos) := HK_p.out.cell 3 rfl; have x4_p : w7.cell? ⟨w.heap.size, 4, none⟩ = some (.slice A_p n_p c_p) := HK_p.out.cell 4 rfl; have x5_p : w7.cell? ⟨w.heap.size, 5, none⟩ = some (.slice B_p m_p d_p) := HK_p.out.cell 5 rfl
  have x0_q : w7.cell? ⟨w.heap.size + 1, 0, none⟩ = some (.int .i64 q.k) := HK_q.out.cell 0 rfl; have x1_q : w7.cell? ⟨w.heap.size + 1, 1, none⟩ = some (strV q.nm) := HK_q.out.cell 1 rfl; have x2_q : w7.cell? ⟨w.heap.size + 1, 2, none⟩ = some (strV q.to) := HK_q.out.cell 2 rfl; have x3_q : w7.cell? ⟨w.heap.size + 1, 3, none⟩ = some (.int .i64 q.h.pos) := HK_q.out.cell 3 rfl; have x4_q : w7.cell? ⟨w.heap.size + 1, 4, none⟩ = some (.slice A_q n_q c_q) := HK_q.out.cell 4 rfl; have x5_q : w7.cell? ⟨w.heap.size + 1, 5, none⟩ = some (.slice B_q m_q d_q) := HK_q.out.cell 5 rfl
  go_wp2_with fail
  have HVD : Hid (PV w7.drew w7.drew.heap.size A_p n_p c_p B_p m_p d_p p) := Lib.hid (HV_p.out.drewN 1)
  have HKD : Hid (Blk w7.drew w.heap.size 28 #[.int .i64 p.k, strV p.nm, strV p.to, .int .i64 p.h.pos, .slice A_p n_p c_p, .slice B_p m_p d_p]) := Lib.hid (HK_p.out.drewN 1)
  have HED : Hid (Below w7.heap.size w7 w7.drew) := Lib.hid (below_drewN (Below.refl _ _) 1)
  obtain ⟨z, hz⟩ : ∃ z, turnP p = z := ⟨_, rfl⟩
  have HZ := Lib.hid hz; clear hz
  have C1 := Lib.hid (TurnC HZ.out HLN_p.out.1 HLN_p.out.2 HVD.out)
  go_region_held3 (fun w' => w'.cell? ⟨w.heap.size, 0, none⟩ = some (.int .i64 p.k) ∧ w'.cell? ⟨w.heap.size, 1, none⟩ = some (strV p.nm) ∧ w'.cell? ⟨w.heap.size, 2, none⟩ = some (strV p.to) ∧ w'.cell? ⟨w.heap.size, 3, none⟩ = some (.int .i64 p.h.pos) ∧ w'.cell? ⟨w.heap.size, 4, none⟩ = some (.slice A_p n_p c_p) ∧ w'.cell? ⟨w.heap.size, 5, none⟩ = some (.slice B_p m_p d_p))
    (first | go_keep | (exact ⟨ya0, ya1, ya2, ya3, ya4, ya5⟩) | (exact ⟨yb0, yb1, yb2, yb3, yb4, yb5⟩) | (exact ⟨yc0, yc1, yc2, yc3, yc4, yc5⟩))
    (first
      | (go_at_call 16; (with_reducible refine C1.out.mono ?_); rintro e wa ⟨A1, n1, c1, B1, m1, d1, rfl, hv, hl1, hl2, hb⟩; have HVq := Lib.hid hv; clear hv hl1 hl2; have bk := HKD.out.below hb HKD.out.lt; have ya0 : wa.cell? ⟨w.heap.size, 0, none⟩ = some (.int .i64 p.k) := bk.cell 0 rfl; have ya1 : wa.cell? ⟨w.heap.size, 1, none⟩ = some (strV p.nm) := bk.cell 1 rfl; have ya2 : wa.cell? ⟨w.heap.size, 2, none⟩ = some (strV p.to) := bk.cell 2 rfl; have ya3 : wa.cell? ⟨w.heap.size, 3, none⟩ = some (.int .i64 p.h.pos) := bk.cell 3 rfl; have ya4 : wa.cell? ⟨w.heap.size, 4, none⟩ = some (.slice A_p n_p c_p) := bk.cell 4 rfl; have ya5 : wa.cell? ⟨w.heap.size, 5, none⟩ = some (.slice B_p m_p d_p) := bk.cell 5 rfl; have HKwa := Lib.hid bk; have HVwa := Lib.hid (HVD.out.mv hb); have HEwa := Lib.hid (below_mv HED.out hb); clear hb bk; have C2 := Lib.hid (refTurnC HZ.out HVwa.out))
      | (go_at_call 17; (with_reducible refine C2.out.mono ?_); rintro e wb ⟨A2, n2, c2, B2, m2, d2, rfl, hv, hl1, hl2, hb⟩; have HVr := Lib.hid hv; clear hv hl1 hl2; have bk := HKwa.out.below hb HKwa.out.lt; have yb0 : wb.cell? ⟨w.heap.size, 0, none⟩ = some (.int .i64 p.k) := bk.cell 0 rfl; have yb1 : wb.cell? ⟨w.heap.size, 1, none⟩ = some (strV p.nm) := bk.cell 1 rfl; have yb2 : wb.cell? ⟨w.heap.size, 2, none⟩ = some (strV p.to) := bk.cell 2 rfl; have yb3 : wb.cell? ⟨w.heap.size, 3, none⟩ = some (.int .i64 p.h.pos) := bk.cell 3 rfl; have yb4 : wb.cell? ⟨w.heap.size, 4, none⟩ = some (.slice A_p n_p c_p) := bk.cell 4 rfl; have yb5 : wb.cell? ⟨w.heap.size, 5, none⟩ = some (.slice B_p m_p d_p) := bk.cell 5 rfl; have HKwb := Lib.hid bk; have HVwb := Lib.hid (HVwa.out.mv hb); have HEwb := Lib.hid (below_mv HEwa.out hb); have HVs := Lib.hid (HVq.out.mv hb); clear hb bk; have C3 := Lib.hid (refSameP A1 n1 c1 B1 m1 d1 A2 n2 c2 B2 m2 d2 _ z z wb true (Nat.le_refl _) HVs.out HVr.out (sameP_self z)))
      | (go_at_call 15; (with_reducible refine C3.out.mono ?_); rintro e wc ⟨rfl, hb⟩; have bk := HKwb.out.below hb HKwb.out.lt; have yc0 : wc.cell? ⟨w.heap.size, 0, none⟩ = some (.int .i64 p.k) := bk.cell 0 rfl; have yc1 : wc.cell? ⟨w.heap.size, 1, none⟩ = some (strV p.nm) := bk.cell 1 rfl; have yc2 : wc.cell? ⟨w.heap.size, 2, none⟩ = some (strV p.to) := bk.cell 2 rfl; have yc3 : wc.cell? ⟨w.heap.size, 3, none⟩ = some (.int .i64 p.h.pos) := bk.cell 3 rfl; have yc4 : wc.cell? ⟨w.heap.size, 4, none⟩ = some (.slice A_p n_p c_p) := bk.cell 4 rfl; have yc5 : wc.cell? ⟨w.heap.size, 5, none⟩ = some (.slice B_p m_p d_p) := bk.cell 5 rfl; have HKwc := Lib.hid bk; have HVwc := Lib.hid (HVwb.out.mv hb); have HEwc := Lib.hid (below_mv HEwb.out hb); clear hb bk))
  have hb := HEwc.out
  clear x0_p x1_p x2_p x3_p x4_p x5_p
  clear x0_q x1_q x2_q x3_q x4_q x5_q
  replace HT_t := Lib.hid (HT_t.out.mv hb); replace HV_p := Lib.hid (HV_p.out.mv hb); replace HV_q := Lib.hid (HV_q.out.mv hb); replace HK_p := Lib.hid (HK_p.out.below hb HK_p.out.lt); replace HK_q := Lib.hid (HK_q.out.below hb HK_q.out.lt); replace HB := Lib.hid (below_mv HB.out hb)
  clear hb HVD HKD HED C1 C2 C3 HVq HVr HVs HVwa HVwb HVwc HKwa HKwb HKwc HEwa HEwb HEwc ya0 ya1 ya2 ya3 ya4 ya5 yb0 yb1 yb2 yb3 yb4 yb5 yc0 yc1 yc2 yc3 yc4 yc5 HT_u HT_v HT_t
  have x0_p : wc.cell? ⟨w.heap.size, 0, none⟩ = some (.int .i64 p.k) := HK_p.out.cell 0 rfl; have x1_p : wc.cell? ⟨w.heap.size, 1, none⟩ = some (strV p.nm) := HK_p.out.cell 1 rfl; have x2_p : wc.cell? ⟨w.heap.size, 2, none⟩ = some (strV p.to) := HK_p.out.cell 2 rfl; have x3_p : wc.cell? ⟨w.heap.size, 3, none⟩ = some (.int .i64 p.h.pos) := HK_p.out.cell 3 rfl; have x4_p : wc.cell? ⟨w.heap.size, 4, none⟩ = some (.slice A_p n_p c_p) := HK_p.out.cell 4 rfl; have x5_p : wc.cell? ⟨w.heap.size, 5, none⟩ = some (.slice B_p m_p d_p) := HK_p.out.cell 5 rfl
  have x0_q : wc.cell? ⟨w.heap.size + 1, 0, none⟩ = some (.int .i64 q.k) := HK_q.out.cell 0 rfl; have x1_q : wc.cell? ⟨w.heap.size + 1, 1, none⟩ = some (strV q.nm) := HK_q.out.cell 1 rfl; have x2_q : wc.cell? ⟨w.heap.size + 1, 2, none⟩ = some (strV q.to) := HK_q.out.cell 2 rfl; have x3_q : wc.cell? ⟨w.heap.size + 1, 3, none⟩ = some (.int .i64 q.h.pos) := HK_q.out.cell 3 rfl; have x4_q : wc.cell? ⟨w.heap.size + 1, 4, none⟩ = some (.slice A_q n_q c_q) := HK_q.out.cell 4 rfl; have x5_q : wc.cell? ⟨w.heap.size + 1, 5, none⟩ = some (.slice B_q m_q d_q) := HK_q.out.cell 5 rfl
  obtain ⟨b1, hb1⟩ : ∃ b, mayP p = b := ⟨_, rfl⟩
  obtain ⟨b2, hb2⟩ : ∃ b, sameP p q = b := ⟨_, rfl⟩
  obtain ⟨b3, hb3⟩ : ∃ b, idleP p = b := ⟨_, rfl⟩
  have HB1 := Lib.hid hb1; have HB2 := Lib.hid hb2; have HB3 := Lib.hid hb3
  clear hb1 hb2 hb3
  go_wp2_with fail
  refine (refMayP A_p n_p c_p B_p m_p d_p _ p _ b1 (Nat.le_refl _) HV_p.out HB1.out).mono ?_
  rintro e w8 ⟨rfl, hb⟩
  replace HV_p := Lib.hid (HV_p.out.mv hb)
  replace HV_q := Lib.hid (HV_q.out.mv hb)
  clear x0_p x1_p x2_p x3_p x4_p x5_p
  clear x0_q x1_q x2_q x3_q x4_q x5_q
  replace HK_p := Lib.hid (HK_p.out.below hb HK_p.out.lt)
  replace HK_q := Lib.hid (HK_q.out.below hb HK_q.out.lt)
  replace HB := Lib.hid (below_mv HB.out hb)
  clear hb
  have x0_p : w8.cell? ⟨w.heap.size, 0, none⟩ = some (.int .i64 p.k) := HK_p.out.cell 0 rfl; have x1_p : w8.cell? ⟨w.heap.size, 1, none⟩ = some (strV p.nm) := HK_p.out.cell 1 rfl; have x2_p : w8.cell? ⟨w.heap.size, 2, none⟩ = some (strV p.to) := HK_p.out.cell 2 rfl; have x3_p : w8.cell? ⟨w.heap.size, 3, none⟩ = some (.int .i64 p.h.pos) := HK_p.out.cell 3 rfl; have x4_p : w8.cell? ⟨w.heap.size, 4, none⟩ = some (.slice A_p n_p c_p) := HK_p.out.cell 4 rfl; have x5_p : w8.cell? ⟨w.heap.size, 5, none⟩ = some (.slice B_p m_p d_p) := HK_p.out.cell 5 rfl
  have x0_q : w8.cell? ⟨w.heap.size + 1, 0, none⟩ = some (.int .i64 q.k) := HK_q.out.cell 0 rfl; have x1_q : w8.cell? ⟨w.heap.size + 1, 1, none⟩ = some (strV q.nm) := HK_q.out.cell 1 rfl; have x2_q : w8.cell? ⟨w.heap.size + 1, 2, none⟩ = some (strV q.to) := HK_q.out.cell 2 rfl; have x3_q : w8.cell? ⟨w.heap.size + 1, 3, none⟩ = some (.int .i64 q.h.pos) := HK_q.out.cell 3 rfl; have x4_q : w8.cell? ⟨w.heap.size + 1, 4, none⟩ = some (.slice A_q n_q c_q) := HK_q.out.cell 4 rfl; have x5_q : w8.cell? ⟨w.heap.size + 1, 5, none⟩ = some (.slice B_q m_q d_q) := HK_q.out.cell 5 rfl
  go_wp2_with fail
  refine (refSameP A_p n_p c_p B_p m_p d_p A_q n_q c_q B_q m_q d_q _ p q _ b2 (Nat.le_refl _) HV_p.out HV_q.out HB2.out).mono ?_
  rintro e w9 ⟨rfl, hb⟩
  replace HV_p := Lib.hid (HV_p.out.mv hb)
  replace HV_q := Lib.hid (HV_q.out.mv hb)
  clear x0_p x1_p x2_p x3_p x4_p x5_p
  clear x0_q x1_q x2_q x3_q x4_q x5_q
  replace HK_p := Lib.hid (HK_p.out.below hb HK_p.out.lt)
  replace HK_q := Lib.hid (HK_q.out.below hb HK_q.out.lt)
  replace HB := Lib.hid (below_mv HB.out hb)
  clear hb
  have x0_p : w9.cell? ⟨w.heap.size, 0, none⟩ = some (.int .i64 p.k) := HK_p.out.cell 0 rfl; have x1_p : w9.cell? ⟨w.heap.size, 1, none⟩ = some (strV p.nm) := HK_p.out.cell 1 rfl; have x2_p : w9.cell? ⟨w.heap.size, 2, none⟩ = some (strV p.to) := HK_p.out.cell 2 rfl; have x3_p : w9.cell? ⟨w.heap.size, 3, none⟩ = some (.int .i64 p.h.pos) := HK_p.out.cell 3 rfl; have x4_p : w9.cell? ⟨w.heap.size, 4, none⟩ = some (.slice A_p n_p c_p) := HK_p.out.cell 4 rfl; have x5_p : w9.cell? ⟨w.heap.size, 5, none⟩ = some (.slice B_p m_p d_p) := HK_p.out.cell 5 rfl
  have x0_q : w9.cell? ⟨w.heap.size + 1, 0, none⟩ = some (.int .i64 q.k) := HK_q.out.cell 0 rfl; have x1_q : w9.cell? ⟨w.heap.size + 1, 1, none⟩ = some (strV q.nm) := HK_q.out.cell 1 rfl; have x2_q : w9.cell? ⟨w.heap.size + 1, 2, none⟩ = some (strV q.to) := HK_q.out.cell 2 rfl; have x3_q : w9.cell? ⟨w.heap.size + 1, 3, none⟩ = some (.int .i64 q.h.pos) := HK_q.out.cell 3 rfl; have x4_q : w9.cell? ⟨w.heap.size + 1, 4, none⟩ = some (.slice A_q n_q c_q) := HK_q.out.cell 4 rfl; have x5_q : w9.cell? ⟨w.heap.size + 1, 5, none⟩ = some (.slice B_q m_q d_q) := HK_q.out.cell 5 rfl
  go_wp2_with fail
  refine (refIdleP A_p n_p c_p B_p m_p d_p _ p _ b3 (Nat.le_refl _) HV_p.out HB3.out).mono ?_
  rintro e w10 ⟨rfl, hb⟩
  replace HV_p := Lib.hid (HV_p.out.mv hb)
  replace HV_q := Lib.hid (HV_q.out.mv hb)
  clear x0_p x1_p x2_p x3_p x4_p x5_p
  clear x0_q x1_q x2_q x3_q x4_q x5_q
  replace HK_p := Lib.hid (HK_p.out.below hb HK_p.out.lt)
  replace HK_q := Lib.hid (HK_q.out.below hb HK_q.out.lt)
  replace HB := Lib.hid (below_mv HB.out hb)
  clear hb
  have x0_p : w10.cell? ⟨w.heap.size, 0, none⟩ = some (.int .i64 p.k) := HK_p.out.cell 0 rfl; have x1_p : w10.cell? ⟨w.heap.size, 1, none⟩ = some (strV p.nm) := HK_p.out.cell 1 rfl; have x2_p : w10.cell? ⟨w.heap.size, 2, none⟩ = some (strV p.to) := HK_p.out.cell 2 rfl; have x3_p : w10.cell? ⟨w.heap.size, 3, none⟩ = some (.int .i64 p.h.pos) := HK_p.out.cell 3 rfl; have x4_p : w10.cell? ⟨w.heap.size, 4, none⟩ = some (.slice A_p n_p c_p) := HK_p.out.cell 4 rfl; have x5_p : w10.cell? ⟨w.heap.size, 5, none⟩ = some (.slice B_p m_p d_p) := HK_p.out.cell 5 rfl
  have x0_q : w10.cell? ⟨w.heap.size + 1, 0, none⟩ = some (.int .i64 q.k) := HK_q.out.cell 0 rfl; have x1_q : w10.cell? ⟨w.heap.size + 1, 1, none⟩ = some (strV q.nm) := HK_q.out.cell 1 rfl; have x2_q : w10.cell? ⟨w.heap.size + 1, 2, none⟩ = some (strV q.to) := HK_q.out.cell 2 rfl; have x3_q : w10.cell? ⟨w.heap.size + 1, 3, none⟩ = some (.int .i64 q.h.pos) := HK_q.out.cell 3 rfl; have x4_q : w10.cell? ⟨w.heap.size + 1, 4, none⟩ = some (.slice A_q n_q c_q) := HK_q.out.cell 4 rfl; have x5_q : w10.cell? ⟨w.heap.size + 1, 5, none⟩ = some (.slice B_q m_q d_q) := HK_q.out.cell 5 rfl
  go_wp2_with fail
  refine (MayP A_p n_p c_p B_p m_p d_p p _ b1 HV_p.out HB1.out).mono ?_
  rintro e w11 ⟨rfl, hb⟩
  replace HV_p := Lib.hid (HV_p.out.mv hb)
  replace HV_q := Lib.hid (HV_q.out.mv hb)
  clear x0_p x1_p x2_p x3_p x4_p x5_p
  clear x0_q x1_q x2_q x3_q x4_q x5_q
  replace HK_p := Lib.hid (HK_p.out.below hb HK_p.out.lt)
  replace HK_q := Lib.hid (HK_q.out.below hb HK_q.out.lt)
  replace HB := Lib.hid (below_mv HB.out hb)
  clear hb
  have x0_p : w11.cell? ⟨w.heap.size, 0, none⟩ = some (.int .i64 p.k) := HK_p.out.cell 0 rfl; have x1_p : w11.cell? ⟨w.heap.size, 1, none⟩ = some (strV p.nm) := HK_p.out.cell 1 rfl; have x2_p : w11.cell? ⟨w.heap.size, 2, none⟩ = some (strV p.to) := HK_p.out.cell 2 rfl; have x3_p : w11.cell? ⟨w.heap.size, 3, none⟩ = some (.int .i64 p.h.pos) := HK_p.out.cell 3 rfl; have x4_p : w11.cell? ⟨w.heap.size, 4, none⟩ = some (.slice A_p n_p c_p) := HK_p.out.cell 4 rfl; have x5_p : w11.cell? ⟨w.heap.size, 5, none⟩ = some (.slice B_p m_p d_p) := HK_p.out.cell 5 rfl
  have x0_q : w11.cell? ⟨w.heap.size + 1, 0, none⟩ = some (.int .i64 q.k) := HK_q.out.cell 0 rfl; have x1_q : w11.cell? ⟨w.heap.size + 1, 1, none⟩ = some (strV q.nm) := HK_q.out.cell 1 rfl; have x2_q : w11.cell? ⟨w.heap.size + 1, 2, none⟩ = some (strV q.to) := HK_q.out.cell 2 rfl; have x3_q : w11.cell? ⟨w.heap.size + 1, 3, none⟩ = some (.int .i64 q.h.pos) := HK_q.out.cell 3 rfl; have x4_q : w11.cell? ⟨w.heap.size + 1, 4, none⟩ = some (.slice A_q n_q c_q) := HK_q.out.cell 4 rfl; have x5_q : w11.cell? ⟨w.heap.size + 1, 5, none⟩ = some (.slice B_q m_q d_q) := HK_q.out.cell 5 rfl
  go_wp2_with fail
  refine (SameP A_p n_p c_p B_p m_p d_p A_q n_q c_q B_q m_q d_q p q _ b2 HV_p.out HV_q.out HB2.out).mono ?_
  rintro e w12 ⟨rfl, hb⟩
  replace HV_p := Lib.hid (HV_p.out.mv hb)
  replace HV_q := Lib.hid (HV_q.out.mv hb)
  clear x0_p x1_p x2_p x3_p x4_p x5_p
  clear x0_q x1_q x2_q x3_q x4_q x5_q
  replace HK_p := Lib.hid (HK_p.out.below hb HK_p.out.lt)
  replace HK_q := Lib.hid (HK_q.out.below hb HK_q.out.lt)
  replace HB := Lib.hid (below_mv HB.out hb)
  clear hb
  have x0_p : w12.cell? ⟨w.heap.size, 0, none⟩ = some (.int .i64 p.k) := HK_p.out.cell 0 rfl; have x1_p : w12.cell? ⟨w.heap.size, 1, none⟩ = some (strV p.nm) := HK_p.out.cell 1 rfl; have x2_p : w12.cell? ⟨w.heap.size, 2, none⟩ = some (strV p.to) := HK_p.out.cell 2 rfl; have x3_p : w12.cell? ⟨w.heap.size, 3, none⟩ = some (.int .i64 p.h.pos) := HK_p.out.cell 3 rfl; have x4_p : w12.cell? ⟨w.heap.size, 4, none⟩ = some (.slice A_p n_p c_p) := HK_p.out.cell 4 rfl; have x5_p : w12.cell? ⟨w.heap.size, 5, none⟩ = some (.slice B_p m_p d_p) := HK_p.out.cell 5 rfl
  have x0_q : w12.cell? ⟨w.heap.size + 1, 0, none⟩ = some (.int .i64 q.k) := HK_q.out.cell 0 rfl; have x1_q : w12.cell? ⟨w.heap.size + 1, 1, none⟩ = some (strV q.nm) := HK_q.out.cell 1 rfl; have x2_q : w12.cell? ⟨w.heap.size + 1, 2, none⟩ = some (strV q.to) := HK_q.out.cell 2 rfl; have x3_q : w12.cell? ⟨w.heap.size + 1, 3, none⟩ = some (.int .i64 q.h.pos) := HK_q.out.cell 3 rfl; have x4_q : w12.cell? ⟨w.heap.size + 1, 4, none⟩ = some (.slice A_q n_q c_q) := HK_q.out.cell 4 rfl; have x5_q : w12.cell? ⟨w.heap.size + 1, 5, none⟩ = some (.slice B_q m_q d_q) := HK_q.out.cell 5 rfl
  go_wp2_with fail
  refine (IdleP A_p n_p c_p B_p m_p d_p p _ b3 HV_p.out HB3.out).mono ?_
  rintro e w13 ⟨rfl, hb⟩
  replace HV_p := Lib.hid (HV_p.out.mv hb)
  replace HV_q := Lib.hid (HV_q.out.mv hb)
  clear x0_p x1_p x2_p x3_p x4_p x5_p
  clear x0_q x1_q x2_q x3_q x4_q x5_q
  replace HK_p := Lib.hid (HK_p.out.below hb HK_p.out.lt)
  replace HK_q := Lib.hid (HK_q.out.below hb HK_q.out.lt)
  replace HB := Lib.hid (below_mv HB.out hb)
  clear hb
  have x0_p : w13.cell? ⟨w.heap.size, 0, none⟩ = some (.int .i64 p.k) := HK_p.out.cell 0 rfl; have x1_p : w13.cell? ⟨w.heap.size, 1, none⟩ = some (strV p.nm) := HK_p.out.cell 1 rfl; have x2_p : w13.cell? ⟨w.heap.size, 2, none⟩ = some (strV p.to) := HK_p.out.cell 2 rfl; have x3_p : w13.cell? ⟨w.heap.size, 3, none⟩ = some (.int .i64 p.h.pos) := HK_p.out.cell 3 rfl; have x4_p : w13.cell? ⟨w.heap.size, 4, none⟩ = some (.slice A_p n_p c_p) := HK_p.out.cell 4 rfl; have x5_p : w13.cell? ⟨w.heap.size, 5, none⟩ = some (.slice B_p m_p d_p) := HK_p.out.cell 5 rfl
  have x0_q : w13.cell? ⟨w.heap.size + 1, 0, none⟩ = some (.int .i64 q.k) := HK_q.out.cell 0 rfl; have x1_q : w13.cell? ⟨w.heap.size + 1, 1, none⟩ = some (strV q.nm) := HK_q.out.cell 1 rfl; have x2_q : w13.cell? ⟨w.heap.size + 1, 2, none⟩ = some (strV q.to) := HK_q.out.cell 2 rfl; have x3_q : w13.cell? ⟨w.heap.size + 1, 3, none⟩ = some (.int .i64 q.h.pos) := HK_q.out.cell 3 rfl; have x4_q : w13.cell? ⟨w.heap.size + 1, 4, none⟩ = some (.slice A_q n_q c_q) := HK_q.out.cell 4 rfl; have x5_q : w13.cell? ⟨w.heap.size + 1, 5, none⟩ = some (.slice B_q m_q d_q) := HK_q.out.cell 5 rfl
  go_wp2
  go_ret
  exact ⟨rfl, HB.out⟩

end PrL
open PrL
open Tx
open Go.ChangeShapes Go.WideShapes Go.ChangeAt

theorem primTells_own : ownKnob Try.prog.godebug = none := by kernel_rfl
theorem primTells_laidOut : laidOutB Try.prog = true := by kernel_rfl

set_option maxRecDepth 100000 in
theorem primTells_lifted (os : Os) (started : os.Started) (H : Type) (enc : TypeId × Value → H) :
    ReturnsInHanded {} Try.checked os 3 .any (Rows.primTellsSpec.pre6 enc Try.prog Try.f3 Rows.primTellsRow.domain false) (Rows.primTellsSpec.post enc Try.prog Try.f3 false true false false) := by
  refine returnsInHanded_of_change_sized (C := Try.checked) primTells_own started (by kernel_rfl) Try.func3
    (ChangeSpec.witness6 (enc := enc) (C := Try.checked) false ⟨#[], #[.slice none 0 0, .agg #[.int .i64 0, .string ByteArray.empty, .string ByteArray.empty, .int .i64 0, .slice none 0 0, .slice none 0 0], .agg #[.int .i64 0, .string ByteArray.empty, .string ByteArray.empty, .int .i64 0, .slice none 0 0, .slice none 0 0]], []⟩ 8 (by kernel_rfl) (by kernel_rfl) (by kernel_rfl) (by kernel_rfl)) ?_
  intro W base args ds gs before hval0 hW hcnd hsz0 _
  have hval : ∀ (j : Nat) t v, Try.f3.params[j]? = some t → args[j]? = some v → Value.okWide Try.prog W .any base t v := hval0
  have hsz : (DataW.weightsEach Try.prog (Try.f3.params.toList ++ Rows.primTellsSpec.plain.varTypes Try.prog) (ds ++ gs)).all (· ≤ reachBytes) = true := hsz0
  have hW' := hW
  obtain ⟨p, q, hA0, hV, rfl, hfz, hnd⟩ := hW
  have hA : DataW.TrodAll enc Try.prog W 0 (fun _ => true) true Try.f3.params.toList args.toList ds p := hA0
  rw [Try.params3] at hA hval hsz
  obtain ⟨v0, vs0, d0, ds0, p0, q0, hargs, rfl, rfl, h0, r0⟩ := trodAll_cons hA
  obtain ⟨v1, vs1, d1, ds1, p1, q1, rfl, rfl, rfl, h1, r1⟩ := trodAll_cons r0
  obtain ⟨v2, vs2, d2, ds2, p2, q2, rfl, rfl, rfl, h2, r2⟩ := trodAll_cons r1
  obtain ⟨rfl, rfl, rfl⟩ := trodAll_nil r2
  obtain rfl : args = #[v0, v1, v2] := by cases args; simp_all
  obtain ⟨rfl, rfl⟩ := trodVars_none hV
  obtain ⟨a0, n0, c0, rfl⟩ := okWide_slice Try.underlying23 (hval 0 23 v0 rfl rfl)
  have k0 := h0
  have lt0 : ∀ x ∈ p0, x.block < W.heap.size := by obtain ⟨m, hm⟩ := k0; exact DataW.trod_lt m _ _ _ hm
  obtain ⟨l0, s0, z0⟩ : ∃ l, TreeArg W a0 n0 c0 l ∧ Wide l := by
    obtain ⟨fuel, hf⟩ := h0
    exact tree_wide hf (by simp [Value.cells]) (fun k hk => by have := List.all_eq_true.1 hsz _ (DataW.weights_mem_each (j := 0) rfl rfl k hk); simpa using this)
  have k1 := h1
  have lt1 : ∀ x ∈ p1, x.block < W.heap.size := by obtain ⟨m, hm⟩ := k1; exact DataW.trod_lt m _ _ _ hm
  obtain ⟨a1, n1, c1, b1, m1, e1, l1, rfl, s1⟩ := prim_in (hval 1 28 v1 rfl rfl) h1
  have k2 := h2
  have lt2 : ∀ x ∈ p2, x.block < W.heap.size := by obtain ⟨m, hm⟩ := k2; exact DataW.trod_lt m _ _ _ hm
  obtain ⟨a2, n2, c2, b2, m2, e2, l2, rfl, s2⟩ := prim_in (hval 2 28 v2 rfl rfl) h2
  clear hA0 hval0 hsz hsz0
  refine (primTells_walk a0 n0 c0 l0 a1 n1 c1 b1 m1 e1 l1 a2 n2 c2 b2 m2 e2 l2 W s0 z0 s1 s2).mono fun e W' ⟨he, bel⟩ => ?_
  subst he
  exact ⟨_, rfl, _, _, _, [], _, [], hW', trodAll_mk1 (shut_bool Try.underlying4 _), (trodAll_cons_mk (Below.trod primTells_laidOut (by kernel_rfl) (of_decide_eq_true (by kernel_rfl)) k0 bel lt0) (trodAll_cons_mk (Below.trod primTells_laidOut (by kernel_rfl) (of_decide_eq_true (by kernel_rfl)) k1 bel lt1) (trodAll_cons_mk (Below.trod primTells_laidOut (by kernel_rfl) (of_decide_eq_true (by kernel_rfl)) k2 bel lt2) trodAll_mk0))), rfl, bel.frame _, fun h => by cases h⟩

/-- The statement. -/
theorem primTells_proved : Rows.PrimTellsSaid :=
  OpenClaim.holds_of_wide 3 Try.f3 rfl rfl rfl rfl rfl rfl rfl ⟨rfl, rfl, rfl, rfl, rfl⟩ rfl rfl rfl rfl rfl (by kernel_rfl) Try.func3 (by kernel_rfl)
    (of_decide_eq_true (by kernel_rfl)) (by unfold Func.isWrapper; first | (rw [if_pos (by decide +kernel)]; kernel_rfl) | (rw [if_neg (by decide +kernel)]; exact ⟨rfl, rfl⟩))
    (fun os started H enc _ => primTells_lifted os started H enc)

#print axioms primTells_proved
end Go.Proofs.Ytdjeebfbffoehaa
