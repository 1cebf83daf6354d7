/-
  The statement PassSame: where both change a tree, one behind the other, those that are told do so, in their order, to the same.
-/
import Derived.Test.YtfjllohhjpiphaaPsGrow
import Derived.Test.YtfjllohhjpiphaaPsLaw
import Derived.OpenShut
import Derived.ShutString
import Derived.BigQuiet
set_option maxRecDepth 100000
namespace Go.Proofs.Ytfjllohhjpiphaa
open Go.RowKit
set_option linter.unusedVariables false
open Tr Tx Hk Pr
namespace PsL

set_option maxRecDepth 100000 in
set_option maxHeartbeats 8000000 in
theorem passSame_walk (A_t : Option Addr) (n_t c_t : Nat) (t : TR) (A_p : Option Addr) (n_p c_p : Nat) (B_p : Option Addr) (m_p d_p : Nat) (p : Ch) (A_q : Option Addr) (n_q c_q : Nat) (B_q : Option Addr) (m_q d_q : Nat) (q : Ch) (w : World) (h_t : TreeArg w A_t n_t c_t t) (hw_t : Wide t) (h_p : PV w w.heap.size A_p n_p c_p B_p m_p d_p p) (h_q : PV w w.heap.size A_q n_q c_q B_q m_q d_q q) :
    Calls Try.prog 4 #[.slice A_t n_t c_t, prV p.k p.nm p.to p.h.pos A_p n_p c_p B_p m_p d_p, prV q.k q.nm q.to q.h.pos A_q n_q c_q B_q m_q d_q] w (LawEnd w) := by
  have HT_t := Lib.hid h_t.rd; have HN_t := Lib.hid h_t.len; have HF_t := Lib.hid h_t.fit; have HC_t := Lib.hid h_t.le; have HW_t := Lib.hid hw_t
  have HV_p := Lib.hid h_p
  have HV_q := Lib.hid h_q
  have HB := Lib.hid (Below.refl w.heap.size w)
  clear h_t hw_t h_p h_q
  go_enter Try.func4, Try.ntmps4
  go_wp2_with fail
  have hb : Below w.heap.size w (World.alloc (World.alloc w (.cells #[.int .i64 p.k, strV p.nm, strV p.to, .int .i64 p.h.pos, .slice A_p n_p c_p, .slice B_p m_p d_p] 26)) (.cells #[.int .i64 q.k, strV q.nm, strV q.to, .int .i64 q.h.pos, .slice A_q n_q c_q, .slice B_q m_q d_q] 26)) := (((Below.refl _ _).alloc (Nat.le_refl _) _).alloc (by simp) _)
  have b_p := (Blk.new w 26 #[.int .i64 p.k, strV p.nm, strV p.to, .int .i64 p.h.pos, .slice A_p n_p c_p, .slice B_p m_p d_p]).alloc (.cells #[.int .i64 q.k, strV q.nm, strV q.to, .int .i64 q.h.pos, .slice A_q n_q c_q, .slice B_q m_q d_q] 26)
  have b_q := Blk.new (World.alloc w (.cells #[.int .i64 p.k, strV p.nm, strV p.to, .int .i64 p.h.pos, .slice A_p n_p c_p, .slice B_p m_p d_p] 26)) 26 #[.int .i64 q.k, strV q.nm, strV q.to, .int .i64 q.h.pos, .slice A_q n_q c_q, .slice B_q m_q d_q]
  simp only [World.size_alloc] at b_q
  generalize (World.alloc (World.alloc w (.cells #[.int .i64 p.k, strV p.nm, strV p.to, .int .i64 p.h.pos, .slice A_p n_p c_p, .slice B_p m_p d_p] 26)) (.cells #[.int .i64 q.k, strV q.nm, strV q.to, .int .i64 q.h.pos, .slice A_q n_q c_q, .slice B_q m_q d_q] 26)) = w1 at *
  replace HT_t := Lib.hid (HT_t.out.mv hb)
  replace HV_p := Lib.hid (HV_p.out.mv hb)
  replace HV_q := Lib.hid (HV_q.out.mv hb)
  replace HB := Lib.hid (below_mv HB.out hb)
  clear hb
  obtain ⟨gb, hgb⟩ : ∃ gb, w.heap.size = gb := ⟨_, rfl⟩
  rw [hgb] at ⊢ b_p b_q
  clear hgb
  have HK_p := Lib.hid b_p; clear b_p
  have HK_q := Lib.hid b_q; clear b_q
  refine (PsAwake.awake w1).mono ?_
  rintro e w2 ⟨rfl, hb⟩
  replace HT_t := Lib.hid (HT_t.out.mv hb)
  replace HV_p := Lib.hid (HV_p.out.mv hb)
  replace HV_q := Lib.hid (HV_q.out.mv hb)
  replace HK_p := Lib.hid (HK_p.out.below hb HK_p.out.lt)
  replace HK_q := Lib.hid (HK_q.out.below hb HK_q.out.lt)
  replace HB := Lib.hid (below_mv HB.out hb)
  clear hb
  go_wp2_with fail
  refine (LightT A_t c_t n_t _ t _ HN_t.out HC_t.out HF_t.out HT_t.out).mono ?_
  rintro e w' ⟨rfl, rfl⟩
  obtain ⟨bt_t, hbl⟩ : ∃ b, lightT t = b := ⟨_, rfl⟩
  rw [hbl]
  have HBL_t := Lib.hid hbl; clear hbl
  obtain ⟨bl_p, hbl⟩ : ∃ b, lightP p = b := ⟨_, rfl⟩
  have HBL_p := Lib.hid hbl; clear hbl
  have x0_p : w2.cell? ⟨gb, 0, none⟩ = some (.int .i64 p.k) := HK_p.out.cell 0 rfl; have x1_p : w2.cell? ⟨gb, 1, none⟩ = some (strV p.nm) := HK_p.out.cell 1 rfl; have x2_p : w2.cell? ⟨gb, 2, none⟩ = some (strV p.to) := HK_p.out.cell 2 rfl; have x3_p : w2.cell? ⟨gb, 3, none⟩ = some (.int .i64 p.h.pos) := HK_p.out.cell 3 rfl; have x4_p : w2.cell? ⟨gb, 4, none⟩ = some (.slice A_p n_p c_p) := HK_p.out.cell 4 rfl; have x5_p : w2.cell? ⟨gb, 5, none⟩ = some (.slice B_p m_p d_p) := HK_p.out.cell 5 rfl
  have yl_p := HK_p.out.lt
  go_wp2_with fail
  clear x0_p x1_p x2_p x3_p x4_p x5_p yl_p
  refine (LightP A_p n_p c_p B_p m_p d_p _ p _ bl_p (Nat.le_refl _) HV_p.out HBL_p.out).mono ?_
  rintro e w3 ⟨rfl, hb⟩
  replace HT_t := Lib.hid (HT_t.out.mv hb)
  replace HV_p := Lib.hid (HV_p.out.mv hb)
  replace HV_q := Lib.hid (HV_q.out.mv hb)
  replace HK_p := Lib.hid (HK_p.out.below hb HK_p.out.lt)
  replace HK_q := Lib.hid (HK_q.out.below hb HK_q.out.lt)
  replace HB := Lib.hid (below_mv HB.out hb)
  clear hb
  obtain ⟨bl_q, hbl⟩ : ∃ b, lightP q = b := ⟨_, rfl⟩
  have HBL_q := Lib.hid hbl; clear hbl
  have x0_q : w3.cell? ⟨gb + 1, 0, none⟩ = some (.int .i64 q.k) := HK_q.out.cell 0 rfl; have x1_q : w3.cell? ⟨gb + 1, 1, none⟩ = some (strV q.nm) := HK_q.out.cell 1 rfl; have x2_q : w3.cell? ⟨gb + 1, 2, none⟩ = some (strV q.to) := HK_q.out.cell 2 rfl; have x3_q : w3.cell? ⟨gb + 1, 3, none⟩ = some (.int .i64 q.h.pos) := HK_q.out.cell 3 rfl; have x4_q : w3.cell? ⟨gb + 1, 4, none⟩ = some (.slice A_q n_q c_q) := HK_q.out.cell 4 rfl; have x5_q : w3.cell? ⟨gb + 1, 5, none⟩ = some (.slice B_q m_q d_q) := HK_q.out.cell 5 rfl
  have yl_q := HK_q.out.lt
  have yk0_q : gb < w3.heap.size := Nat.lt_of_le_of_lt (by omega) yl_q
  go_wp2_with fail
  clear x0_q x1_q x2_q x3_q x4_q x5_q yl_q yk0_q
  refine (LightP A_q n_q c_q B_q m_q d_q _ q _ bl_q (Nat.le_refl _) HV_q.out HBL_q.out).mono ?_
  rintro e w4 ⟨rfl, hb⟩
  replace HT_t := Lib.hid (HT_t.out.mv hb)
  replace HV_p := Lib.hid (HV_p.out.mv hb)
  replace HV_q := Lib.hid (HV_q.out.mv hb)
  replace HK_p := Lib.hid (HK_p.out.below hb HK_p.out.lt)
  replace HK_q := Lib.hid (HK_q.out.below hb HK_q.out.lt)
  replace HB := Lib.hid (below_mv HB.out hb)
  clear hb
  cases bt_t with
  | false =>
    go_wp2
    go_ret
    exact ⟨rfl, HB.out⟩
  | true =>
  have HS_t := Lib.hid (lightT_small HBL_t.out).2; have HK40_t := Lib.hid (lightT_small HBL_t.out).1; clear HF_t HC_t
  cases bl_p with
  | false =>
    go_wp2
    go_ret
    exact ⟨rfl, HB.out⟩
  | true =>
  have HL_p := Lib.hid (HV_p.out.len HBL_p.out)
  cases bl_q with
  | false =>
    go_wp2
    go_ret
    exact ⟨rfl, HB.out⟩
  | true =>
  have HL_q := Lib.hid (HV_q.out.len HBL_q.out)
  cases hm : mayT t with
  | false =>
    go_wp2_with fail
    refine (MayC (b := false) HN_t.out HS_t.out HT_t.out hm).mono ?_
    rintro e w5 ⟨rfl, hb⟩
    replace HT_t := Lib.hid (HT_t.out.mv hb)
    replace HV_p := Lib.hid (HV_p.out.mv hb)
    replace HV_q := Lib.hid (HV_q.out.mv hb)
    replace HK_p := Lib.hid (HK_p.out.below hb HK_p.out.lt)
    replace HK_q := Lib.hid (HK_q.out.below hb HK_q.out.lt)
    replace HB := Lib.hid (below_mv HB.out hb)
    clear hb
    go_wp2
    go_ret
    exact ⟨rfl, HB.out⟩
  | true =>
  have HUP := Lib.hid (mayT_up hm); have HM := Lib.hid hm; clear hm
  go_wp2_with fail
  refine (MayC (b := true) HN_t.out HS_t.out HT_t.out HM.out).mono ?_
  rintro e w5 ⟨rfl, hb⟩
  replace HT_t := Lib.hid (HT_t.out.mv hb)
  replace HV_p := Lib.hid (HV_p.out.mv hb)
  replace HV_q := Lib.hid (HV_q.out.mv hb)
  replace HK_p := Lib.hid (HK_p.out.below hb HK_p.out.lt)
  replace HK_q := Lib.hid (HK_q.out.below hb HK_q.out.lt)
  replace HB := Lib.hid (below_mv HB.out hb)
  clear hb
  have x0_p : w5.cell? ⟨gb, 0, none⟩ = some (.int .i64 p.k) := HK_p.out.cell 0 rfl; have x1_p : w5.cell? ⟨gb, 1, none⟩ = some (strV p.nm) := HK_p.out.cell 1 rfl; have x2_p : w5.cell? ⟨gb, 2, none⟩ = some (strV p.to) := HK_p.out.cell 2 rfl; have x3_p : w5.cell? ⟨gb, 3, none⟩ = some (.int .i64 p.h.pos) := HK_p.out.cell 3 rfl; have x4_p : w5.cell? ⟨gb, 4, none⟩ = some (.slice A_p n_p c_p) := HK_p.out.cell 4 rfl; have x5_p : w5.cell? ⟨gb, 5, none⟩ = some (.slice B_p m_p d_p) := HK_p.out.cell 5 rfl
  have yl_p := HK_p.out.lt
  have x0_q : w5.cell? ⟨gb + 1, 0, none⟩ = some (.int .i64 q.k) := HK_q.out.cell 0 rfl; have x1_q : w5.cell? ⟨gb + 1, 1, none⟩ = some (strV q.nm) := HK_q.out.cell 1 rfl; have x2_q : w5.cell? ⟨gb + 1, 2, none⟩ = some (strV q.to) := HK_q.out.cell 2 rfl; have x3_q : w5.cell? ⟨gb + 1, 3, none⟩ = some (.int .i64 q.h.pos) := HK_q.out.cell 3 rfl; have x4_q : w5.cell? ⟨gb + 1, 4, none⟩ = some (.slice A_q n_q c_q) := HK_q.out.cell 4 rfl; have x5_q : w5.cell? ⟨gb + 1, 5, none⟩ = some (.slice B_q m_q d_q) := HK_q.out.cell 5 rfl
  have yl_q := HK_q.out.lt
  have yk0_q : gb < w5.heap.size := Nat.lt_of_le_of_lt (by omega) yl_q
  go_wp2_with fail
  clear x0_p x1_p x2_p x3_p x4_p x5_p yl_p
  clear x0_q x1_q x2_q x3_q x4_q x5_q yl_q yk0_q
  obtain ⟨⟨x, y⟩, hx⟩ : ∃ z, outP (passP p q) = z := ⟨_, rfl⟩
  obtain ⟨b, hs⟩ : ∃ b, (passP p q).isSome = b := ⟨_, rfl⟩
  have HX_x := Lib.hid hx; have HS_x := Lib.hid hs; clear hx hs
  refine (PassP A_p n_p c_p B_p m_p d_p A_q n_q c_q B_q m_q d_q p q x y w5 b HL_p.out HL_q.out HV_p.out HV_q.out HX_x.out HS_x.out).mono ?_
  rintro e w6 ⟨A_x, n_x, c_x, B_x, m_x, d_x, A_y, n_y, c_y, B_y, m_y, d_y, rfl, hv, gv, hl, gl, hb⟩
  replace HT_t := Lib.hid (HT_t.out.mv hb)
  replace HV_p := Lib.hid (HV_p.out.mv hb)
  replace HV_q := Lib.hid (HV_q.out.mv hb)
  replace HK_p := Lib.hid (HK_p.out.below hb HK_p.out.lt)
  replace HK_q := Lib.hid (HK_q.out.below hb HK_q.out.lt)
  replace HB := Lib.hid (below_mv HB.out hb)
  clear hb
  have HV_x := Lib.hid hv; have HV_y := Lib.hid gv; have HL_x := Lib.hid hl; have HL_y := Lib.hid gl; clear hv gv hl gl
  have x0_p : w6.cell? ⟨gb, 0, none⟩ = some (.int .i64 p.k) := HK_p.out.cell 0 rfl; have x1_p : w6.cell? ⟨gb, 1, none⟩ = some (strV p.nm) := HK_p.out.cell 1 rfl; have x2_p : w6.cell? ⟨gb, 2, none⟩ = some (strV p.to) := HK_p.out.cell 2 rfl; have x3_p : w6.cell? ⟨gb, 3, none⟩ = some (.int .i64 p.h.pos) := HK_p.out.cell 3 rfl; have x4_p : w6.cell? ⟨gb, 4, none⟩ = some (.slice A_p n_p c_p) := HK_p.out.cell 4 rfl; have x5_p : w6.cell? ⟨gb, 5, none⟩ = some (.slice B_p m_p d_p) := HK_p.out.cell 5 rfl
  have yl_p := HK_p.out.lt
  go_wp2_with fail
  clear x0_p x1_p x2_p x3_p x4_p x5_p yl_p
  have hb : Below w6.heap.size w6 (World.alloc (World.alloc w6 (.cells #[.int .i64 x.k, strV x.nm, strV x.to, .int .i64 x.h.pos, .slice A_x n_x c_x, .slice B_x m_x d_x] 26)) (.cells #[.int .i64 y.k, strV y.nm, strV y.to, .int .i64 y.h.pos, .slice A_y n_y c_y, .slice B_y m_y d_y] 26)) := two_box _ _ _
  have b_x := (Blk.new w6 26 #[.int .i64 x.k, strV x.nm, strV x.to, .int .i64 x.h.pos, .slice A_x n_x c_x, .slice B_x m_x d_x]).alloc (.cells #[.int .i64 y.k, strV y.nm, strV y.to, .int .i64 y.h.pos, .slice A_y n_y c_y, .slice B_y m_y d_y] 26)
  have b_y := Blk.new (World.alloc w6 (.cells #[.int .i64 x.k, strV x.nm, strV x.to, .int .i64 x.h.pos, .slice A_x n_x c_x, .slice B_x m_x d_x] 26)) 26 #[.int .i64 y.k, strV y.nm, strV y.to, .int .i64 y.h.pos, .slice A_y n_y c_y, .slice B_y m_y d_y]
  simp only [World.size_alloc] at b_y
  generalize (World.alloc (World.alloc w6 (.cells #[.int .i64 x.k, strV x.nm, strV x.to, .int .i64 x.h.pos, .slice A_x n_x c_x, .slice B_x m_x d_x] 26)) (.cells #[.int .i64 y.k, strV y.nm, strV y.to, .int .i64 y.h.pos, .slice A_y n_y c_y, .slice B_y m_y d_y] 26)) = w7 at *
  replace HT_t := Lib.hid (HT_t.out.mv hb)
  replace HV_p := Lib.hid (HV_p.out.mv hb)
  replace HV_q := Lib.hid (HV_q.out.mv hb)
  replace HV_x := Lib.hid (HV_x.out.mv hb)
  replace HV_y := Lib.hid (HV_y.out.mv hb)
  replace HK_p := Lib.hid (HK_p.out.below hb HK_p.out.lt)
  replace HK_q := Lib.hid (HK_q.out.below hb HK_q.out.lt)
  replace HB := Lib.hid (below_mv HB.out hb)
  clear hb
  generalize w6.heap.size = ux at *
  have HK_x := Lib.hid b_x; have HK_y := Lib.hid b_y; clear b_x b_y
  obtain ⟨⟨r1, u⟩, hD⟩ : ∃ D, doP t p = D := ⟨_, rfl⟩
  have HD_u := Lib.hid hD
  clear hD
  obtain ⟨n_u, hn⟩ : ∃ k, u.length = k := ⟨_, rfl⟩
  have HN_u := Lib.hid hn
  clear hn
  refine (ApplyC HW_t.out HN_t.out HT_t.out HV_p.out HD_u.out HN_u.out).mono ?_
  rintro e w8 ⟨A_u, c_u, rfl, hc, hr, hb⟩
  replace HT_t := Lib.hid (HT_t.out.mv hb)
  replace HV_p := Lib.hid (HV_p.out.mv hb)
  replace HV_q := Lib.hid (HV_q.out.mv hb)
  replace HV_x := Lib.hid (HV_x.out.mv hb)
  replace HV_y := Lib.hid (HV_y.out.mv hb)
  replace HK_p := Lib.hid (HK_p.out.below hb HK_p.out.lt)
  replace HK_q := Lib.hid (HK_q.out.below hb HK_q.out.lt)
  replace HK_x := Lib.hid (HK_x.out.below hb HK_x.out.lt)
  replace HK_y := Lib.hid (HK_y.out.below hb HK_y.out.lt)
  replace HB := Lib.hid (below_mv HB.out hb)
  clear hb
  have HT_u := Lib.hid hr; clear hr hc
  have HG_u := Lib.hid (grown HBL_t.out HBL_p.out HD_u.out)
  have HW_u := Lib.hid HG_u.out.s.wide
  have x0_q : w8.cell? ⟨gb + 1, 0, none⟩ = some (.int .i64 q.k) := HK_q.out.cell 0 rfl; have x1_q : w8.cell? ⟨gb + 1, 1, none⟩ = some (strV q.nm) := HK_q.out.cell 1 rfl; have x2_q : w8.cell? ⟨gb + 1, 2, none⟩ = some (strV q.to) := HK_q.out.cell 2 rfl; have x3_q : w8.cell? ⟨gb + 1, 3, none⟩ = some (.int .i64 q.h.pos) := HK_q.out.cell 3 rfl; have x4_q : w8.cell? ⟨gb + 1, 4, none⟩ = some (.slice A_q n_q c_q) := HK_q.out.cell 4 rfl; have x5_q : w8.cell? ⟨gb + 1, 5, none⟩ = some (.slice B_q m_q d_q) := HK_q.out.cell 5 rfl
  have yl_q := HK_q.out.lt
  have yk0_q : gb < w8.heap.size := Nat.lt_of_le_of_lt (by omega) yl_q
  go_wp2_with fail
  clear x0_q x1_q x2_q x3_q x4_q x5_q yl_q yk0_q
  obtain ⟨⟨r2, v⟩, hD⟩ : ∃ D, doP u q = D := ⟨_, rfl⟩
  have HD_v := Lib.hid hD
  clear hD
  obtain ⟨n_v, hn⟩ : ∃ k, v.length = k := ⟨_, rfl⟩
  have HN_v := Lib.hid hn
  clear hn
  refine (ApplyC HW_u.out HN_u.out HT_u.out HV_q.out HD_v.out HN_v.out).mono ?_
  rintro e w9 ⟨A_v, c_v, rfl, hc, hr, hb⟩
  replace HT_t := Lib.hid (HT_t.out.mv hb)
  replace HT_u := Lib.hid (HT_u.out.mv hb)
  replace HV_p := Lib.hid (HV_p.out.mv hb)
  replace HV_q := Lib.hid (HV_q.out.mv hb)
  replace HV_x := Lib.hid (HV_x.out.mv hb)
  replace HV_y := Lib.hid (HV_y.out.mv hb)
  replace HK_p := Lib.hid (HK_p.out.below hb HK_p.out.lt)
  replace HK_q := Lib.hid (HK_q.out.below hb HK_q.out.lt)
  replace HK_x := Lib.hid (HK_x.out.below hb HK_x.out.lt)
  replace HK_y := Lib.hid (HK_y.out.below hb HK_y.out.lt)
  replace HB := Lib.hid (below_mv HB.out hb)
  clear hb
  have HT_v := Lib.hid hr; clear hr hc
  cases b with
  | false =>
    go_wp2
    go_ret
    exact ⟨rfl, HB.out⟩
  | true =>
  by_cases h_r1 : r1 = 0
  case neg =>
    have e0 : (r1 == 0) = false := by rw [beq_eq_false_iff_ne]; exact h_r1
    go_wp2
    go_ret
    exact ⟨rfl, HB.out⟩
  subst h_r1
  by_cases h_r2 : r2 = 0
  case neg =>
    have e0 : (r2 == 0) = false := by rw [beq_eq_false_iff_ne]; exact h_r2
    go_wp2
    go_ret
    exact ⟨rfl, HB.out⟩
  subst h_r2
  have hw := passP_way (outP_of HX_x.out HS_x.out)
  have HLX := Lib.hid (way_light hw.2.2 HBL_p.out HBL_q.out).1
  obtain ⟨ww, hz1, hz2⟩ := passP_same HUP.out (outP_of HX_x.out HS_x.out) HD_u.out HD_v.out
  have HD_ww := Lib.hid hz1; have HD_z := Lib.hid hz2; clear hz1 hz2 hw
  obtain ⟨n_ww, hn⟩ : ∃ k, ww.length = k := ⟨_, rfl⟩
  have HN_ww := Lib.hid hn; clear hn
  have HG_ww := Lib.hid (grown HBL_t.out HLX.out HD_ww.out)
  have HW_ww := Lib.hid HG_ww.out.s.wide
  have HS_v := Lib.hid (grown2 HG_u.out HBL_q.out HD_v.out)
  obtain ⟨n_z, hn⟩ : ∃ k, v.length = k := ⟨_, rfl⟩
  have HN_z := Lib.hid hn; clear hn
  have x0_x : w9.cell? ⟨ux, 0, none⟩ = some (.int .i64 x.k) := HK_x.out.cell 0 rfl; have x1_x : w9.cell? ⟨ux, 1, none⟩ = some (strV x.nm) := HK_x.out.cell 1 rfl; have x2_x : w9.cell? ⟨ux, 2, none⟩ = some (strV x.to) := HK_x.out.cell 2 rfl; have x3_x : w9.cell? ⟨ux, 3, none⟩ = some (.int .i64 x.h.pos) := HK_x.out.cell 3 rfl; have x4_x : w9.cell? ⟨ux, 4, none⟩ = some (.slice A_x n_x c_x) := HK_x.out.cell 4 rfl; have x5_x : w9.cell? ⟨ux, 5, none⟩ = some (.slice B_x m_x d_x) := HK_x.out.cell 5 rfl
  have yl_x := HK_x.out.lt
  go_wp2_with fail
  clear x0_x x1_x x2_x x3_x x4_x x5_x yl_x
  refine (ApplyC HW_t.out HN_t.out HT_t.out HV_x.out HD_ww.out HN_ww.out).mono ?_
  rintro e w10 ⟨A_ww, c_ww, rfl, hc, hr, hb⟩
  replace HT_t := Lib.hid (HT_t.out.mv hb)
  replace HT_u := Lib.hid (HT_u.out.mv hb)
  replace HT_v := Lib.hid (HT_v.out.mv hb)
  replace HV_p := Lib.hid (HV_p.out.mv hb)
  replace HV_q := Lib.hid (HV_q.out.mv hb)
  replace HV_x := Lib.hid (HV_x.out.mv hb)
  replace HV_y := Lib.hid (HV_y.out.mv hb)
  replace HK_p := Lib.hid (HK_p.out.below hb HK_p.out.lt)
  replace HK_q := Lib.hid (HK_q.out.below hb HK_q.out.lt)
  replace HK_x := Lib.hid (HK_x.out.below hb HK_x.out.lt)
  replace HK_y := Lib.hid (HK_y.out.below hb HK_y.out.lt)
  replace HB := Lib.hid (below_mv HB.out hb)
  clear hb
  have HT_ww := Lib.hid hr; clear hr hc
  have x0_y : w10.cell? ⟨ux + 1, 0, none⟩ = some (.int .i64 y.k) := HK_y.out.cell 0 rfl; have x1_y : w10.cell? ⟨ux + 1, 1, none⟩ = some (strV y.nm) := HK_y.out.cell 1 rfl; have x2_y : w10.cell? ⟨ux + 1, 2, none⟩ = some (strV y.to) := HK_y.out.cell 2 rfl; have x3_y : w10.cell? ⟨ux + 1, 3, none⟩ = some (.int .i64 y.h.pos) := HK_y.out.cell 3 rfl; have x4_y : w10.cell? ⟨ux + 1, 4, none⟩ = some (.slice A_y n_y c_y) := HK_y.out.cell 4 rfl; have x5_y : w10.cell? ⟨ux + 1, 5, none⟩ = some (.slice B_y m_y d_y) := HK_y.out.cell 5 rfl
  have yl_y := HK_y.out.lt
  have yk0_y : ux < w10.heap.size := Nat.lt_of_le_of_lt (by omega) yl_y
  go_wp2_with fail
  clear x0_y x1_y x2_y x3_y x4_y x5_y yl_y yk0_y
  refine (ApplyC HW_ww.out HN_ww.out HT_ww.out HV_y.out HD_z.out HN_z.out).mono ?_
  rintro e w11 ⟨A_z, c_z, rfl, hc, hr, hb⟩
  replace HT_t := Lib.hid (HT_t.out.mv hb)
  replace HT_u := Lib.hid (HT_u.out.mv hb)
  replace HT_v := Lib.hid (HT_v.out.mv hb)
  replace HT_ww := Lib.hid (HT_ww.out.mv hb)
  replace HV_p := Lib.hid (HV_p.out.mv hb)
  replace HV_q := Lib.hid (HV_q.out.mv hb)
  replace HV_x := Lib.hid (HV_x.out.mv hb)
  replace HV_y := Lib.hid (HV_y.out.mv hb)
  replace HK_p := Lib.hid (HK_p.out.below hb HK_p.out.lt)
  replace HK_q := Lib.hid (HK_q.out.below hb HK_q.out.lt)
  replace HK_x := Lib.hid (HK_x.out.below hb HK_x.out.lt)
  replace HK_y := Lib.hid (HK_y.out.below hb HK_y.out.lt)
  replace HB := Lib.hid (below_mv HB.out hb)
  clear hb
  have HT_z := Lib.hid hr; clear hr hc
  go_wp2_with fail
  refine (SameC (b := true) HN_v.out HN_z.out HS_v.out HT_v.out HT_z.out (decide_eq_true rfl)).mono ?_
  rintro e w12 ⟨rfl, hb⟩
  replace HT_t := Lib.hid (HT_t.out.mv hb)
  replace HT_u := Lib.hid (HT_u.out.mv hb)
  replace HT_v := Lib.hid (HT_v.out.mv hb)
  replace HT_ww := Lib.hid (HT_ww.out.mv hb)
  replace HT_z := Lib.hid (HT_z.out.mv hb)
  replace HV_p := Lib.hid (HV_p.out.mv hb)
  replace HV_q := Lib.hid (HV_q.out.mv hb)
  replace HV_x := Lib.hid (HV_x.out.mv hb)
  replace HV_y := Lib.hid (HV_y.out.mv hb)
  replace HK_p := Lib.hid (HK_p.out.below hb HK_p.out.lt)
  replace HK_q := Lib.hid (HK_q.out.below hb HK_q.out.lt)
  replace HK_x := Lib.hid (HK_x.out.below hb HK_x.out.lt)
  replace HK_y := Lib.hid (HK_y.out.below hb HK_y.out.lt)
  replace HB := Lib.hid (below_mv HB.out hb)
  clear hb
  go_wp2
  go_ret
  exact ⟨rfl, HB.out⟩

end PsL
open PsL
open Tx
open Go.ChangeShapes Go.WideShapes Go.ChangeAt

theorem passSame_own : ownKnob Try.prog.godebug = none := by kernel_rfl
theorem passSame_laidOut : laidOutB Try.prog = true := by kernel_rfl

set_option maxRecDepth 100000 in
theorem passSame_lifted (os : Os) (started : os.Started) (H : Type) (enc : TypeId × Value → H) :
    ReturnsInHanded {} Try.checked os 4 .any (Rows.passSameSpec.pre6 enc Try.prog Try.f4 Rows.passSameRow.domain false) (Rows.passSameSpec.post enc Try.prog Try.f4 false true false false) := by
  refine returnsInHanded_of_change_sized (C := Try.checked) passSame_own started (by kernel_rfl) Try.func4
    (ChangeSpec.witness6 (enc := enc) (C := Try.checked) false ⟨#[], #[.slice none 0 0, .agg #[.int .i64 0, .string ByteArray.empty, .string ByteArray.empty, .int .i64 0, .slice none 0 0, .slice none 0 0], .agg #[.int .i64 0, .string ByteArray.empty, .string ByteArray.empty, .int .i64 0, .slice none 0 0, .slice none 0 0]], []⟩ 8 (by kernel_rfl) (by kernel_rfl) (by kernel_rfl) (by kernel_rfl)) ?_
  intro W base args ds gs before hval0 hW hcnd hsz0 _
  have hval : ∀ (j : Nat) t v, Try.f4.params[j]? = some t → args[j]? = some v → Value.okWide Try.prog W .any base t v := hval0
  have hsz : (DataW.weightsEach Try.prog (Try.f4.params.toList ++ Rows.passSameSpec.plain.varTypes Try.prog) (ds ++ gs)).all (· ≤ reachBytes) = true := hsz0
  have hW' := hW
  obtain ⟨p, q, hA0, hV, rfl, hfz, hnd⟩ := hW
  have hA : DataW.TrodAll enc Try.prog W 0 (fun _ => true) true Try.f4.params.toList args.toList ds p := hA0
  rw [Try.params4] at hA hval hsz
  obtain ⟨v0, vs0, d0, ds0, p0, q0, hargs, rfl, rfl, h0, r0⟩ := trodAll_cons hA
  obtain ⟨v1, vs1, d1, ds1, p1, q1, rfl, rfl, rfl, h1, r1⟩ := trodAll_cons r0
  obtain ⟨v2, vs2, d2, ds2, p2, q2, rfl, rfl, rfl, h2, r2⟩ := trodAll_cons r1
  obtain ⟨rfl, rfl, rfl⟩ := trodAll_nil r2
  obtain rfl : args = #[v0, v1, v2] := by cases args; simp_all
  obtain ⟨rfl, rfl⟩ := trodVars_none hV
  obtain ⟨a0, n0, c0, rfl⟩ := okWide_slice Try.underlying33 (hval 0 33 v0 rfl rfl)
  have k0 := h0
  have lt0 : ∀ x ∈ p0, x.block < W.heap.size := by obtain ⟨m, hm⟩ := k0; exact DataW.trod_lt m _ _ _ hm
  obtain ⟨l0, s0, z0⟩ : ∃ l, TreeArg W a0 n0 c0 l ∧ Wide l := by
    obtain ⟨fuel, hf⟩ := h0
    exact tree_wide hf (by simp [Value.cells]) (fun k hk => by have := List.all_eq_true.1 hsz _ (DataW.weights_mem_each (j := 0) rfl rfl k hk); simpa using this)
  have k1 := h1
  have lt1 : ∀ x ∈ p1, x.block < W.heap.size := by obtain ⟨m, hm⟩ := k1; exact DataW.trod_lt m _ _ _ hm
  obtain ⟨a1, n1, c1, b1, m1, e1, l1, rfl, s1⟩ := prim_in (hval 1 26 v1 rfl rfl) h1
  have k2 := h2
  have lt2 : ∀ x ∈ p2, x.block < W.heap.size := by obtain ⟨m, hm⟩ := k2; exact DataW.trod_lt m _ _ _ hm
  obtain ⟨a2, n2, c2, b2, m2, e2, l2, rfl, s2⟩ := prim_in (hval 2 26 v2 rfl rfl) h2
  clear hA0 hval0 hsz hsz0
  refine (passSame_walk a0 n0 c0 l0 a1 n1 c1 b1 m1 e1 l1 a2 n2 c2 b2 m2 e2 l2 W s0 z0 s1 s2).mono fun e W' ⟨he, bel⟩ => ?_
  subst he
  exact ⟨_, rfl, _, _, _, [], _, [], hW', trodAll_mk1 (shut_bool Try.underlying4 _), (trodAll_cons_mk (Below.trod passSame_laidOut (by kernel_rfl) (of_decide_eq_true (by kernel_rfl)) k0 bel lt0) (trodAll_cons_mk (Below.trod passSame_laidOut (by kernel_rfl) (of_decide_eq_true (by kernel_rfl)) k1 bel lt1) (trodAll_cons_mk (Below.trod passSame_laidOut (by kernel_rfl) (of_decide_eq_true (by kernel_rfl)) k2 bel lt2) trodAll_mk0))), rfl, bel.frame _, fun h => by cases h⟩

/-- The statement. -/
theorem passSame_proved : Rows.PassSameSaid :=
  OpenClaim.holds_of_wide 4 Try.f4 rfl rfl rfl rfl rfl rfl rfl ⟨rfl, rfl, rfl, rfl, rfl⟩ rfl rfl rfl rfl rfl (by kernel_rfl) Try.func4 (by kernel_rfl)
    (of_decide_eq_true (by kernel_rfl)) (by unfold Func.isWrapper; first | (rw [if_pos (by decide +kernel)]; kernel_rfl) | (rw [if_neg (by decide +kernel)]; exact ⟨rfl, rfl⟩))
    (fun os started H enc _ => passSame_lifted os started H enc)

#print axioms passSame_proved
end Go.Proofs.Ytfjllohhjpiphaa
