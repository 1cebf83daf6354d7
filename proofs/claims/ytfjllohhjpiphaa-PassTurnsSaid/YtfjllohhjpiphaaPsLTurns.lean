/-
  The statement PassTurns: two pass one another just if, turned, they do, in the other order; and what they are then is turned, too.
-/
import Derived.Test.YtfjllohhjpiphaaPsTurn
import Derived.Test.YtfjllohhjpiphaaPsLaw
import Derived.OpenShut
import Derived.ShutString
import Derived.BigQuiet
set_option maxRecDepth 100000
namespace Go.Proofs.Ytfjllohhjpiphaa
open Go.RowKit
set_option linter.unusedVariables false
open Tr Tx Hk Pr
namespace PsL

set_option maxRecDepth 100000 in
set_option maxHeartbeats 8000000 in
theorem passTurns_walk (A_p : Option Addr) (n_p c_p : Nat) (B_p : Option Addr) (m_p d_p : Nat) (p : Ch) (A_q : Option Addr) (n_q c_q : Nat) (B_q : Option Addr) (m_q d_q : Nat) (q : Ch) (w : World) (h_p : PV w w.heap.size A_p n_p c_p B_p m_p d_p p) (h_q : PV w w.heap.size A_q n_q c_q B_q m_q d_q q) :
    Calls Try.prog 6 #[prV p.k p.nm p.to p.h.pos A_p n_p c_p B_p m_p d_p, prV q.k q.nm q.to q.h.pos A_q n_q c_q B_q m_q d_q] w (LawEnd w) := by
  have HV_p := Lib.hid h_p
  have HV_q := Lib.hid h_q
  have HB := Lib.hid (Below.refl w.heap.size w)
  clear h_p h_q
  go_enter Try.func6, Try.ntmps6
  go_wp2_with fail
  have hb : Below w.heap.size w (World.alloc (World.alloc w (.cells #[.int .i64 p.k, strV p.nm, strV p.to, .int .i64 p.h.pos, .slice A_p n_p c_p, .slice B_p m_p d_p] 26)) (.cells #[.int .i64 q.k, strV q.nm, strV q.to, .int .i64 q.h.pos, .slice A_q n_q c_q, .slice B_q m_q d_q] 26)) := (((Below.refl _ _).alloc (Nat.le_refl _) _).alloc (by simp) _)
  have b_p := (Blk.new w 26 #[.int .i64 p.k, strV p.nm, strV p.to, .int .i64 p.h.pos, .slice A_p n_p c_p, .slice B_p m_p d_p]).alloc (.cells #[.int .i64 q.k, strV q.nm, strV q.to, .int .i64 q.h.pos, .slice A_q n_q c_q, .slice B_q m_q d_q] 26)
  have b_q := Blk.new (World.alloc w (.cells #[.int .i64 p.k, strV p.nm, strV p.to, .int .i64 p.h.pos, .slice A_p n_p c_p, .slice B_p m_p d_p] 26)) 26 #[.int .i64 q.k, strV q.nm, strV q.to, .int .i64 q.h.pos, .slice A_q n_q c_q, .slice B_q m_q d_q]
  simp only [World.size_alloc] at b_q
  generalize (World.alloc (World.alloc w (.cells #[.int .i64 p.k, strV p.nm, strV p.to, .int .i64 p.h.pos, .slice A_p n_p c_p, .slice B_p m_p d_p] 26)) (.cells #[.int .i64 q.k, strV q.nm, strV q.to, .int .i64 q.h.pos, .slice A_q n_q c_q, .slice B_q m_q d_q] 26)) = w1 at *
  replace HV_p := Lib.hid (HV_p.out.mv hb)
  replace HV_q := Lib.hid (HV_q.out.mv hb)
  replace HB := Lib.hid (below_mv HB.out hb)
  clear hb
  obtain ⟨gb, hgb⟩ : ∃ gb, w.heap.size = gb := ⟨_, rfl⟩
  rw [hgb] at ⊢ b_p b_q
  clear hgb
  have HK_p := Lib.hid b_p; clear b_p
  have HK_q := Lib.hid b_q; clear b_q
  refine (PsAwake.awake w1).mono ?_
  rintro e w2 ⟨rfl, hb⟩
  replace HV_p := Lib.hid (HV_p.out.mv hb)
  replace HV_q := Lib.hid (HV_q.out.mv hb)
  replace HK_p := Lib.hid (HK_p.out.below hb HK_p.out.lt)
  replace HK_q := Lib.hid (HK_q.out.below hb HK_q.out.lt)
  replace HB := Lib.hid (below_mv HB.out hb)
  clear hb
  obtain ⟨bl_p, hbl⟩ : ∃ b, lightP p = b := ⟨_, rfl⟩
  have HBL_p := Lib.hid hbl; clear hbl
  have x0_p : w2.cell? ⟨gb, 0, none⟩ = some (.int .i64 p.k) := HK_p.out.cell 0 rfl; have x1_p : w2.cell? ⟨gb, 1, none⟩ = some (strV p.nm) := HK_p.out.cell 1 rfl; have x2_p : w2.cell? ⟨gb, 2, none⟩ = some (strV p.to) := HK_p.out.cell 2 rfl; have x3_p : w2.cell? ⟨gb, 3, none⟩ = some (.int .i64 p.h.pos) := HK_p.out.cell 3 rfl; have x4_p : w2.cell? ⟨gb, 4, none⟩ = some (.slice A_p n_p c_p) := HK_p.out.cell 4 rfl; have x5_p : w2.cell? ⟨gb, 5, none⟩ = some (.slice B_p m_p d_p) := HK_p.out.cell 5 rfl
  have yl_p := HK_p.out.lt
  go_wp2_with fail
  clear x0_p x1_p x2_p x3_p x4_p x5_p yl_p
  refine (LightP A_p n_p c_p B_p m_p d_p _ p _ bl_p (Nat.le_refl _) HV_p.out HBL_p.out).mono ?_
  rintro e w3 ⟨rfl, hb⟩
  replace HV_p := Lib.hid (HV_p.out.mv hb)
  replace HV_q := Lib.hid (HV_q.out.mv hb)
  replace HK_p := Lib.hid (HK_p.out.below hb HK_p.out.lt)
  replace HK_q := Lib.hid (HK_q.out.below hb HK_q.out.lt)
  replace HB := Lib.hid (below_mv HB.out hb)
  clear hb
  obtain ⟨bl_q, hbl⟩ : ∃ b, lightP q = b := ⟨_, rfl⟩
  have HBL_q := Lib.hid hbl; clear hbl
  have x0_q : w3.cell? ⟨gb + 1, 0, none⟩ = some (.int .i64 q.k) := HK_q.out.cell 0 rfl; have x1_q : w3.cell? ⟨gb + 1, 1, none⟩ = some (strV q.nm) := HK_q.out.cell 1 rfl; have x2_q : w3.cell? ⟨gb + 1, 2, none⟩ = some (strV q.to) := HK_q.out.cell 2 rfl; have x3_q : w3.cell? ⟨gb + 1, 3, none⟩ = some (.int .i64 q.h.pos) := HK_q.out.cell 3 rfl; have x4_q : w3.cell? ⟨gb + 1, 4, none⟩ = some (.slice A_q n_q c_q) := HK_q.out.cell 4 rfl; have x5_q : w3.cell? ⟨gb + 1, 5, none⟩ = some (.slice B_q m_q d_q) := HK_q.out.cell 5 rfl
  have yl_q := HK_q.out.lt
  have yk0_q : gb < w3.heap.size := Nat.lt_of_le_of_lt (by omega) yl_q
  go_wp2_with fail
  clear x0_q x1_q x2_q x3_q x4_q x5_q yl_q yk0_q
  refine (LightP A_q n_q c_q B_q m_q d_q _ q _ bl_q (Nat.le_refl _) HV_q.out HBL_q.out).mono ?_
  rintro e w4 ⟨rfl, hb⟩
  replace HV_p := Lib.hid (HV_p.out.mv hb)
  replace HV_q := Lib.hid (HV_q.out.mv hb)
  replace HK_p := Lib.hid (HK_p.out.below hb HK_p.out.lt)
  replace HK_q := Lib.hid (HK_q.out.below hb HK_q.out.lt)
  replace HB := Lib.hid (below_mv HB.out hb)
  clear hb
  cases bl_p with
  | false =>
    go_wp2
    go_ret
    exact ⟨rfl, HB.out⟩
  | true =>
  have HL_p := Lib.hid (HV_p.out.len HBL_p.out)
  cases bl_q with
  | false =>
    go_wp2
    go_ret
    exact ⟨rfl, HB.out⟩
  | true =>
  have HL_q := Lib.hid (HV_q.out.len HBL_q.out)
  obtain ⟨bp, hm⟩ : ∃ b, mayP p = b := ⟨_, rfl⟩
  have HM_p := Lib.hid hm; clear hm
  have x0_p : w4.cell? ⟨gb, 0, none⟩ = some (.int .i64 p.k) := HK_p.out.cell 0 rfl; have x1_p : w4.cell? ⟨gb, 1, none⟩ = some (strV p.nm) := HK_p.out.cell 1 rfl; have x2_p : w4.cell? ⟨gb, 2, none⟩ = some (strV p.to) := HK_p.out.cell 2 rfl; have x3_p : w4.cell? ⟨gb, 3, none⟩ = some (.int .i64 p.h.pos) := HK_p.out.cell 3 rfl; have x4_p : w4.cell? ⟨gb, 4, none⟩ = some (.slice A_p n_p c_p) := HK_p.out.cell 4 rfl; have x5_p : w4.cell? ⟨gb, 5, none⟩ = some (.slice B_p m_p d_p) := HK_p.out.cell 5 rfl
  have yl_p := HK_p.out.lt
  go_wp2_with fail
  clear x0_p x1_p x2_p x3_p x4_p x5_p yl_p
  refine (MayP A_p n_p c_p B_p m_p d_p p _ bp HV_p.out HM_p.out).mono ?_
  rintro e w5 ⟨rfl, hb⟩
  replace HV_p := Lib.hid (HV_p.out.mv hb)
  replace HV_q := Lib.hid (HV_q.out.mv hb)
  replace HK_p := Lib.hid (HK_p.out.below hb HK_p.out.lt)
  replace HK_q := Lib.hid (HK_q.out.below hb HK_q.out.lt)
  replace HB := Lib.hid (below_mv HB.out hb)
  clear hb
  cases bp with
  | false =>
    go_wp2
    go_ret
    exact ⟨rfl, HB.out⟩
  | true =>
  obtain ⟨bq, hm⟩ : ∃ b, mayP q = b := ⟨_, rfl⟩
  have HM_q := Lib.hid hm; clear hm
  have x0_q : w5.cell? ⟨gb + 1, 0, none⟩ = some (.int .i64 q.k) := HK_q.out.cell 0 rfl; have x1_q : w5.cell? ⟨gb + 1, 1, none⟩ = some (strV q.nm) := HK_q.out.cell 1 rfl; have x2_q : w5.cell? ⟨gb + 1, 2, none⟩ = some (strV q.to) := HK_q.out.cell 2 rfl; have x3_q : w5.cell? ⟨gb + 1, 3, none⟩ = some (.int .i64 q.h.pos) := HK_q.out.cell 3 rfl; have x4_q : w5.cell? ⟨gb + 1, 4, none⟩ = some (.slice A_q n_q c_q) := HK_q.out.cell 4 rfl; have x5_q : w5.cell? ⟨gb + 1, 5, none⟩ = some (.slice B_q m_q d_q) := HK_q.out.cell 5 rfl
  have yl_q := HK_q.out.lt
  have yk0_q : gb < w5.heap.size := Nat.lt_of_le_of_lt (by omega) yl_q
  go_wp2_with fail
  clear x0_q x1_q x2_q x3_q x4_q x5_q yl_q yk0_q
  refine (MayP A_q n_q c_q B_q m_q d_q q _ bq HV_q.out HM_q.out).mono ?_
  rintro e w6 ⟨rfl, hb⟩
  replace HV_p := Lib.hid (HV_p.out.mv hb)
  replace HV_q := Lib.hid (HV_q.out.mv hb)
  replace HK_p := Lib.hid (HK_p.out.below hb HK_p.out.lt)
  replace HK_q := Lib.hid (HK_q.out.below hb HK_q.out.lt)
  replace HB := Lib.hid (below_mv HB.out hb)
  clear hb
  cases bq with
  | false =>
    go_wp2
    go_ret
    exact ⟨rfl, HB.out⟩
  | true =>
  have x0_p : w6.cell? ⟨gb, 0, none⟩ = some (.int .i64 p.k) := HK_p.out.cell 0 rfl; have x1_p : w6.cell? ⟨gb, 1, none⟩ = some (strV p.nm) := HK_p.out.cell 1 rfl; have x2_p : w6.cell? ⟨gb, 2, none⟩ = some (strV p.to) := HK_p.out.cell 2 rfl; have x3_p : w6.cell? ⟨gb, 3, none⟩ = some (.int .i64 p.h.pos) := HK_p.out.cell 3 rfl; have x4_p : w6.cell? ⟨gb, 4, none⟩ = some (.slice A_p n_p c_p) := HK_p.out.cell 4 rfl; have x5_p : w6.cell? ⟨gb, 5, none⟩ = some (.slice B_p m_p d_p) := HK_p.out.cell 5 rfl
  have yl_p := HK_p.out.lt
  have x0_q : w6.cell? ⟨gb + 1, 0, none⟩ = some (.int .i64 q.k) := HK_q.out.cell 0 rfl; have x1_q : w6.cell? ⟨gb + 1, 1, none⟩ = some (strV q.nm) := HK_q.out.cell 1 rfl; have x2_q : w6.cell? ⟨gb + 1, 2, none⟩ = some (strV q.to) := HK_q.out.cell 2 rfl; have x3_q : w6.cell? ⟨gb + 1, 3, none⟩ = some (.int .i64 q.h.pos) := HK_q.out.cell 3 rfl; have x4_q : w6.cell? ⟨gb + 1, 4, none⟩ = some (.slice A_q n_q c_q) := HK_q.out.cell 4 rfl; have x5_q : w6.cell? ⟨gb + 1, 5, none⟩ = some (.slice B_q m_q d_q) := HK_q.out.cell 5 rfl
  have yl_q := HK_q.out.lt
  have yk0_q : gb < w6.heap.size := Nat.lt_of_le_of_lt (by omega) yl_q
  by_cases t0 : 524288 < p.h.pos
  · go_wp2
    go_ret
    exact ⟨rfl, HB.out⟩
  by_cases t1 : 524288 < q.h.pos
  · go_wp2
    go_ret
    exact ⟨rfl, HB.out⟩
  go_wp2_with fail
  clear t0 t1
  clear x0_p x1_p x2_p x3_p x4_p x5_p yl_p
  clear x0_q x1_q x2_q x3_q x4_q x5_q yl_q yk0_q
  obtain ⟨⟨x, y⟩, hx⟩ : ∃ z, outP (passP p q) = z := ⟨_, rfl⟩
  obtain ⟨b, hs⟩ : ∃ b, (passP p q).isSome = b := ⟨_, rfl⟩
  have HX_x := Lib.hid hx; have HS_x := Lib.hid hs; clear hx hs
  refine (PassP A_p n_p c_p B_p m_p d_p A_q n_q c_q B_q m_q d_q p q x y w6 b HL_p.out HL_q.out HV_p.out HV_q.out HX_x.out HS_x.out).mono ?_
  rintro e w7 ⟨A_x, n_x, c_x, B_x, m_x, d_x, A_y, n_y, c_y, B_y, m_y, d_y, rfl, hv, gv, hl, gl, hb⟩
  replace HV_p := Lib.hid (HV_p.out.mv hb)
  replace HV_q := Lib.hid (HV_q.out.mv hb)
  replace HK_p := Lib.hid (HK_p.out.below hb HK_p.out.lt)
  replace HK_q := Lib.hid (HK_q.out.below hb HK_q.out.lt)
  replace HB := Lib.hid (below_mv HB.out hb)
  clear hb
  have HV_x := Lib.hid hv; have HV_y := Lib.hid gv; have HL_x := Lib.hid hl; have HL_y := Lib.hid gl; clear hv gv hl gl
  have x0_p : w7.cell? ⟨gb, 0, none⟩ = some (.int .i64 p.k) := HK_p.out.cell 0 rfl; have x1_p : w7.cell? ⟨gb, 1, none⟩ = some (strV p.nm) := HK_p.out.cell 1 rfl; have x2_p : w7.cell? ⟨gb, 2, none⟩ = some (strV p.to) := HK_p.out.cell 2 rfl; have x3_p : w7.cell? ⟨gb, 3, none⟩ = some (.int .i64 p.h.pos) := HK_p.out.cell 3 rfl; have x4_p : w7.cell? ⟨gb, 4, none⟩ = some (.slice A_p n_p c_p) := HK_p.out.cell 4 rfl; have x5_p : w7.cell? ⟨gb, 5, none⟩ = some (.slice B_p m_p d_p) := HK_p.out.cell 5 rfl
  have yl_p := HK_p.out.lt
  have x0_q : w7.cell? ⟨gb + 1, 0, none⟩ = some (.int .i64 q.k) := HK_q.out.cell 0 rfl; have x1_q : w7.cell? ⟨gb + 1, 1, none⟩ = some (strV q.nm) := HK_q.out.cell 1 rfl; have x2_q : w7.cell? ⟨gb + 1, 2, none⟩ = some (strV q.to) := HK_q.out.cell 2 rfl; have x3_q : w7.cell? ⟨gb + 1, 3, none⟩ = some (.int .i64 q.h.pos) := HK_q.out.cell 3 rfl; have x4_q : w7.cell? ⟨gb + 1, 4, none⟩ = some (.slice A_q n_q c_q) := HK_q.out.cell 4 rfl; have x5_q : w7.cell? ⟨gb + 1, 5, none⟩ = some (.slice B_q m_q d_q) := HK_q.out.cell 5 rfl
  have yl_q := HK_q.out.lt
  have yk0_q : gb < w7.heap.size := Nat.lt_of_le_of_lt (by omega) yl_q
  go_wp2_with fail
  clear x0_p x1_p x2_p x3_p x4_p x5_p yl_p
  clear x0_q x1_q x2_q x3_q x4_q x5_q yl_q yk0_q
  have hb : Below w7.heap.size w7 (World.alloc (World.alloc w7 (.cells #[.int .i64 x.k, strV x.nm, strV x.to, .int .i64 x.h.pos, .slice A_x n_x c_x, .slice B_x m_x d_x] 26)) (.cells #[.int .i64 y.k, strV y.nm, strV y.to, .int .i64 y.h.pos, .slice A_y n_y c_y, .slice B_y m_y d_y] 26)) := two_box _ _ _
  have b_x := (Blk.new w7 26 #[.int .i64 x.k, strV x.nm, strV x.to, .int .i64 x.h.pos, .slice A_x n_x c_x, .slice B_x m_x d_x]).alloc (.cells #[.int .i64 y.k, strV y.nm, strV y.to, .int .i64 y.h.pos, .slice A_y n_y c_y, .slice B_y m_y d_y] 26)
  have b_y := Blk.new (World.alloc w7 (.cells #[.int .i64 x.k, strV x.nm, strV x.to, .int .i64 x.h.pos, .slice A_x n_x c_x, .slice B_x m_x d_x] 26)) 26 #[.int .i64 y.k, strV y.nm, strV y.to, .int .i64 y.h.pos, .slice A_y n_y c_y, .slice B_y m_y d_y]
  simp only [World.size_alloc] at b_y
  generalize (World.alloc (World.alloc w7 (.cells #[.int .i64 x.k, strV x.nm, strV x.to, .int .i64 x.h.pos, .slice A_x n_x c_x, .slice B_x m_x d_x] 26)) (.cells #[.int .i64 y.k, strV y.nm, strV y.to, .int .i64 y.h.pos, .slice A_y n_y c_y, .slice B_y m_y d_y] 26)) = w8 at *
  replace HV_p := Lib.hid (HV_p.out.mv hb)
  replace HV_q := Lib.hid (HV_q.out.mv hb)
  replace HV_x := Lib.hid (HV_x.out.mv hb)
  replace HV_y := Lib.hid (HV_y.out.mv hb)
  replace HK_p := Lib.hid (HK_p.out.below hb HK_p.out.lt)
  replace HK_q := Lib.hid (HK_q.out.below hb HK_q.out.lt)
  replace HB := Lib.hid (below_mv HB.out hb)
  clear hb
  generalize w7.heap.size = ux at *
  have HK_x := Lib.hid b_x; have HK_y := Lib.hid b_y; clear b_x b_y
  obtain ⟨tq, htq⟩ : ∃ z, turnP q = z := ⟨_, rfl⟩
  obtain ⟨tp, htp⟩ : ∃ z, turnP p = z := ⟨_, rfl⟩
  obtain ⟨⟨r, s⟩, hx4⟩ : ∃ z, outP (passP tq tp) = z := ⟨_, rfl⟩
  obtain ⟨was, hs4⟩ : ∃ b, (passP tq tp).isSome = b := ⟨_, rfl⟩
  have hss : ∀ W, Below w8.heap.size w8 W → Below w8.heap.size w8 W ∧ W.cell? ⟨gb, 0, none⟩ = some (.int .i64 p.k) ∧ W.cell? ⟨gb, 1, none⟩ = some (strV p.nm) ∧ W.cell? ⟨gb, 2, none⟩ = some (strV p.to) ∧ W.cell? ⟨gb, 3, none⟩ = some (.int .i64 p.h.pos) ∧ W.cell? ⟨gb, 4, none⟩ = some (.slice A_p n_p c_p) ∧ W.cell? ⟨gb, 5, none⟩ = some (.slice B_p m_p d_p) ∧ W.cell? ⟨gb + 1, 0, none⟩ = some (.int .i64 q.k) ∧ W.cell? ⟨gb + 1, 1, none⟩ = some (strV q.nm) ∧ W.cell? ⟨gb + 1, 2, none⟩ = some (strV q.to) ∧ W.cell? ⟨gb + 1, 3, none⟩ = some (.int .i64 q.h.pos) ∧ W.cell? ⟨gb + 1, 4, none⟩ = some (.slice A_q n_q c_q) ∧ W.cell? ⟨gb + 1, 5, none⟩ = some (.slice B_q m_q d_q) := fun W hb => by
    have x := HK_p.out.below hb HK_p.out.lt
    have y := HK_q.out.below hb HK_q.out.lt
    exact ⟨hb, x.cell 0 rfl, x.cell 1 rfl, x.cell 2 rfl, x.cell 3 rfl, x.cell 4 rfl, x.cell 5 rfl, y.cell 0 rfl, y.cell 1 rfl, y.cell 2 rfl, y.cell 3 rfl, y.cell 4 rfl, y.cell 5 rfl⟩
  have HS0 := Lib.hid (hss w8 (Below.refl _ _))
  have HKD := Lib.hid (hss w8.drew (below_drewN (Below.refl _ _) 1))
  have HKA : Hid (∀ W o, (Below w8.heap.size w8 W ∧ W.cell? ⟨gb, 0, none⟩ = some (.int .i64 p.k) ∧ W.cell? ⟨gb, 1, none⟩ = some (strV p.nm) ∧ W.cell? ⟨gb, 2, none⟩ = some (strV p.to) ∧ W.cell? ⟨gb, 3, none⟩ = some (.int .i64 p.h.pos) ∧ W.cell? ⟨gb, 4, none⟩ = some (.slice A_p n_p c_p) ∧ W.cell? ⟨gb, 5, none⟩ = some (.slice B_p m_p d_p) ∧ W.cell? ⟨gb + 1, 0, none⟩ = some (.int .i64 q.k) ∧ W.cell? ⟨gb + 1, 1, none⟩ = some (strV q.nm) ∧ W.cell? ⟨gb + 1, 2, none⟩ = some (strV q.to) ∧ W.cell? ⟨gb + 1, 3, none⟩ = some (.int .i64 q.h.pos) ∧ W.cell? ⟨gb + 1, 4, none⟩ = some (.slice A_q n_q c_q) ∧ W.cell? ⟨gb + 1, 5, none⟩ = some (.slice B_q m_q d_q)) → Below w8.heap.size w8 (W.alloc o) ∧ (W.alloc o).cell? ⟨gb, 0, none⟩ = some (.int .i64 p.k) ∧ (W.alloc o).cell? ⟨gb, 1, none⟩ = some (strV p.nm) ∧ (W.alloc o).cell? ⟨gb, 2, none⟩ = some (strV p.to) ∧ (W.alloc o).cell? ⟨gb, 3, none⟩ = some (.int .i64 p.h.pos) ∧ (W.alloc o).cell? ⟨gb, 4, none⟩ = some (.slice A_p n_p c_p) ∧ (W.alloc o).cell? ⟨gb, 5, none⟩ = some (.slice B_p m_p d_p) ∧ (W.alloc o).cell? ⟨gb + 1, 0, none⟩ = some (.int .i64 q.k) ∧ (W.alloc o).cell? ⟨gb + 1, 1, none⟩ = some (strV q.nm) ∧ (W.alloc o).cell? ⟨gb + 1, 2, none⟩ = some (strV q.to) ∧ (W.alloc o).cell? ⟨gb + 1, 3, none⟩ = some (.int .i64 q.h.pos) ∧ (W.alloc o).cell? ⟨gb + 1, 4, none⟩ = some (.slice A_q n_q c_q) ∧ (W.alloc o).cell? ⟨gb + 1, 5, none⟩ = some (.slice B_q m_q d_q)) := Lib.hid (fun W o h => hss _ (h.1.alloc h.1.size o))
  have HKS : Hid (∀ W T v0 v1 v2 v3 v4 v5, (Below w8.heap.size w8 W ∧ W.cell? ⟨gb, 0, none⟩ = some (.int .i64 p.k) ∧ W.cell? ⟨gb, 1, none⟩ = some (strV p.nm) ∧ W.cell? ⟨gb, 2, none⟩ = some (strV p.to) ∧ W.cell? ⟨gb, 3, none⟩ = some (.int .i64 p.h.pos) ∧ W.cell? ⟨gb, 4, none⟩ = some (.slice A_p n_p c_p) ∧ W.cell? ⟨gb, 5, none⟩ = some (.slice B_p m_p d_p) ∧ W.cell? ⟨gb + 1, 0, none⟩ = some (.int .i64 q.k) ∧ W.cell? ⟨gb + 1, 1, none⟩ = some (strV q.nm) ∧ W.cell? ⟨gb + 1, 2, none⟩ = some (strV q.to) ∧ W.cell? ⟨gb + 1, 3, none⟩ = some (.int .i64 q.h.pos) ∧ W.cell? ⟨gb + 1, 4, none⟩ = some (.slice A_q n_q c_q) ∧ W.cell? ⟨gb + 1, 5, none⟩ = some (.slice B_q m_q d_q)) → w8.heap.size ≤ T → Below w8.heap.size w8 (((((((W.setCell ⟨T, 0, none⟩ v0).setCell ⟨T, 1, none⟩ v1).setCell ⟨T, 2, none⟩ v2).setCell ⟨T, 3, none⟩ v3).setCell ⟨T, 4, none⟩ v4).setCell ⟨T, 5, none⟩ v5)) ∧ (((((((W.setCell ⟨T, 0, none⟩ v0).setCell ⟨T, 1, none⟩ v1).setCell ⟨T, 2, none⟩ v2).setCell ⟨T, 3, none⟩ v3).setCell ⟨T, 4, none⟩ v4).setCell ⟨T, 5, none⟩ v5)).cell? ⟨gb, 0, none⟩ = some (.int .i64 p.k) ∧ (((((((W.setCell ⟨T, 0, none⟩ v0).setCell ⟨T, 1, none⟩ v1).setCell ⟨T, 2, none⟩ v2).setCell ⟨T, 3, none⟩ v3).setCell ⟨T, 4, none⟩ v4).setCell ⟨T, 5, none⟩ v5)).cell? ⟨gb, 1, none⟩ = some (strV p.nm) ∧ (((((((W.setCell ⟨T, 0, none⟩ v0).setCell ⟨T, 1, none⟩ v1).setCell ⟨T, 2, none⟩ v2).setCell ⟨T, 3, none⟩ v3).setCell ⟨T, 4, none⟩ v4).setCell ⟨T, 5, none⟩ v5)).cell? ⟨gb, 2, none⟩ = some (strV p.to) ∧ (((((((W.setCell ⟨T, 0, none⟩ v0).setCell ⟨T, 1, none⟩ v1).setCell ⟨T, 2, none⟩ v2).setCell ⟨T, 3, none⟩ v3).setCell ⟨T, 4, none⟩ v4).setCell ⟨T, 5, none⟩ v5)).cell? ⟨gb, 3, none⟩ = some (.int .i64 p.h.pos) ∧ (((((((W.setCell ⟨T, 0, none⟩ v0).setCell ⟨T, 1, none⟩ v1).setCell ⟨T, 2, none⟩ v2).setCell ⟨T, 3, none⟩ v3).setCell ⟨T, 4, none⟩ v4).setCell ⟨T, 5, none⟩ v5)).cell? ⟨gb, 4, none⟩ = some (.slice A_p n_p c_p) ∧ (((((((W.setCell ⟨T, 0, none⟩ v0).setCell ⟨T, 1, none⟩ v1).setCell ⟨T, 2, none⟩ v2).setCell ⟨T, 3, none⟩ v3).setCell ⟨T, 4, none⟩ v4).setCell ⟨T, 5, none⟩ v5)).cell? ⟨gb, 5, none⟩ = some (.slice B_p m_p d_p) ∧ (((((((W.setCell ⟨T, 0, none⟩ v0).setCell ⟨T, 1, none⟩ v1).setCell ⟨T, 2, none⟩ v2).setCell ⟨T, 3, none⟩ v3).setCell ⟨T, 4, none⟩ v4).setCell ⟨T, 5, none⟩ v5)).cell? ⟨gb + 1, 0, none⟩ = some (.int .i64 q.k) ∧ (((((((W.setCell ⟨T, 0, none⟩ v0).setCell ⟨T, 1, none⟩ v1).setCell ⟨T, 2, none⟩ v2).setCell ⟨T, 3, none⟩ v3).setCell ⟨T, 4, none⟩ v4).setCell ⟨T, 5, none⟩ v5)).cell? ⟨gb + 1, 1, none⟩ = some (strV q.nm) ∧ (((((((W.setCell ⟨T, 0, none⟩ v0).setCell ⟨T, 1, none⟩ v1).setCell ⟨T, 2, none⟩ v2).setCell ⟨T, 3, none⟩ v3).setCell ⟨T, 4, none⟩ v4).setCell ⟨T, 5, none⟩ v5)).cell? ⟨gb + 1, 2, none⟩ = some (strV q.to) ∧ (((((((W.setCell ⟨T, 0, none⟩ v0).setCell ⟨T, 1, none⟩ v1).setCell ⟨T, 2, none⟩ v2).setCell ⟨T, 3, none⟩ v3).setCell ⟨T, 4, none⟩ v4).setCell ⟨T, 5, none⟩ v5)).cell? ⟨gb + 1, 3, none⟩ = some (.int .i64 q.h.pos) ∧ (((((((W.setCell ⟨T, 0, none⟩ v0).setCell ⟨T, 1, none⟩ v1).setCell ⟨T, 2, none⟩ v2).setCell ⟨T, 3, none⟩ v3).setCell ⟨T, 4, none⟩ v4).setCell ⟨T, 5, none⟩ v5)).cell? ⟨gb + 1, 4, none⟩ = some (.slice A_q n_q c_q) ∧ (((((((W.setCell ⟨T, 0, none⟩ v0).setCell ⟨T, 1, none⟩ v1).setCell ⟨T, 2, none⟩ v2).setCell ⟨T, 3, none⟩ v3).setCell ⟨T, 4, none⟩ v4).setCell ⟨T, 5, none⟩ v5)).cell? ⟨gb + 1, 5, none⟩ = some (.slice B_q m_q d_q)) := Lib.hid (fun W T v0 v1 v2 v3 v4 v5 h hT => hss _ (PsT.bel_set6 h.1 hT v0 v1 v2 v3 v4 v5))
  have HSS := Lib.hid hss
  have HT1 : Hid (∀ W, (Below w8.heap.size w8 W ∧ W.cell? ⟨gb, 0, none⟩ = some (.int .i64 p.k) ∧ W.cell? ⟨gb, 1, none⟩ = some (strV p.nm) ∧ W.cell? ⟨gb, 2, none⟩ = some (strV p.to) ∧ W.cell? ⟨gb, 3, none⟩ = some (.int .i64 p.h.pos) ∧ W.cell? ⟨gb, 4, none⟩ = some (.slice A_p n_p c_p) ∧ W.cell? ⟨gb, 5, none⟩ = some (.slice B_p m_p d_p) ∧ W.cell? ⟨gb + 1, 0, none⟩ = some (.int .i64 q.k) ∧ W.cell? ⟨gb + 1, 1, none⟩ = some (strV q.nm) ∧ W.cell? ⟨gb + 1, 2, none⟩ = some (strV q.to) ∧ W.cell? ⟨gb + 1, 3, none⟩ = some (.int .i64 q.h.pos) ∧ W.cell? ⟨gb + 1, 4, none⟩ = some (.slice A_q n_q c_q) ∧ W.cell? ⟨gb + 1, 5, none⟩ = some (.slice B_q m_q d_q)) → Calls Try.prog 22 #[prV q.k q.nm q.to q.h.pos A_q n_q c_q B_q m_q d_q] W (PTEnd W tq)) := Lib.hid (fun W h => TurnC htq HL_q.out.1 HL_q.out.2 ((HV_q.out.below h.1).up h.1.size))
  have HT2 : Hid (∀ W, (Below w8.heap.size w8 W ∧ W.cell? ⟨gb, 0, none⟩ = some (.int .i64 p.k) ∧ W.cell? ⟨gb, 1, none⟩ = some (strV p.nm) ∧ W.cell? ⟨gb, 2, none⟩ = some (strV p.to) ∧ W.cell? ⟨gb, 3, none⟩ = some (.int .i64 p.h.pos) ∧ W.cell? ⟨gb, 4, none⟩ = some (.slice A_p n_p c_p) ∧ W.cell? ⟨gb, 5, none⟩ = some (.slice B_p m_p d_p) ∧ W.cell? ⟨gb + 1, 0, none⟩ = some (.int .i64 q.k) ∧ W.cell? ⟨gb + 1, 1, none⟩ = some (strV q.nm) ∧ W.cell? ⟨gb + 1, 2, none⟩ = some (strV q.to) ∧ W.cell? ⟨gb + 1, 3, none⟩ = some (.int .i64 q.h.pos) ∧ W.cell? ⟨gb + 1, 4, none⟩ = some (.slice A_q n_q c_q) ∧ W.cell? ⟨gb + 1, 5, none⟩ = some (.slice B_q m_q d_q)) → Calls Try.prog 22 #[prV p.k p.nm p.to p.h.pos A_p n_p c_p B_p m_p d_p] W (PTEnd W tp)) := Lib.hid (fun W h => TurnC htp HL_p.out.1 HL_p.out.2 ((HV_p.out.below h.1).up h.1.size))
  have HT3 : Hid (∀ W A n c B m d D i j E k l, PV W W.heap.size A n c B m d tq → PV W W.heap.size D i j E k l tp → tq.h.old.length = n → tq.h.new.length = m → tp.h.old.length = i → tp.h.new.length = k → Calls Try.prog 13 #[prV tq.k tq.nm tq.to tq.h.pos A n c B m d, prV tp.k tp.nm tp.to tp.h.pos D i j E k l] W (PPEndH W r s was)) :=
    Lib.hid (fun W A n c B m d D i j E k l x y e1 e2 e3 e4 => PassPH A n c B m d D i j E k l tq tp r s W was (turn_len HL_q.out HV_q.out (by rw [htq]; exact e1) (by rw [htq]; exact e2)) (turn_len HL_p.out HV_p.out (by rw [htp]; exact e3) (by rw [htp]; exact e4)) x y hx4 hs4)
  have HX4 := Lib.hid hx4; have HS4 := Lib.hid hs4; have HTQ := Lib.hid htq; have HTP := Lib.hid htp; clear hx4 hs4 hss htq htp
  go_cut [11, 12, 13] from 14 (fun s11 s12 s13 wx => ∃ (T U : Nat) (A4 : Option Addr) (n4 c4 : Nat) (B4 : Option Addr) (m4 d4 : Nat) (A5 : Option Addr) (n5 c5 : Nat) (B5 : Option Addr) (m5 d5 : Nat), s11 = .pointer (some ⟨T, 0, none⟩) ∧ s12 = .pointer (some ⟨U, 0, none⟩) ∧ s13 = .bool was ∧
      PsT.Lay w8 wx T U A4 n4 c4 B4 m4 d4 r A5 n5 c5 B5 m5 d5 s ∧ ((n4 ≤ 1000 ∧ m4 ≤ 1000) ∧ (n5 ≤ 1000 ∧ m5 ≤ 1000)))
  case first =>
    clear HK_p HK_q HK_x HK_y HV_p HV_q HV_x HV_y HB
    obtain ⟨_, x0, x1, x2, x3, x4, x5, y0, y1, y2, y3, y4, y5⟩ := HS0.out
    go_region_held3 (fun W => Below w8.heap.size w8 W ∧ W.cell? ⟨gb, 0, none⟩ = some (.int .i64 p.k) ∧ W.cell? ⟨gb, 1, none⟩ = some (strV p.nm) ∧ W.cell? ⟨gb, 2, none⟩ = some (strV p.to) ∧ W.cell? ⟨gb, 3, none⟩ = some (.int .i64 p.h.pos) ∧ W.cell? ⟨gb, 4, none⟩ = some (.slice A_p n_p c_p) ∧ W.cell? ⟨gb, 5, none⟩ = some (.slice B_p m_p d_p) ∧ W.cell? ⟨gb + 1, 0, none⟩ = some (.int .i64 q.k) ∧ W.cell? ⟨gb + 1, 1, none⟩ = some (strV q.nm) ∧ W.cell? ⟨gb + 1, 2, none⟩ = some (strV q.to) ∧ W.cell? ⟨gb + 1, 3, none⟩ = some (.int .i64 q.h.pos) ∧ W.cell? ⟨gb + 1, 4, none⟩ = some (.slice A_q n_q c_q) ∧ W.cell? ⟨gb + 1, 5, none⟩ = some (.slice B_q m_q d_q))
      (first
        | (with_reducible exact HKD.out)
        | (with_reducible exact HSS.out _ (PsT.belD1 w8 _))
        | (with_reducible exact HSS.out _ (PsT.belD2 w8 _ _))
        | (with_reducible exact hS1)
        | (with_reducible exact HKA.out _ _ hS1)
        | (with_reducible exact HKA.out _ _ (HKA.out _ _ hS1))
        | (with_reducible exact hS2)
        | (with_reducible exact HKA.out _ _ hS2)
        | (with_reducible exact HKA.out _ _ (HKA.out _ _ hS2))
        | (with_reducible exact hS3)
        | (with_reducible exact HKA.out _ _ hS3)
        | (with_reducible exact HKA.out _ _ (HKA.out _ _ hS3))
        | (with_reducible exact HKS.out _ _ _ _ _ _ _ _ hS3 tlp)
        | (with_reducible exact HKS.out _ _ _ _ _ _ _ _ hS3 tlq)
        | (with_reducible exact HKA.out _ _ (HKS.out _ _ _ _ _ _ _ _ hS3 tlp))
        | (with_reducible exact HKS.out _ _ _ _ _ _ _ _ (HKS.out _ _ _ _ _ _ _ _ hS3 tlp) tlq)
        | (with_reducible exact HKS.out _ _ _ _ _ _ _ _ (HKS.out _ _ _ _ _ _ _ _ hS3 tlq) tlp))
      (first
        | (go_at_call 22; (with_reducible refine (HT1.out (w8.drew) (HSS.out (w8.drew) (PsT.belD0 w8 ))).mono ?_); rintro e u1 ⟨P1, i1, j1, Q1, k1, l1, rfl, hv, e1, e2, hb⟩; have hbc := PsT.thrD0 hb; have hS1 := HSS.out u1 hbc; have HU1 := Lib.hid hbc; have HV1 := Lib.hid hv; have HL1 := Lib.hid (And.intro e1 e2); clear hb hbc hv e1 e2)
        | (go_at_call 22; (with_reducible refine (HT1.out ((w8.alloc (.cells #[.int .i64 0, strV [], strV [], .int .i64 0, .slice none 0 0, .slice none 0 0] 26)).drew) (HSS.out ((w8.alloc (.cells #[.int .i64 0, strV [], strV [], .int .i64 0, .slice none 0 0, .slice none 0 0] 26)).drew) (PsT.belD1 w8 (.cells #[.int .i64 0, strV [], strV [], .int .i64 0, .slice none 0 0, .slice none 0 0] 26)))).mono ?_); rintro e u1 ⟨P1, i1, j1, Q1, k1, l1, rfl, hv, e1, e2, hb⟩; have hbc := PsT.thrD1 hb; have zn := PsT.newD1 hb; (first | (have zpq := zpl; have zq := zn; have tlq := (Nat.le_refl w8.heap.size)) | (have zp := zn; have tlp := (Nat.le_refl w8.heap.size))); clear zn; have hS1 := HSS.out u1 hbc; have HU1 := Lib.hid hbc; have HV1 := Lib.hid hv; have HL1 := Lib.hid (And.intro e1 e2); clear hb hbc hv e1 e2)
        | (go_at_call 22; (with_reducible refine (HT1.out (((w8.alloc (.cells #[.int .i64 0, strV [], strV [], .int .i64 0, .slice none 0 0, .slice none 0 0] 26)).alloc (.cells #[.int .i64 0, strV [], strV [], .int .i64 0, .slice none 0 0, .slice none 0 0] 26)).drew) (HSS.out (((w8.alloc (.cells #[.int .i64 0, strV [], strV [], .int .i64 0, .slice none 0 0, .slice none 0 0] 26)).alloc (.cells #[.int .i64 0, strV [], strV [], .int .i64 0, .slice none 0 0, .slice none 0 0] 26)).drew) (PsT.belD2 w8 (.cells #[.int .i64 0, strV [], strV [], .int .i64 0, .slice none 0 0, .slice none 0 0] 26) (.cells #[.int .i64 0, strV [], strV [], .int .i64 0, .slice none 0 0, .slice none 0 0] 26)))).mono ?_); rintro e u1 ⟨P1, i1, j1, Q1, k1, l1, rfl, hv, e1, e2, hb⟩; have hbc := PsT.thrD2 hb; obtain ⟨zn, zm⟩ := PsT.newD2 hb; have zp := zn; have tlp := (Nat.le_refl w8.heap.size); have zq := zm; have zpq := Nat.lt_succ_self w8.heap.size; have tlq : w8.heap.size ≤ w8.heap.size + 1 := Nat.le_succ_of_le (Nat.le_refl w8.heap.size); clear zn zm; have hS1 := HSS.out u1 hbc; have HU1 := Lib.hid hbc; have HV1 := Lib.hid hv; have HL1 := Lib.hid (And.intro e1 e2); clear hb hbc hv e1 e2)
        | (go_at_call 22; (with_reducible refine (HT2.out (u1) hS1).mono ?_); rintro e u2 ⟨P2, i2, j2, Q2, k2, l2, rfl, hv, e1, e2, hb⟩; have hbl := PsT.thr0 hb; have hbc := HU1.out.trans (hbl.mono HU1.out.size); (try (have zpl := zp.lt; have zp := zp.below hbl zpl)); (try have zq := zq.below hbl zq.lt); have hS2 := HSS.out u2 hbc; have HU2 := Lib.hid hbc; have HV2 := Lib.hid hv; have HL2 := Lib.hid (And.intro e1 e2); have HV1 := Lib.hid (PsT.pv_up HV1.out hbl); clear hb hbc hbl hv e1 e2)
        | (go_at_call 22; (with_reducible refine (HT2.out ((u1.alloc (.cells #[.int .i64 0, strV [], strV [], .int .i64 0, .slice none 0 0, .slice none 0 0] 26))) (HKA.out u1 (.cells #[.int .i64 0, strV [], strV [], .int .i64 0, .slice none 0 0, .slice none 0 0] 26) hS1)).mono ?_); rintro e u2 ⟨P2, i2, j2, Q2, k2, l2, rfl, hv, e1, e2, hb⟩; have hbl := PsT.thr1 hb; have hbc := HU1.out.trans (hbl.mono HU1.out.size); (try (have zpl := zp.lt; have zp := zp.below hbl zpl)); (try have zq := zq.below hbl zq.lt); have zn := PsT.new1 hb; (first | (have zpq := zpl; have zq := zn; have tlq := HU1.out.size) | (have zp := zn; have tlp := HU1.out.size)); clear zn; have hS2 := HSS.out u2 hbc; have HU2 := Lib.hid hbc; have HV2 := Lib.hid hv; have HL2 := Lib.hid (And.intro e1 e2); have HV1 := Lib.hid (PsT.pv_up HV1.out hbl); clear hb hbc hbl hv e1 e2)
        | (go_at_call 22; (with_reducible refine (HT2.out (((u1.alloc (.cells #[.int .i64 0, strV [], strV [], .int .i64 0, .slice none 0 0, .slice none 0 0] 26)).alloc (.cells #[.int .i64 0, strV [], strV [], .int .i64 0, .slice none 0 0, .slice none 0 0] 26))) (HKA.out (u1.alloc (.cells #[.int .i64 0, strV [], strV [], .int .i64 0, .slice none 0 0, .slice none 0 0] 26)) (.cells #[.int .i64 0, strV [], strV [], .int .i64 0, .slice none 0 0, .slice none 0 0] 26) (HKA.out u1 (.cells #[.int .i64 0, strV [], strV [], .int .i64 0, .slice none 0 0, .slice none 0 0] 26) hS1))).mono ?_); rintro e u2 ⟨P2, i2, j2, Q2, k2, l2, rfl, hv, e1, e2, hb⟩; have hbl := PsT.thr2 hb; have hbc := HU1.out.trans (hbl.mono HU1.out.size); (try (have zpl := zp.lt; have zp := zp.below hbl zpl)); (try have zq := zq.below hbl zq.lt); obtain ⟨zn, zm⟩ := PsT.new2 hb; have zp := zn; have tlp := HU1.out.size; have zq := zm; have zpq := Nat.lt_succ_self u1.heap.size; have tlq : w8.heap.size ≤ u1.heap.size + 1 := Nat.le_succ_of_le HU1.out.size; clear zn zm; have hS2 := HSS.out u2 hbc; have HU2 := Lib.hid hbc; have HV2 := Lib.hid hv; have HL2 := Lib.hid (And.intro e1 e2); have HV1 := Lib.hid (PsT.pv_up HV1.out hbl); clear hb hbc hbl hv e1 e2)
        | (go_at_call 13; (with_reducible refine (HT3.out (u2) P1 i1 j1 Q1 k1 l1 P2 i2 j2 Q2 k2 l2 (PsT.pv_up HV1.out (PsT.bel0 u2 )) (PsT.pv_up HV2.out (PsT.bel0 u2 )) HL1.out.1 HL1.out.2 HL2.out.1 HL2.out.2).mono ?_); rintro e u3 ⟨A4, n4, c4, B4, m4, d4, A5, n5, c5, B5, m5, d5, rfl, hv4, hv5, hl4, hl5, hhi, hb⟩; have hbl := PsT.thr0 hb; have hbc := HU2.out.trans (hbl.mono HU2.out.size); (try (have lop := zp.lt)); (try (have loq := zq.lt)); (try (have zpl := zp.lt; have zp := zp.below hbl zpl)); (try have zq := zq.below hbl zq.lt); have hS3 := HSS.out u3 hbc; have HU3 := Lib.hid hbc; have HV4 := Lib.hid hv4; have HV5 := Lib.hid hv5; have HBN := Lib.hid (And.intro hl4 hl5); have HHI := Lib.hid hhi; have tl3 := HU3.out.size; (try (have p0 := zp.cell 0 (u := .int .i64 0) rfl; have pf0 := zp.frozen 0; have p1 := zp.cell 1 (u := strV []) rfl; have pf1 := zp.frozen 1; have p2 := zp.cell 2 (u := strV []) rfl; have pf2 := zp.frozen 2; have p3 := zp.cell 3 (u := .int .i64 0) rfl; have pf3 := zp.frozen 3; have p4 := zp.cell 4 (u := .slice none 0 0) rfl; have pf4 := zp.frozen 4; have p5 := zp.cell 5 (u := .slice none 0 0) rfl; have pf5 := zp.frozen 5; have pl := zp.lt)); (try (have r0 := zq.cell 0 (u := .int .i64 0) rfl; have rf0 := zq.frozen 0; have r1 := zq.cell 1 (u := strV []) rfl; have rf1 := zq.frozen 1; have r2 := zq.cell 2 (u := strV []) rfl; have rf2 := zq.frozen 2; have r3 := zq.cell 3 (u := .int .i64 0) rfl; have rf3 := zq.frozen 3; have r4 := zq.cell 4 (u := .slice none 0 0) rfl; have rf4 := zq.frozen 4; have r5 := zq.cell 5 (u := .slice none 0 0) rfl; have rf5 := zq.frozen 5; have rl := zq.lt)); clear hb hbc hbl hv4 hv5 hl4 hl5 hhi)
        | (go_at_call 13; (with_reducible refine (HT3.out ((u2.alloc (.cells #[.int .i64 0, strV [], strV [], .int .i64 0, .slice none 0 0, .slice none 0 0] 26))) P1 i1 j1 Q1 k1 l1 P2 i2 j2 Q2 k2 l2 (PsT.pv_up HV1.out (PsT.bel1 u2 (.cells #[.int .i64 0, strV [], strV [], .int .i64 0, .slice none 0 0, .slice none 0 0] 26))) (PsT.pv_up HV2.out (PsT.bel1 u2 (.cells #[.int .i64 0, strV [], strV [], .int .i64 0, .slice none 0 0, .slice none 0 0] 26))) HL1.out.1 HL1.out.2 HL2.out.1 HL2.out.2).mono ?_); rintro e u3 ⟨A4, n4, c4, B4, m4, d4, A5, n5, c5, B5, m5, d5, rfl, hv4, hv5, hl4, hl5, hhi, hb⟩; have hbl := PsT.thr1 hb; have hbc := HU2.out.trans (hbl.mono HU2.out.size); (try (have lop := Nat.lt_of_lt_of_le zp.lt (PsT.bel1 u2 (.cells #[.int .i64 0, strV [], strV [], .int .i64 0, .slice none 0 0, .slice none 0 0] 26)).size)); (try (have loq := Nat.lt_of_lt_of_le zq.lt (PsT.bel1 u2 (.cells #[.int .i64 0, strV [], strV [], .int .i64 0, .slice none 0 0, .slice none 0 0] 26)).size)); (try (have zpl := zp.lt; have zp := zp.below hbl zpl)); (try have zq := zq.below hbl zq.lt); have zn := PsT.new1 hb; (first | (have zpq := zpl; have zq := zn; have loq := PsT.lt1 u2 (.cells #[.int .i64 0, strV [], strV [], .int .i64 0, .slice none 0 0, .slice none 0 0] 26); have tlq := HU2.out.size) | (have zp := zn; have lop := PsT.lt1 u2 (.cells #[.int .i64 0, strV [], strV [], .int .i64 0, .slice none 0 0, .slice none 0 0] 26); have tlp := HU2.out.size)); clear zn; have hS3 := HSS.out u3 hbc; have HU3 := Lib.hid hbc; have HV4 := Lib.hid hv4; have HV5 := Lib.hid hv5; have HBN := Lib.hid (And.intro hl4 hl5); have HHI := Lib.hid hhi; have tl3 := HU3.out.size; (try (have p0 := zp.cell 0 (u := .int .i64 0) rfl; have pf0 := zp.frozen 0; have p1 := zp.cell 1 (u := strV []) rfl; have pf1 := zp.frozen 1; have p2 := zp.cell 2 (u := strV []) rfl; have pf2 := zp.frozen 2; have p3 := zp.cell 3 (u := .int .i64 0) rfl; have pf3 := zp.frozen 3; have p4 := zp.cell 4 (u := .slice none 0 0) rfl; have pf4 := zp.frozen 4; have p5 := zp.cell 5 (u := .slice none 0 0) rfl; have pf5 := zp.frozen 5; have pl := zp.lt)); (try (have r0 := zq.cell 0 (u := .int .i64 0) rfl; have rf0 := zq.frozen 0; have r1 := zq.cell 1 (u := strV []) rfl; have rf1 := zq.frozen 1; have r2 := zq.cell 2 (u := strV []) rfl; have rf2 := zq.frozen 2; have r3 := zq.cell 3 (u := .int .i64 0) rfl; have rf3 := zq.frozen 3; have r4 := zq.cell 4 (u := .slice none 0 0) rfl; have rf4 := zq.frozen 4; have r5 := zq.cell 5 (u := .slice none 0 0) rfl; have rf5 := zq.frozen 5; have rl := zq.lt)); clear hb hbc hbl hv4 hv5 hl4 hl5 hhi)
        | (go_at_call 13; (with_reducible refine (HT3.out (((u2.alloc (.cells #[.int .i64 0, strV [], strV [], .int .i64 0, .slice none 0 0, .slice none 0 0] 26)).alloc (.cells #[.int .i64 0, strV [], strV [], .int .i64 0, .slice none 0 0, .slice none 0 0] 26))) P1 i1 j1 Q1 k1 l1 P2 i2 j2 Q2 k2 l2 (PsT.pv_up HV1.out (PsT.bel2 u2 (.cells #[.int .i64 0, strV [], strV [], .int .i64 0, .slice none 0 0, .slice none 0 0] 26) (.cells #[.int .i64 0, strV [], strV [], .int .i64 0, .slice none 0 0, .slice none 0 0] 26))) (PsT.pv_up HV2.out (PsT.bel2 u2 (.cells #[.int .i64 0, strV [], strV [], .int .i64 0, .slice none 0 0, .slice none 0 0] 26) (.cells #[.int .i64 0, strV [], strV [], .int .i64 0, .slice none 0 0, .slice none 0 0] 26))) HL1.out.1 HL1.out.2 HL2.out.1 HL2.out.2).mono ?_); rintro e u3 ⟨A4, n4, c4, B4, m4, d4, A5, n5, c5, B5, m5, d5, rfl, hv4, hv5, hl4, hl5, hhi, hb⟩; have hbl := PsT.thr2 hb; have hbc := HU2.out.trans (hbl.mono HU2.out.size); (try (have zpl := zp.lt; have zp := zp.below hbl zpl)); (try have zq := zq.below hbl zq.lt); obtain ⟨zn, zm⟩ := PsT.new2 hb; have zp := zn; have tlp := HU2.out.size; have zq := zm; have zpq := Nat.lt_succ_self u2.heap.size; have tlq : w8.heap.size ≤ u2.heap.size + 1 := Nat.le_succ_of_le HU2.out.size; clear zn zm; have lop := PsT.lt2 u2 (.cells #[.int .i64 0, strV [], strV [], .int .i64 0, .slice none 0 0, .slice none 0 0] 26) (.cells #[.int .i64 0, strV [], strV [], .int .i64 0, .slice none 0 0, .slice none 0 0] 26); have loq := PsT.lt2' u2 (.cells #[.int .i64 0, strV [], strV [], .int .i64 0, .slice none 0 0, .slice none 0 0] 26) (.cells #[.int .i64 0, strV [], strV [], .int .i64 0, .slice none 0 0, .slice none 0 0] 26); have hS3 := HSS.out u3 hbc; have HU3 := Lib.hid hbc; have HV4 := Lib.hid hv4; have HV5 := Lib.hid hv5; have HBN := Lib.hid (And.intro hl4 hl5); have HHI := Lib.hid hhi; have tl3 := HU3.out.size; (try (have p0 := zp.cell 0 (u := .int .i64 0) rfl; have pf0 := zp.frozen 0; have p1 := zp.cell 1 (u := strV []) rfl; have pf1 := zp.frozen 1; have p2 := zp.cell 2 (u := strV []) rfl; have pf2 := zp.frozen 2; have p3 := zp.cell 3 (u := .int .i64 0) rfl; have pf3 := zp.frozen 3; have p4 := zp.cell 4 (u := .slice none 0 0) rfl; have pf4 := zp.frozen 4; have p5 := zp.cell 5 (u := .slice none 0 0) rfl; have pf5 := zp.frozen 5; have pl := zp.lt)); (try (have r0 := zq.cell 0 (u := .int .i64 0) rfl; have rf0 := zq.frozen 0; have r1 := zq.cell 1 (u := strV []) rfl; have rf1 := zq.frozen 1; have r2 := zq.cell 2 (u := strV []) rfl; have rf2 := zq.frozen 2; have r3 := zq.cell 3 (u := .int .i64 0) rfl; have rf3 := zq.frozen 3; have r4 := zq.cell 4 (u := .slice none 0 0) rfl; have rf4 := zq.frozen 4; have r5 := zq.cell 5 (u := .slice none 0 0) rfl; have rf5 := zq.frozen 5; have rl := zq.lt)); clear hb hbc hbl hv4 hv5 hl4 hl5 hhi))
    all_goals (try go_wp2_with fail)
    all_goals go_meet
    all_goals first
      | (with_reducible exact ⟨_, _, A4, n4, c4, B4, m4, d4, A5, n5, c5, B5, m5, d5, rfl, rfl, rfl, PsT.lay_aa HU3.out HV4.out HV5.out, HBN.out⟩)
      | (with_reducible exact ⟨_, _, A4, n4, c4, B4, m4, d4, A5, n5, c5, B5, m5, d5, rfl, rfl, rfl, (PsT.lay_aa HU3.out HV5.out HV4.out).swap, HBN.out⟩)
      | (with_reducible exact ⟨_, _, A4, n4, c4, B4, m4, d4, A5, n5, c5, B5, m5, d5, rfl, rfl, rfl, PsT.lay_sa HU3.out zp tlp lop HHI.out HV4.out HV5.out, HBN.out⟩)
      | (with_reducible exact ⟨_, _, A4, n4, c4, B4, m4, d4, A5, n5, c5, B5, m5, d5, rfl, rfl, rfl, (PsT.lay_sa HU3.out zp tlp lop (PsT.Hi4.swap HHI.out) HV5.out HV4.out).swap, HBN.out⟩)
      | (with_reducible exact ⟨_, _, A4, n4, c4, B4, m4, d4, A5, n5, c5, B5, m5, d5, rfl, rfl, rfl, PsT.lay_ss HU3.out zp zq (Nat.ne_of_lt zpq) tlp tlq lop loq HHI.out HV4.out HV5.out, HBN.out⟩)
      | (with_reducible exact ⟨_, _, A4, n4, c4, B4, m4, d4, A5, n5, c5, B5, m5, d5, rfl, rfl, rfl, PsT.lay_ss HU3.out zq zp (Nat.ne_of_gt zpq) tlq tlp loq lop HHI.out HV4.out HV5.out, HBN.out⟩)
  case rest =>
    obtain ⟨T, U, A4, n4, c4, B4, m4, d4, A5, n5, c5, B5, m5, d5, rfl, rfl, rfl, ⟨b4, b5, v4, v5, hb⟩, hl4, hl5⟩ := hcut
    clear HS0 HKD HKA HKS HSS HT1 HT2 HT3
    replace HV_p := Lib.hid (HV_p.out.mv hb)
    replace HV_q := Lib.hid (HV_q.out.mv hb)
    replace HV_x := Lib.hid (HV_x.out.mv hb)
    replace HV_y := Lib.hid (HV_y.out.mv hb)
    replace HK_p := Lib.hid (HK_p.out.below hb HK_p.out.lt)
    replace HK_q := Lib.hid (HK_q.out.below hb HK_q.out.lt)
    replace HK_x := Lib.hid (HK_x.out.below hb HK_x.out.lt)
    replace HK_y := Lib.hid (HK_y.out.below hb HK_y.out.lt)
    replace HB := Lib.hid (below_mv HB.out hb)
    clear hb
    have HV_r := Lib.hid v4; have HV_s := Lib.hid v5; clear v4 v5
    cases b with
    | false =>
      obtain rfl : false = was := by rw [← HS4.out, ← HTQ.out, ← HTP.out, passP_turn_none (none_ofP HS_x.out)]; rfl
      go_wp2_with fail
      go_quiet (fail)
      go_wp2
      go_ret
      exact ⟨rfl, below_drewN HB.out _⟩
    | true =>
    have hT := passP_turn (outP_of HX_x.out HS_x.out)
    rw [HTQ.out, HTP.out] at hT
    obtain rfl : true = was := by rw [← HS4.out, hT]; rfl
    obtain ⟨ty, hty⟩ : ∃ z, turnP y = z := ⟨_, rfl⟩
    obtain ⟨tx, htx⟩ : ∃ z, turnP x = z := ⟨_, rfl⟩
    obtain ⟨e4, e5⟩ : r = ty ∧ s = tx := by
      have := HX4.out.symm.trans (outP_some hT)
      injection this with h1 h2
      exact ⟨by rw [← hty]; exact h1, by rw [← htx]; exact h2⟩
    have q4 : sameP r ty = true := by rw [e4]; exact sameP_self _
    have q5 : sameP s tx = true := by rw [e5]; exact sameP_self _
    clear e4 e5 hT
    have HM1 : Hid (∀ W, Below wc.heap.size wc W → Calls Try.prog 22 #[prV y.k y.nm y.to y.h.pos A_y n_y c_y B_y m_y d_y] W (PTEnd W ty)) := Lib.hid (fun W h => TurnC hty HL_y.out.1 HL_y.out.2 (PsT.pv_up HV_y.out h))
    have HM3 : Hid (∀ W, Below wc.heap.size wc W → Calls Try.prog 22 #[prV x.k x.nm x.to x.h.pos A_x n_x c_x B_x m_x d_x] W (PTEnd W tx)) := Lib.hid (fun W h => TurnC htx HL_x.out.1 HL_x.out.2 (PsT.pv_up HV_x.out h))
    have HM2 : Hid (∀ W A n c B m d, PV W W.heap.size A n c B m d ty → Below wc.heap.size wc W → Calls Try.prog 20 #[prV r.k r.nm r.to r.h.pos A4 n4 c4 B4 m4 d4, prV ty.k ty.nm ty.to ty.h.pos A n c B m d] W (TestEnd W true)) := Lib.hid (fun W A n c B m d x h => SameP A4 n4 c4 B4 m4 d4 A n c B m d r ty W true (PsT.pv_up HV_r.out h) x q4)
    have HM4 : Hid (∀ W A n c B m d, PV W W.heap.size A n c B m d tx → Below wc.heap.size wc W → Calls Try.prog 20 #[prV s.k s.nm s.to s.h.pos A5 n5 c5 B5 m5 d5, prV tx.k tx.nm tx.to tx.h.pos A n c B m d] W (TestEnd W true)) := Lib.hid (fun W A n c B m d x h => SameP A5 n5 c5 B5 m5 d5 A n c B m d s tx W true (PsT.pv_up HV_s.out h) x q5)
    clear q4 q5 hty htx
    have HC : Hid (∀ W, Below wc.heap.size wc W → W.cell? ⟨ux, 0, none⟩ = some (.int .i64 x.k) ∧ W.cell? ⟨ux, 1, none⟩ = some (strV x.nm) ∧ W.cell? ⟨ux, 2, none⟩ = some (strV x.to) ∧ W.cell? ⟨ux, 3, none⟩ = some (.int .i64 x.h.pos) ∧ W.cell? ⟨ux, 4, none⟩ = some (.slice A_x n_x c_x) ∧ W.cell? ⟨ux, 5, none⟩ = some (.slice B_x m_x d_x) ∧ W.cell? ⟨ux + 1, 0, none⟩ = some (.int .i64 y.k) ∧ W.cell? ⟨ux + 1, 1, none⟩ = some (strV y.nm) ∧ W.cell? ⟨ux + 1, 2, none⟩ = some (strV y.to) ∧ W.cell? ⟨ux + 1, 3, none⟩ = some (.int .i64 y.h.pos) ∧ W.cell? ⟨ux + 1, 4, none⟩ = some (.slice A_y n_y c_y) ∧ W.cell? ⟨ux + 1, 5, none⟩ = some (.slice B_y m_y d_y) ∧ W.cell? ⟨T, 0, none⟩ = some (.int .i64 r.k) ∧ W.cell? ⟨T, 1, none⟩ = some (strV r.nm) ∧ W.cell? ⟨T, 2, none⟩ = some (strV r.to) ∧ W.cell? ⟨T, 3, none⟩ = some (.int .i64 r.h.pos) ∧ W.cell? ⟨T, 4, none⟩ = some (.slice A4 n4 c4) ∧ W.cell? ⟨T, 5, none⟩ = some (.slice B4 m4 d4) ∧ W.cell? ⟨U, 0, none⟩ = some (.int .i64 s.k) ∧ W.cell? ⟨U, 1, none⟩ = some (strV s.nm) ∧ W.cell? ⟨U, 2, none⟩ = some (strV s.to) ∧ W.cell? ⟨U, 3, none⟩ = some (.int .i64 s.h.pos) ∧ W.cell? ⟨U, 4, none⟩ = some (.slice A5 n5 c5) ∧ W.cell? ⟨U, 5, none⟩ = some (.slice B5 m5 d5)) := Lib.hid (fun W hb => by
      have x := HK_x.out.below hb HK_x.out.lt
      have y := HK_y.out.below hb HK_y.out.lt
      have z := b4.below hb b4.lt
      have t := b5.below hb b5.lt
      exact ⟨x.cell 0 rfl, x.cell 1 rfl, x.cell 2 rfl, x.cell 3 rfl, x.cell 4 rfl, x.cell 5 rfl, y.cell 0 rfl, y.cell 1 rfl, y.cell 2 rfl, y.cell 3 rfl, y.cell 4 rfl, y.cell 5 rfl, z.cell 0 rfl, z.cell 1 rfl, z.cell 2 rfl, z.cell 3 rfl, z.cell 4 rfl, z.cell 5 rfl, t.cell 0 rfl, t.cell 1 rfl, t.cell 2 rfl, t.cell 3 rfl, t.cell 4 rfl, t.cell 5 rfl⟩)
    have HC0 := Lib.hid (HC.out wc.drew (PsT.belD0 wc))
    clear HK_p HK_q HK_x HK_y HV_p HV_q HV_x HV_y HV_r HV_s b4 b5 hl4 hl5 HX_x HS_x HX4 HS4 HTQ HTP
    obtain ⟨x0, x1, x2, x3, x4, x5, y0, y1, y2, y3, y4, y5, z0, z1, z2, z3, z4, z5, r0, r1, r2, r3, r4, r5⟩ := HC.out wc (Below.refl _ _)
    go_wp2_with fail
    go_region_held3 (fun W => W.cell? ⟨ux, 0, none⟩ = some (.int .i64 x.k) ∧ W.cell? ⟨ux, 1, none⟩ = some (strV x.nm) ∧ W.cell? ⟨ux, 2, none⟩ = some (strV x.to) ∧ W.cell? ⟨ux, 3, none⟩ = some (.int .i64 x.h.pos) ∧ W.cell? ⟨ux, 4, none⟩ = some (.slice A_x n_x c_x) ∧ W.cell? ⟨ux, 5, none⟩ = some (.slice B_x m_x d_x) ∧ W.cell? ⟨ux + 1, 0, none⟩ = some (.int .i64 y.k) ∧ W.cell? ⟨ux + 1, 1, none⟩ = some (strV y.nm) ∧ W.cell? ⟨ux + 1, 2, none⟩ = some (strV y.to) ∧ W.cell? ⟨ux + 1, 3, none⟩ = some (.int .i64 y.h.pos) ∧ W.cell? ⟨ux + 1, 4, none⟩ = some (.slice A_y n_y c_y) ∧ W.cell? ⟨ux + 1, 5, none⟩ = some (.slice B_y m_y d_y) ∧ W.cell? ⟨T, 0, none⟩ = some (.int .i64 r.k) ∧ W.cell? ⟨T, 1, none⟩ = some (strV r.nm) ∧ W.cell? ⟨T, 2, none⟩ = some (strV r.to) ∧ W.cell? ⟨T, 3, none⟩ = some (.int .i64 r.h.pos) ∧ W.cell? ⟨T, 4, none⟩ = some (.slice A4 n4 c4) ∧ W.cell? ⟨T, 5, none⟩ = some (.slice B4 m4 d4) ∧ W.cell? ⟨U, 0, none⟩ = some (.int .i64 s.k) ∧ W.cell? ⟨U, 1, none⟩ = some (strV s.nm) ∧ W.cell? ⟨U, 2, none⟩ = some (strV s.to) ∧ W.cell? ⟨U, 3, none⟩ = some (.int .i64 s.h.pos) ∧ W.cell? ⟨U, 4, none⟩ = some (.slice A5 n5 c5) ∧ W.cell? ⟨U, 5, none⟩ = some (.slice B5 m5 d5))
      (first
        | (exact HC0.out)
        | (exact hS1)
        | (exact hS2)
        | (exact hS3)
        | (exact hS4))
      (first
        | (go_at_call 22; (with_reducible refine (HM1.out wc.drew (PsT.belD0 wc)).mono ?_); rintro e u3 ⟨P1, i1, j1, Q1, k1, l1, rfl, hv, e1, e2, hb⟩; have hbc := PsT.thrD0 hb; have hS1 := HC.out u3 hbc; have HU1 := Lib.hid hbc; have HV1 := Lib.hid hv; clear hb hbc hv e1 e2)
        | (go_at_call 20; (with_reducible refine (HM2.out u3 P1 i1 j1 Q1 k1 l1 HV1.out HU1.out).mono ?_); rintro e u4 ⟨rfl, hb⟩; have hbc := HU1.out.trans (hb.mono HU1.out.size); have hS2 := HC.out u4 hbc; have HU2 := Lib.hid hbc; clear hb hbc)
        | (go_at_call 22; (with_reducible refine (HM3.out u4 HU2.out).mono ?_); rintro e u5 ⟨P2, i2, j2, Q2, k2, l2, rfl, hv, e1, e2, hb⟩; have hbc := HU2.out.trans (hb.mono HU2.out.size); have hS3 := HC.out u5 hbc; have HU3 := Lib.hid hbc; have HV3 := Lib.hid hv; clear hb hbc hv e1 e2)
        | (go_at_call 20; (with_reducible refine (HM4.out u5 P2 i2 j2 Q2 k2 l2 HV3.out HU3.out).mono ?_); rintro e u6 ⟨rfl, hb⟩; have hbc := HU3.out.trans (hb.mono HU3.out.size); have hS4 := HC.out u6 hbc; have HU4 := Lib.hid hbc; clear hb hbc))
    go_wp2
    go_ret
    exact ⟨rfl, below_mv HB.out HU4.out⟩

end PsL
open PsL
open Tx
open Go.ChangeShapes Go.WideShapes Go.ChangeAt

theorem passTurns_own : ownKnob Try.prog.godebug = none := by kernel_rfl
theorem passTurns_laidOut : laidOutB Try.prog = true := by kernel_rfl

set_option maxRecDepth 100000 in
theorem passTurns_lifted (os : Os) (started : os.Started) (H : Type) (enc : TypeId × Value → H) :
    ReturnsInHanded {} Try.checked os 6 .any (Rows.passTurnsSpec.pre6 enc Try.prog Try.f6 Rows.passTurnsRow.domain false) (Rows.passTurnsSpec.post enc Try.prog Try.f6 false true false false) := by
  refine returnsInHanded_of_change (C := Try.checked) passTurns_own started (by kernel_rfl) Try.func6
    (ChangeSpec.witness6 (enc := enc) (C := Try.checked) false ⟨#[], #[.agg #[.int .i64 0, .string ByteArray.empty, .string ByteArray.empty, .int .i64 0, .slice none 0 0, .slice none 0 0], .agg #[.int .i64 0, .string ByteArray.empty, .string ByteArray.empty, .int .i64 0, .slice none 0 0, .slice none 0 0]], []⟩ 8 (by kernel_rfl) (by kernel_rfl) (by kernel_rfl) (by kernel_rfl)) ?_
  intro W base args ds gs before hval0 hW hcnd _
  have hval : ∀ (j : Nat) t v, Try.f6.params[j]? = some t → args[j]? = some v → Value.okWide Try.prog W .any base t v := hval0
  have hW' := hW
  obtain ⟨p, q, hA0, hV, rfl, hfz, hnd⟩ := hW
  have hA : DataW.TrodAll enc Try.prog W 0 (fun _ => true) true Try.f6.params.toList args.toList ds p := hA0
  rw [Try.params6] at hA hval
  obtain ⟨v0, vs0, d0, ds0, p0, q0, hargs, rfl, rfl, h0, r0⟩ := trodAll_cons hA
  obtain ⟨v1, vs1, d1, ds1, p1, q1, rfl, rfl, rfl, h1, r1⟩ := trodAll_cons r0
  obtain ⟨rfl, rfl, rfl⟩ := trodAll_nil r1
  obtain rfl : args = #[v0, v1] := by cases args; simp_all
  obtain ⟨rfl, rfl⟩ := trodVars_none hV
  have k0 := h0
  have lt0 : ∀ x ∈ p0, x.block < W.heap.size := by obtain ⟨m, hm⟩ := k0; exact DataW.trod_lt m _ _ _ hm
  obtain ⟨a0, n0, c0, b0, m0, e0, l0, rfl, s0⟩ := prim_in (hval 0 26 v0 rfl rfl) h0
  have k1 := h1
  have lt1 : ∀ x ∈ p1, x.block < W.heap.size := by obtain ⟨m, hm⟩ := k1; exact DataW.trod_lt m _ _ _ hm
  obtain ⟨a1, n1, c1, b1, m1, e1, l1, rfl, s1⟩ := prim_in (hval 1 26 v1 rfl rfl) h1
  clear hA0 hval0
  refine (passTurns_walk a0 n0 c0 b0 m0 e0 l0 a1 n1 c1 b1 m1 e1 l1 W s0 s1).mono fun e W' ⟨he, bel⟩ => ?_
  subst he
  exact ⟨_, rfl, _, _, _, [], _, [], hW', trodAll_mk1 (shut_bool Try.underlying4 _), (trodAll_cons_mk (Below.trod passTurns_laidOut (by kernel_rfl) (of_decide_eq_true (by kernel_rfl)) k0 bel lt0) (trodAll_cons_mk (Below.trod passTurns_laidOut (by kernel_rfl) (of_decide_eq_true (by kernel_rfl)) k1 bel lt1) trodAll_mk0)), rfl, bel.frame _, fun h => by cases h⟩

/-- The statement. -/
theorem passTurns_proved : Rows.PassTurnsSaid :=
  OpenClaim.holds_of_wide 6 Try.f6 rfl rfl rfl rfl rfl rfl rfl ⟨rfl, rfl, rfl, rfl, rfl⟩ rfl rfl rfl rfl rfl (by kernel_rfl) Try.func6 (by kernel_rfl)
    (of_decide_eq_true (by kernel_rfl)) (by unfold Func.isWrapper; first | (rw [if_pos (by decide +kernel)]; kernel_rfl) | (rw [if_neg (by decide +kernel)]; exact ⟨rfl, rfl⟩))
    (fun os started H enc _ => passTurns_lifted os started H enc)

#print axioms passTurns_proved
end Go.Proofs.Ytfjllohhjpiphaa
