/-
  The statement PassThree: three of which each two pass one another come to the same in the turned order, by either way.
-/
import Derived.Test.YtfjllohhjpiphaaPsThree
import Derived.Test.YtfjllohhjpiphaaPsLaw
import Derived.OpenShut
import Derived.ShutString
import Derived.BigQuiet
set_option maxRecDepth 100000
namespace Go.Proofs.Ytfjllohhjpiphaa
open Go.RowKit
set_option linter.unusedVariables false
open Tr Tx Hk Pr
namespace PsL

set_option maxRecDepth 100000 in
set_option maxHeartbeats 8000000 in
theorem passThree_walk (A_p : Option Addr) (n_p c_p : Nat) (B_p : Option Addr) (m_p d_p : Nat) (p : Ch) (A_q : Option Addr) (n_q c_q : Nat) (B_q : Option Addr) (m_q d_q : Nat) (q : Ch) (A_r : Option Addr) (n_r c_r : Nat) (B_r : Option Addr) (m_r d_r : Nat) (r : Ch) (w : World) (h_p : PV w w.heap.size A_p n_p c_p B_p m_p d_p p) (h_q : PV w w.heap.size A_q n_q c_q B_q m_q d_q q) (h_r : PV w w.heap.size A_r n_r c_r B_r m_r d_r r) :
    Calls Try.prog 8 #[prV p.k p.nm p.to p.h.pos A_p n_p c_p B_p m_p d_p, prV q.k q.nm q.to q.h.pos A_q n_q c_q B_q m_q d_q, prV r.k r.nm r.to r.h.pos A_r n_r c_r B_r m_r d_r] w (LawEnd w) := by
  have HV_p := Lib.hid h_p
  have HV_q := Lib.hid h_q
  have HV_r := Lib.hid h_r
  have HB := Lib.hid (Below.refl w.heap.size w)
  clear h_p h_q h_r
  go_enter Try.func8, Try.ntmps8
  go_wp2_with fail
  have hb : Below w.heap.size w (World.alloc (World.alloc (World.alloc w (.cells #[.int .i64 p.k, strV p.nm, strV p.to, .int .i64 p.h.pos, .slice A_p n_p c_p, .slice B_p m_p d_p] 26)) (.cells #[.int .i64 q.k, strV q.nm, strV q.to, .int .i64 q.h.pos, .slice A_q n_q c_q, .slice B_q m_q d_q] 26)) (.cells #[.int .i64 r.k, strV r.nm, strV r.to, .int .i64 r.h.pos, .slice A_r n_r c_r, .slice B_r m_r d_r] 26)) := ((((Below.refl _ _).alloc (Nat.le_refl _) _).alloc (by simp) _).alloc (by simp; omega) _)
  have b_p := ((Blk.new w 26 #[.int .i64 p.k, strV p.nm, strV p.to, .int .i64 p.h.pos, .slice A_p n_p c_p, .slice B_p m_p d_p]).alloc (.cells #[.int .i64 q.k, strV q.nm, strV q.to, .int .i64 q.h.pos, .slice A_q n_q c_q, .slice B_q m_q d_q] 26)).alloc (.cells #[.int .i64 r.k, strV r.nm, strV r.to, .int .i64 r.h.pos, .slice A_r n_r c_r, .slice B_r m_r d_r] 26)
  have b_q := (Blk.new (World.alloc w (.cells #[.int .i64 p.k, strV p.nm, strV p.to, .int .i64 p.h.pos, .slice A_p n_p c_p, .slice B_p m_p d_p] 26)) 26 #[.int .i64 q.k, strV q.nm, strV q.to, .int .i64 q.h.pos, .slice A_q n_q c_q, .slice B_q m_q d_q]).alloc (.cells #[.int .i64 r.k, strV r.nm, strV r.to, .int .i64 r.h.pos, .slice A_r n_r c_r, .slice B_r m_r d_r] 26)
  have b_r := Blk.new (World.alloc (World.alloc w (.cells #[.int .i64 p.k, strV p.nm, strV p.to, .int .i64 p.h.pos, .slice A_p n_p c_p, .slice B_p m_p d_p] 26)) (.cells #[.int .i64 q.k, strV q.nm, strV q.to, .int .i64 q.h.pos, .slice A_q n_q c_q, .slice B_q m_q d_q] 26)) 26 #[.int .i64 r.k, strV r.nm, strV r.to, .int .i64 r.h.pos, .slice A_r n_r c_r, .slice B_r m_r d_r]
  simp only [World.size_alloc] at b_q b_r
  generalize (World.alloc (World.alloc (World.alloc w (.cells #[.int .i64 p.k, strV p.nm, strV p.to, .int .i64 p.h.pos, .slice A_p n_p c_p, .slice B_p m_p d_p] 26)) (.cells #[.int .i64 q.k, strV q.nm, strV q.to, .int .i64 q.h.pos, .slice A_q n_q c_q, .slice B_q m_q d_q] 26)) (.cells #[.int .i64 r.k, strV r.nm, strV r.to, .int .i64 r.h.pos, .slice A_r n_r c_r, .slice B_r m_r d_r] 26)) = w1 at *
  replace HV_p := Lib.hid (HV_p.out.mv hb)
  replace HV_q := Lib.hid (HV_q.out.mv hb)
  replace HV_r := Lib.hid (HV_r.out.mv hb)
  replace HB := Lib.hid (below_mv HB.out hb)
  clear hb
  obtain ⟨gb, hgb⟩ : ∃ gb, w.heap.size = gb := ⟨_, rfl⟩
  rw [hgb] at ⊢ b_p b_q b_r
  rw [show gb + 1 + 1 = gb + 2 from rfl] at ⊢ b_r
  clear hgb
  have HK_p := Lib.hid b_p; clear b_p
  have HK_q := Lib.hid b_q; clear b_q
  have HK_r := Lib.hid b_r; clear b_r
  refine (PsAwake.awake w1).mono ?_
  rintro e w2 ⟨rfl, hb⟩
  replace HV_p := Lib.hid (HV_p.out.mv hb)
  replace HV_q := Lib.hid (HV_q.out.mv hb)
  replace HV_r := Lib.hid (HV_r.out.mv hb)
  replace HK_p := Lib.hid (HK_p.out.below hb HK_p.out.lt)
  replace HK_q := Lib.hid (HK_q.out.below hb HK_q.out.lt)
  replace HK_r := Lib.hid (HK_r.out.below hb HK_r.out.lt)
  replace HB := Lib.hid (below_mv HB.out hb)
  clear hb
  obtain ⟨bl_p, hbl⟩ : ∃ b, lightP p = b := ⟨_, rfl⟩
  have HBL_p := Lib.hid hbl; clear hbl
  have x0_p : w2.cell? ⟨gb, 0, none⟩ = some (.int .i64 p.k) := HK_p.out.cell 0 rfl; have x1_p : w2.cell? ⟨gb, 1, none⟩ = some (strV p.nm) := HK_p.out.cell 1 rfl; have x2_p : w2.cell? ⟨gb, 2, none⟩ = some (strV p.to) := HK_p.out.cell 2 rfl; have x3_p : w2.cell? ⟨gb, 3, none⟩ = some (.int .i64 p.h.pos) := HK_p.out.cell 3 rfl; have x4_p : w2.cell? ⟨gb, 4, none⟩ = some (.slice A_p n_p c_p) := HK_p.out.cell 4 rfl; have x5_p : w2.cell? ⟨gb, 5, none⟩ = some (.slice B_p m_p d_p) := HK_p.out.cell 5 rfl
  have yl_p := HK_p.out.lt
  go_wp2_with fail
  clear x0_p x1_p x2_p x3_p x4_p x5_p yl_p
  refine (LightP A_p n_p c_p B_p m_p d_p _ p _ bl_p (Nat.le_refl _) HV_p.out HBL_p.out).mono ?_
  rintro e w3 ⟨rfl, hb⟩
  replace HV_p := Lib.hid (HV_p.out.mv hb)
  replace HV_q := Lib.hid (HV_q.out.mv hb)
  replace HV_r := Lib.hid (HV_r.out.mv hb)
  replace HK_p := Lib.hid (HK_p.out.below hb HK_p.out.lt)
  replace HK_q := Lib.hid (HK_q.out.below hb HK_q.out.lt)
  replace HK_r := Lib.hid (HK_r.out.below hb HK_r.out.lt)
  replace HB := Lib.hid (below_mv HB.out hb)
  clear hb
  obtain ⟨bl_q, hbl⟩ : ∃ b, lightP q = b := ⟨_, rfl⟩
  have HBL_q := Lib.hid hbl; clear hbl
  have x0_q : w3.cell? ⟨gb + 1, 0, none⟩ = some (.int .i64 q.k) := HK_q.out.cell 0 rfl; have x1_q : w3.cell? ⟨gb + 1, 1, none⟩ = some (strV q.nm) := HK_q.out.cell 1 rfl; have x2_q : w3.cell? ⟨gb + 1, 2, none⟩ = some (strV q.to) := HK_q.out.cell 2 rfl; have x3_q : w3.cell? ⟨gb + 1, 3, none⟩ = some (.int .i64 q.h.pos) := HK_q.out.cell 3 rfl; have x4_q : w3.cell? ⟨gb + 1, 4, none⟩ = some (.slice A_q n_q c_q) := HK_q.out.cell 4 rfl; have x5_q : w3.cell? ⟨gb + 1, 5, none⟩ = some (.slice B_q m_q d_q) := HK_q.out.cell 5 rfl
  have yl_q := HK_q.out.lt
  have yk0_q : gb < w3.heap.size := Nat.lt_of_le_of_lt (by omega) yl_q
  go_wp2_with fail
  clear x0_q x1_q x2_q x3_q x4_q x5_q yl_q yk0_q
  refine (LightP A_q n_q c_q B_q m_q d_q _ q _ bl_q (Nat.le_refl _) HV_q.out HBL_q.out).mono ?_
  rintro e w4 ⟨rfl, hb⟩
  replace HV_p := Lib.hid (HV_p.out.mv hb)
  replace HV_q := Lib.hid (HV_q.out.mv hb)
  replace HV_r := Lib.hid (HV_r.out.mv hb)
  replace HK_p := Lib.hid (HK_p.out.below hb HK_p.out.lt)
  replace HK_q := Lib.hid (HK_q.out.below hb HK_q.out.lt)
  replace HK_r := Lib.hid (HK_r.out.below hb HK_r.out.lt)
  replace HB := Lib.hid (below_mv HB.out hb)
  clear hb
  obtain ⟨bl_r, hbl⟩ : ∃ b, lightP r = b := ⟨_, rfl⟩
  have HBL_r := Lib.hid hbl; clear hbl
  have x0_r : w4.cell? ⟨gb + 2, 0, none⟩ = some (.int .i64 r.k) := HK_r.out.cell 0 rfl; have x1_r : w4.cell? ⟨gb + 2, 1, none⟩ = some (strV r.nm) := HK_r.out.cell 1 rfl; have x2_r : w4.cell? ⟨gb + 2, 2, none⟩ = some (strV r.to) := HK_r.out.cell 2 rfl; have x3_r : w4.cell? ⟨gb + 2, 3, none⟩ = some (.int .i64 r.h.pos) := HK_r.out.cell 3 rfl; have x4_r : w4.cell? ⟨gb + 2, 4, none⟩ = some (.slice A_r n_r c_r) := HK_r.out.cell 4 rfl; have x5_r : w4.cell? ⟨gb + 2, 5, none⟩ = some (.slice B_r m_r d_r) := HK_r.out.cell 5 rfl
  have yl_r := HK_r.out.lt
  have yk0_r : gb < w4.heap.size := Nat.lt_of_le_of_lt (by omega) yl_r
  have yk1_r : gb + 1 < w4.heap.size := Nat.lt_of_le_of_lt (by omega) yl_r
  go_wp2_with fail
  clear x0_r x1_r x2_r x3_r x4_r x5_r yl_r yk0_r yk1_r
  refine (LightP A_r n_r c_r B_r m_r d_r _ r _ bl_r (Nat.le_refl _) HV_r.out HBL_r.out).mono ?_
  rintro e w5 ⟨rfl, hb⟩
  replace HV_p := Lib.hid (HV_p.out.mv hb)
  replace HV_q := Lib.hid (HV_q.out.mv hb)
  replace HV_r := Lib.hid (HV_r.out.mv hb)
  replace HK_p := Lib.hid (HK_p.out.below hb HK_p.out.lt)
  replace HK_q := Lib.hid (HK_q.out.below hb HK_q.out.lt)
  replace HK_r := Lib.hid (HK_r.out.below hb HK_r.out.lt)
  replace HB := Lib.hid (below_mv HB.out hb)
  clear hb
  cases bl_p with
  | false =>
    go_wp2
    go_ret
    exact ⟨rfl, HB.out⟩
  | true =>
  have HL_p := Lib.hid (HV_p.out.len HBL_p.out)
  cases bl_q with
  | false =>
    go_wp2
    go_ret
    exact ⟨rfl, HB.out⟩
  | true =>
  have HL_q := Lib.hid (HV_q.out.len HBL_q.out)
  cases bl_r with
  | false =>
    go_wp2
    go_ret
    exact ⟨rfl, HB.out⟩
  | true =>
  have HL_r := Lib.hid (HV_r.out.len HBL_r.out)
  have x0_p : w5.cell? ⟨gb, 0, none⟩ = some (.int .i64 p.k) := HK_p.out.cell 0 rfl; have x1_p : w5.cell? ⟨gb, 1, none⟩ = some (strV p.nm) := HK_p.out.cell 1 rfl; have x2_p : w5.cell? ⟨gb, 2, none⟩ = some (strV p.to) := HK_p.out.cell 2 rfl; have x3_p : w5.cell? ⟨gb, 3, none⟩ = some (.int .i64 p.h.pos) := HK_p.out.cell 3 rfl; have x4_p : w5.cell? ⟨gb, 4, none⟩ = some (.slice A_p n_p c_p) := HK_p.out.cell 4 rfl; have x5_p : w5.cell? ⟨gb, 5, none⟩ = some (.slice B_p m_p d_p) := HK_p.out.cell 5 rfl
  have yl_p := HK_p.out.lt
  have x0_q : w5.cell? ⟨gb + 1, 0, none⟩ = some (.int .i64 q.k) := HK_q.out.cell 0 rfl; have x1_q : w5.cell? ⟨gb + 1, 1, none⟩ = some (strV q.nm) := HK_q.out.cell 1 rfl; have x2_q : w5.cell? ⟨gb + 1, 2, none⟩ = some (strV q.to) := HK_q.out.cell 2 rfl; have x3_q : w5.cell? ⟨gb + 1, 3, none⟩ = some (.int .i64 q.h.pos) := HK_q.out.cell 3 rfl; have x4_q : w5.cell? ⟨gb + 1, 4, none⟩ = some (.slice A_q n_q c_q) := HK_q.out.cell 4 rfl; have x5_q : w5.cell? ⟨gb + 1, 5, none⟩ = some (.slice B_q m_q d_q) := HK_q.out.cell 5 rfl
  have yl_q := HK_q.out.lt
  have yk0_q : gb < w5.heap.size := Nat.lt_of_le_of_lt (by omega) yl_q
  have x0_r : w5.cell? ⟨gb + 2, 0, none⟩ = some (.int .i64 r.k) := HK_r.out.cell 0 rfl; have x1_r : w5.cell? ⟨gb + 2, 1, none⟩ = some (strV r.nm) := HK_r.out.cell 1 rfl; have x2_r : w5.cell? ⟨gb + 2, 2, none⟩ = some (strV r.to) := HK_r.out.cell 2 rfl; have x3_r : w5.cell? ⟨gb + 2, 3, none⟩ = some (.int .i64 r.h.pos) := HK_r.out.cell 3 rfl; have x4_r : w5.cell? ⟨gb + 2, 4, none⟩ = some (.slice A_r n_r c_r) := HK_r.out.cell 4 rfl; have x5_r : w5.cell? ⟨gb + 2, 5, none⟩ = some (.slice B_r m_r d_r) := HK_r.out.cell 5 rfl
  have yl_r := HK_r.out.lt
  have yk0_r : gb < w5.heap.size := Nat.lt_of_le_of_lt (by omega) yl_r
  have yk1_r : gb + 1 < w5.heap.size := Nat.lt_of_le_of_lt (by omega) yl_r
  by_cases t0 : 524288 < p.h.pos
  · go_wp2
    go_ret
    exact ⟨rfl, HB.out⟩
  by_cases t1 : 524288 < q.h.pos
  · go_wp2
    go_ret
    exact ⟨rfl, HB.out⟩
  by_cases t2 : 524288 < r.h.pos
  · go_wp2
    go_ret
    exact ⟨rfl, HB.out⟩
  go_wp2_with fail
  clear t0 t1 t2
  clear x0_p x1_p x2_p x3_p x4_p x5_p yl_p
  clear x0_q x1_q x2_q x3_q x4_q x5_q yl_q yk0_q
  clear x0_r x1_r x2_r x3_r x4_r x5_r yl_r yk0_r yk1_r
  obtain ⟨⟨q1, p1⟩, hx⟩ : ∃ z, outP (passP p q) = z := ⟨_, rfl⟩
  obtain ⟨bi, hs⟩ : ∃ b, (passP p q).isSome = b := ⟨_, rfl⟩
  have HX_q1 := Lib.hid hx; have HS_q1 := Lib.hid hs; clear hx hs
  refine (PassP A_p n_p c_p B_p m_p d_p A_q n_q c_q B_q m_q d_q p q q1 p1 w5 bi HL_p.out HL_q.out HV_p.out HV_q.out HX_q1.out HS_q1.out).mono ?_
  rintro e w6 ⟨A_q1, n_q1, c_q1, B_q1, m_q1, d_q1, A_p1, n_p1, c_p1, B_p1, m_p1, d_p1, rfl, hv, gv, hl, gl, hb⟩
  replace HV_p := Lib.hid (HV_p.out.mv hb)
  replace HV_q := Lib.hid (HV_q.out.mv hb)
  replace HV_r := Lib.hid (HV_r.out.mv hb)
  replace HK_p := Lib.hid (HK_p.out.below hb HK_p.out.lt)
  replace HK_q := Lib.hid (HK_q.out.below hb HK_q.out.lt)
  replace HK_r := Lib.hid (HK_r.out.below hb HK_r.out.lt)
  replace HB := Lib.hid (below_mv HB.out hb)
  clear hb
  have HV_q1 := Lib.hid hv; have HV_p1 := Lib.hid gv; have HL_q1 := Lib.hid hl; have HL_p1 := Lib.hid gl; clear hv gv hl gl
  have x0_r : w6.cell? ⟨gb + 2, 0, none⟩ = some (.int .i64 r.k) := HK_r.out.cell 0 rfl; have x1_r : w6.cell? ⟨gb + 2, 1, none⟩ = some (strV r.nm) := HK_r.out.cell 1 rfl; have x2_r : w6.cell? ⟨gb + 2, 2, none⟩ = some (strV r.to) := HK_r.out.cell 2 rfl; have x3_r : w6.cell? ⟨gb + 2, 3, none⟩ = some (.int .i64 r.h.pos) := HK_r.out.cell 3 rfl; have x4_r : w6.cell? ⟨gb + 2, 4, none⟩ = some (.slice A_r n_r c_r) := HK_r.out.cell 4 rfl; have x5_r : w6.cell? ⟨gb + 2, 5, none⟩ = some (.slice B_r m_r d_r) := HK_r.out.cell 5 rfl
  have yl_r := HK_r.out.lt
  have yk0_r : gb < w6.heap.size := Nat.lt_of_le_of_lt (by omega) yl_r
  have yk1_r : gb + 1 < w6.heap.size := Nat.lt_of_le_of_lt (by omega) yl_r
  go_wp2_with fail
  clear x0_r x1_r x2_r x3_r x4_r x5_r yl_r yk0_r yk1_r
  have hb : Below w6.heap.size w6 (World.alloc (World.alloc w6 (.cells #[.int .i64 q1.k, strV q1.nm, strV q1.to, .int .i64 q1.h.pos, .slice A_q1 n_q1 c_q1, .slice B_q1 m_q1 d_q1] 26)) (.cells #[.int .i64 p1.k, strV p1.nm, strV p1.to, .int .i64 p1.h.pos, .slice A_p1 n_p1 c_p1, .slice B_p1 m_p1 d_p1] 26)) := two_box _ _ _
  have b_q1 := (Blk.new w6 26 #[.int .i64 q1.k, strV q1.nm, strV q1.to, .int .i64 q1.h.pos, .slice A_q1 n_q1 c_q1, .slice B_q1 m_q1 d_q1]).alloc (.cells #[.int .i64 p1.k, strV p1.nm, strV p1.to, .int .i64 p1.h.pos, .slice A_p1 n_p1 c_p1, .slice B_p1 m_p1 d_p1] 26)
  have b_p1 := Blk.new (World.alloc w6 (.cells #[.int .i64 q1.k, strV q1.nm, strV q1.to, .int .i64 q1.h.pos, .slice A_q1 n_q1 c_q1, .slice B_q1 m_q1 d_q1] 26)) 26 #[.int .i64 p1.k, strV p1.nm, strV p1.to, .int .i64 p1.h.pos, .slice A_p1 n_p1 c_p1, .slice B_p1 m_p1 d_p1]
  simp only [World.size_alloc] at b_p1
  generalize (World.alloc (World.alloc w6 (.cells #[.int .i64 q1.k, strV q1.nm, strV q1.to, .int .i64 q1.h.pos, .slice A_q1 n_q1 c_q1, .slice B_q1 m_q1 d_q1] 26)) (.cells #[.int .i64 p1.k, strV p1.nm, strV p1.to, .int .i64 p1.h.pos, .slice A_p1 n_p1 c_p1, .slice B_p1 m_p1 d_p1] 26)) = w7 at *
  replace HV_p := Lib.hid (HV_p.out.mv hb)
  replace HV_q := Lib.hid (HV_q.out.mv hb)
  replace HV_r := Lib.hid (HV_r.out.mv hb)
  replace HV_q1 := Lib.hid (HV_q1.out.mv hb)
  replace HV_p1 := Lib.hid (HV_p1.out.mv hb)
  replace HK_p := Lib.hid (HK_p.out.below hb HK_p.out.lt)
  replace HK_q := Lib.hid (HK_q.out.below hb HK_q.out.lt)
  replace HK_r := Lib.hid (HK_r.out.below hb HK_r.out.lt)
  replace HB := Lib.hid (below_mv HB.out hb)
  clear hb
  generalize w6.heap.size = uq1 at *
  have HK_q1 := Lib.hid b_q1; have HK_p1 := Lib.hid b_p1; clear b_q1 b_p1
  obtain ⟨⟨r1, p2⟩, hx⟩ : ∃ z, outP (passP p1 r) = z := ⟨_, rfl⟩
  obtain ⟨bj, hs⟩ : ∃ b, (passP p1 r).isSome = b := ⟨_, rfl⟩
  have HX_r1 := Lib.hid hx; have HS_r1 := Lib.hid hs; clear hx hs
  refine (PassP A_p1 n_p1 c_p1 B_p1 m_p1 d_p1 A_r n_r c_r B_r m_r d_r p1 r r1 p2 w7 bj HL_p1.out HL_r.out HV_p1.out HV_r.out HX_r1.out HS_r1.out).mono ?_
  rintro e w8 ⟨A_r1, n_r1, c_r1, B_r1, m_r1, d_r1, A_p2, n_p2, c_p2, B_p2, m_p2, d_p2, rfl, hv, gv, hl, gl, hb⟩
  replace HV_p := Lib.hid (HV_p.out.mv hb)
  replace HV_q := Lib.hid (HV_q.out.mv hb)
  replace HV_r := Lib.hid (HV_r.out.mv hb)
  replace HV_q1 := Lib.hid (HV_q1.out.mv hb)
  replace HV_p1 := Lib.hid (HV_p1.out.mv hb)
  replace HK_p := Lib.hid (HK_p.out.below hb HK_p.out.lt)
  replace HK_q := Lib.hid (HK_q.out.below hb HK_q.out.lt)
  replace HK_r := Lib.hid (HK_r.out.below hb HK_r.out.lt)
  replace HK_q1 := Lib.hid (HK_q1.out.below hb HK_q1.out.lt)
  replace HK_p1 := Lib.hid (HK_p1.out.below hb HK_p1.out.lt)
  replace HB := Lib.hid (below_mv HB.out hb)
  clear hb
  have HV_r1 := Lib.hid hv; have HV_p2 := Lib.hid gv; have HL_r1 := Lib.hid hl; have HL_p2 := Lib.hid gl; clear hv gv hl gl
  have x0_q1 : w8.cell? ⟨uq1, 0, none⟩ = some (.int .i64 q1.k) := HK_q1.out.cell 0 rfl; have x1_q1 : w8.cell? ⟨uq1, 1, none⟩ = some (strV q1.nm) := HK_q1.out.cell 1 rfl; have x2_q1 : w8.cell? ⟨uq1, 2, none⟩ = some (strV q1.to) := HK_q1.out.cell 2 rfl; have x3_q1 : w8.cell? ⟨uq1, 3, none⟩ = some (.int .i64 q1.h.pos) := HK_q1.out.cell 3 rfl; have x4_q1 : w8.cell? ⟨uq1, 4, none⟩ = some (.slice A_q1 n_q1 c_q1) := HK_q1.out.cell 4 rfl; have x5_q1 : w8.cell? ⟨uq1, 5, none⟩ = some (.slice B_q1 m_q1 d_q1) := HK_q1.out.cell 5 rfl
  have yl_q1 := HK_q1.out.lt
  go_wp2_with fail
  clear x0_q1 x1_q1 x2_q1 x3_q1 x4_q1 x5_q1 yl_q1
  have hb : Below w8.heap.size w8 (World.alloc (World.alloc w8 (.cells #[.int .i64 r1.k, strV r1.nm, strV r1.to, .int .i64 r1.h.pos, .slice A_r1 n_r1 c_r1, .slice B_r1 m_r1 d_r1] 26)) (.cells #[.int .i64 p2.k, strV p2.nm, strV p2.to, .int .i64 p2.h.pos, .slice A_p2 n_p2 c_p2, .slice B_p2 m_p2 d_p2] 26)) := two_box _ _ _
  have b_r1 := (Blk.new w8 26 #[.int .i64 r1.k, strV r1.nm, strV r1.to, .int .i64 r1.h.pos, .slice A_r1 n_r1 c_r1, .slice B_r1 m_r1 d_r1]).alloc (.cells #[.int .i64 p2.k, strV p2.nm, strV p2.to, .int .i64 p2.h.pos, .slice A_p2 n_p2 c_p2, .slice B_p2 m_p2 d_p2] 26)
  have b_p2 := Blk.new (World.alloc w8 (.cells #[.int .i64 r1.k, strV r1.nm, strV r1.to, .int .i64 r1.h.pos, .slice A_r1 n_r1 c_r1, .slice B_r1 m_r1 d_r1] 26)) 26 #[.int .i64 p2.k, strV p2.nm, strV p2.to, .int .i64 p2.h.pos, .slice A_p2 n_p2 c_p2, .slice B_p2 m_p2 d_p2]
  simp only [World.size_alloc] at b_p2
  generalize (World.alloc (World.alloc w8 (.cells #[.int .i64 r1.k, strV r1.nm, strV r1.to, .int .i64 r1.h.pos, .slice A_r1 n_r1 c_r1, .slice B_r1 m_r1 d_r1] 26)) (.cells #[.int .i64 p2.k, strV p2.nm, strV p2.to, .int .i64 p2.h.pos, .slice A_p2 n_p2 c_p2, .slice B_p2 m_p2 d_p2] 26)) = w9 at *
  replace HV_p := Lib.hid (HV_p.out.mv hb)
  replace HV_q := Lib.hid (HV_q.out.mv hb)
  replace HV_r := Lib.hid (HV_r.out.mv hb)
  replace HV_q1 := Lib.hid (HV_q1.out.mv hb)
  replace HV_p1 := Lib.hid (HV_p1.out.mv hb)
  replace HV_r1 := Lib.hid (HV_r1.out.mv hb)
  replace HV_p2 := Lib.hid (HV_p2.out.mv hb)
  replace HK_p := Lib.hid (HK_p.out.below hb HK_p.out.lt)
  replace HK_q := Lib.hid (HK_q.out.below hb HK_q.out.lt)
  replace HK_r := Lib.hid (HK_r.out.below hb HK_r.out.lt)
  replace HK_q1 := Lib.hid (HK_q1.out.below hb HK_q1.out.lt)
  replace HK_p1 := Lib.hid (HK_p1.out.below hb HK_p1.out.lt)
  replace HB := Lib.hid (below_mv HB.out hb)
  clear hb
  generalize w8.heap.size = ur1 at *
  have HK_r1 := Lib.hid b_r1; have HK_p2 := Lib.hid b_p2; clear b_r1 b_p2
  obtain ⟨⟨r2, q2⟩, hx⟩ : ∃ z, outP (passP q1 r1) = z := ⟨_, rfl⟩
  obtain ⟨bk, hs⟩ : ∃ b, (passP q1 r1).isSome = b := ⟨_, rfl⟩
  have HX_r2 := Lib.hid hx; have HS_r2 := Lib.hid hs; clear hx hs
  refine (PassP A_q1 n_q1 c_q1 B_q1 m_q1 d_q1 A_r1 n_r1 c_r1 B_r1 m_r1 d_r1 q1 r1 r2 q2 w9 bk HL_q1.out HL_r1.out HV_q1.out HV_r1.out HX_r2.out HS_r2.out).mono ?_
  rintro e w10 ⟨A_r2, n_r2, c_r2, B_r2, m_r2, d_r2, A_q2, n_q2, c_q2, B_q2, m_q2, d_q2, rfl, hv, gv, hl, gl, hb⟩
  replace HV_p := Lib.hid (HV_p.out.mv hb)
  replace HV_q := Lib.hid (HV_q.out.mv hb)
  replace HV_r := Lib.hid (HV_r.out.mv hb)
  replace HV_q1 := Lib.hid (HV_q1.out.mv hb)
  replace HV_p1 := Lib.hid (HV_p1.out.mv hb)
  replace HV_r1 := Lib.hid (HV_r1.out.mv hb)
  replace HV_p2 := Lib.hid (HV_p2.out.mv hb)
  replace HK_p := Lib.hid (HK_p.out.below hb HK_p.out.lt)
  replace HK_q := Lib.hid (HK_q.out.below hb HK_q.out.lt)
  replace HK_r := Lib.hid (HK_r.out.below hb HK_r.out.lt)
  replace HK_q1 := Lib.hid (HK_q1.out.below hb HK_q1.out.lt)
  replace HK_p1 := Lib.hid (HK_p1.out.below hb HK_p1.out.lt)
  replace HK_r1 := Lib.hid (HK_r1.out.below hb HK_r1.out.lt)
  replace HK_p2 := Lib.hid (HK_p2.out.below hb HK_p2.out.lt)
  replace HB := Lib.hid (below_mv HB.out hb)
  clear hb
  have HV_r2 := Lib.hid hv; have HV_q2 := Lib.hid gv; have HL_r2 := Lib.hid hl; have HL_q2 := Lib.hid gl; clear hv gv hl gl
  have x0_q : w10.cell? ⟨gb + 1, 0, none⟩ = some (.int .i64 q.k) := HK_q.out.cell 0 rfl; have x1_q : w10.cell? ⟨gb + 1, 1, none⟩ = some (strV q.nm) := HK_q.out.cell 1 rfl; have x2_q : w10.cell? ⟨gb + 1, 2, none⟩ = some (strV q.to) := HK_q.out.cell 2 rfl; have x3_q : w10.cell? ⟨gb + 1, 3, none⟩ = some (.int .i64 q.h.pos) := HK_q.out.cell 3 rfl; have x4_q : w10.cell? ⟨gb + 1, 4, none⟩ = some (.slice A_q n_q c_q) := HK_q.out.cell 4 rfl; have x5_q : w10.cell? ⟨gb + 1, 5, none⟩ = some (.slice B_q m_q d_q) := HK_q.out.cell 5 rfl
  have yl_q := HK_q.out.lt
  have yk0_q : gb < w10.heap.size := Nat.lt_of_le_of_lt (by omega) yl_q
  have x0_r : w10.cell? ⟨gb + 2, 0, none⟩ = some (.int .i64 r.k) := HK_r.out.cell 0 rfl; have x1_r : w10.cell? ⟨gb + 2, 1, none⟩ = some (strV r.nm) := HK_r.out.cell 1 rfl; have x2_r : w10.cell? ⟨gb + 2, 2, none⟩ = some (strV r.to) := HK_r.out.cell 2 rfl; have x3_r : w10.cell? ⟨gb + 2, 3, none⟩ = some (.int .i64 r.h.pos) := HK_r.out.cell 3 rfl; have x4_r : w10.cell? ⟨gb + 2, 4, none⟩ = some (.slice A_r n_r c_r) := HK_r.out.cell 4 rfl; have x5_r : w10.cell? ⟨gb + 2, 5, none⟩ = some (.slice B_r m_r d_r) := HK_r.out.cell 5 rfl
  have yl_r := HK_r.out.lt
  have yk0_r : gb < w10.heap.size := Nat.lt_of_le_of_lt (by omega) yl_r
  have yk1_r : gb + 1 < w10.heap.size := Nat.lt_of_le_of_lt (by omega) yl_r
  go_wp2_with fail
  clear x0_q x1_q x2_q x3_q x4_q x5_q yl_q yk0_q
  clear x0_r x1_r x2_r x3_r x4_r x5_r yl_r yk0_r yk1_r
  have hb : Below w10.heap.size w10 (World.alloc (World.alloc w10 (.cells #[.int .i64 r2.k, strV r2.nm, strV r2.to, .int .i64 r2.h.pos, .slice A_r2 n_r2 c_r2, .slice B_r2 m_r2 d_r2] 26)) (.cells #[.int .i64 q2.k, strV q2.nm, strV q2.to, .int .i64 q2.h.pos, .slice A_q2 n_q2 c_q2, .slice B_q2 m_q2 d_q2] 26)) := two_box _ _ _
  have b_r2 := (Blk.new w10 26 #[.int .i64 r2.k, strV r2.nm, strV r2.to, .int .i64 r2.h.pos, .slice A_r2 n_r2 c_r2, .slice B_r2 m_r2 d_r2]).alloc (.cells #[.int .i64 q2.k, strV q2.nm, strV q2.to, .int .i64 q2.h.pos, .slice A_q2 n_q2 c_q2, .slice B_q2 m_q2 d_q2] 26)
  have b_q2 := Blk.new (World.alloc w10 (.cells #[.int .i64 r2.k, strV r2.nm, strV r2.to, .int .i64 r2.h.pos, .slice A_r2 n_r2 c_r2, .slice B_r2 m_r2 d_r2] 26)) 26 #[.int .i64 q2.k, strV q2.nm, strV q2.to, .int .i64 q2.h.pos, .slice A_q2 n_q2 c_q2, .slice B_q2 m_q2 d_q2]
  simp only [World.size_alloc] at b_q2
  generalize (World.alloc (World.alloc w10 (.cells #[.int .i64 r2.k, strV r2.nm, strV r2.to, .int .i64 r2.h.pos, .slice A_r2 n_r2 c_r2, .slice B_r2 m_r2 d_r2] 26)) (.cells #[.int .i64 q2.k, strV q2.nm, strV q2.to, .int .i64 q2.h.pos, .slice A_q2 n_q2 c_q2, .slice B_q2 m_q2 d_q2] 26)) = w11 at *
  replace HV_p := Lib.hid (HV_p.out.mv hb)
  replace HV_q := Lib.hid (HV_q.out.mv hb)
  replace HV_r := Lib.hid (HV_r.out.mv hb)
  replace HV_q1 := Lib.hid (HV_q1.out.mv hb)
  replace HV_p1 := Lib.hid (HV_p1.out.mv hb)
  replace HV_r1 := Lib.hid (HV_r1.out.mv hb)
  replace HV_p2 := Lib.hid (HV_p2.out.mv hb)
  replace HV_r2 := Lib.hid (HV_r2.out.mv hb)
  replace HV_q2 := Lib.hid (HV_q2.out.mv hb)
  replace HK_p := Lib.hid (HK_p.out.below hb HK_p.out.lt)
  replace HK_q := Lib.hid (HK_q.out.below hb HK_q.out.lt)
  replace HK_r := Lib.hid (HK_r.out.below hb HK_r.out.lt)
  replace HK_q1 := Lib.hid (HK_q1.out.below hb HK_q1.out.lt)
  replace HK_p1 := Lib.hid (HK_p1.out.below hb HK_p1.out.lt)
  replace HK_r1 := Lib.hid (HK_r1.out.below hb HK_r1.out.lt)
  replace HK_p2 := Lib.hid (HK_p2.out.below hb HK_p2.out.lt)
  replace HB := Lib.hid (below_mv HB.out hb)
  clear hb
  generalize w10.heap.size = ur2 at *
  have HK_r2 := Lib.hid b_r2; have HK_q2 := Lib.hid b_q2; clear b_r2 b_q2
  obtain ⟨⟨r3, q3⟩, hx⟩ : ∃ z, outP (passP q r) = z := ⟨_, rfl⟩
  obtain ⟨bl, hs⟩ : ∃ b, (passP q r).isSome = b := ⟨_, rfl⟩
  have HX_r3 := Lib.hid hx; have HS_r3 := Lib.hid hs; clear hx hs
  refine (PassP A_q n_q c_q B_q m_q d_q A_r n_r c_r B_r m_r d_r q r r3 q3 w11 bl HL_q.out HL_r.out HV_q.out HV_r.out HX_r3.out HS_r3.out).mono ?_
  rintro e w12 ⟨A_r3, n_r3, c_r3, B_r3, m_r3, d_r3, A_q3, n_q3, c_q3, B_q3, m_q3, d_q3, rfl, hv, gv, hl, gl, hb⟩
  replace HV_p := Lib.hid (HV_p.out.mv hb)
  replace HV_q := Lib.hid (HV_q.out.mv hb)
  replace HV_r := Lib.hid (HV_r.out.mv hb)
  replace HV_q1 := Lib.hid (HV_q1.out.mv hb)
  replace HV_p1 := Lib.hid (HV_p1.out.mv hb)
  replace HV_r1 := Lib.hid (HV_r1.out.mv hb)
  replace HV_p2 := Lib.hid (HV_p2.out.mv hb)
  replace HV_r2 := Lib.hid (HV_r2.out.mv hb)
  replace HV_q2 := Lib.hid (HV_q2.out.mv hb)
  replace HK_p := Lib.hid (HK_p.out.below hb HK_p.out.lt)
  replace HK_q := Lib.hid (HK_q.out.below hb HK_q.out.lt)
  replace HK_r := Lib.hid (HK_r.out.below hb HK_r.out.lt)
  replace HK_q1 := Lib.hid (HK_q1.out.below hb HK_q1.out.lt)
  replace HK_p1 := Lib.hid (HK_p1.out.below hb HK_p1.out.lt)
  replace HK_r1 := Lib.hid (HK_r1.out.below hb HK_r1.out.lt)
  replace HK_p2 := Lib.hid (HK_p2.out.below hb HK_p2.out.lt)
  replace HK_r2 := Lib.hid (HK_r2.out.below hb HK_r2.out.lt)
  replace HK_q2 := Lib.hid (HK_q2.out.below hb HK_q2.out.lt)
  replace HB := Lib.hid (below_mv HB.out hb)
  clear hb
  have HV_r3 := Lib.hid hv; have HV_q3 := Lib.hid gv; have HL_r3 := Lib.hid hl; have HL_q3 := Lib.hid gl; clear hv gv hl gl
  have x0_p : w12.cell? ⟨gb, 0, none⟩ = some (.int .i64 p.k) := HK_p.out.cell 0 rfl; have x1_p : w12.cell? ⟨gb, 1, none⟩ = some (strV p.nm) := HK_p.out.cell 1 rfl; have x2_p : w12.cell? ⟨gb, 2, none⟩ = some (strV p.to) := HK_p.out.cell 2 rfl; have x3_p : w12.cell? ⟨gb, 3, none⟩ = some (.int .i64 p.h.pos) := HK_p.out.cell 3 rfl; have x4_p : w12.cell? ⟨gb, 4, none⟩ = some (.slice A_p n_p c_p) := HK_p.out.cell 4 rfl; have x5_p : w12.cell? ⟨gb, 5, none⟩ = some (.slice B_p m_p d_p) := HK_p.out.cell 5 rfl
  have yl_p := HK_p.out.lt
  go_wp2_with fail
  clear x0_p x1_p x2_p x3_p x4_p x5_p yl_p
  have hb : Below w12.heap.size w12 (World.alloc (World.alloc w12 (.cells #[.int .i64 r3.k, strV r3.nm, strV r3.to, .int .i64 r3.h.pos, .slice A_r3 n_r3 c_r3, .slice B_r3 m_r3 d_r3] 26)) (.cells #[.int .i64 q3.k, strV q3.nm, strV q3.to, .int .i64 q3.h.pos, .slice A_q3 n_q3 c_q3, .slice B_q3 m_q3 d_q3] 26)) := two_box _ _ _
  have b_r3 := (Blk.new w12 26 #[.int .i64 r3.k, strV r3.nm, strV r3.to, .int .i64 r3.h.pos, .slice A_r3 n_r3 c_r3, .slice B_r3 m_r3 d_r3]).alloc (.cells #[.int .i64 q3.k, strV q3.nm, strV q3.to, .int .i64 q3.h.pos, .slice A_q3 n_q3 c_q3, .slice B_q3 m_q3 d_q3] 26)
  have b_q3 := Blk.new (World.alloc w12 (.cells #[.int .i64 r3.k, strV r3.nm, strV r3.to, .int .i64 r3.h.pos, .slice A_r3 n_r3 c_r3, .slice B_r3 m_r3 d_r3] 26)) 26 #[.int .i64 q3.k, strV q3.nm, strV q3.to, .int .i64 q3.h.pos, .slice A_q3 n_q3 c_q3, .slice B_q3 m_q3 d_q3]
  simp only [World.size_alloc] at b_q3
  generalize (World.alloc (World.alloc w12 (.cells #[.int .i64 r3.k, strV r3.nm, strV r3.to, .int .i64 r3.h.pos, .slice A_r3 n_r3 c_r3, .slice B_r3 m_r3 d_r3] 26)) (.cells #[.int .i64 q3.k, strV q3.nm, strV q3.to, .int .i64 q3.h.pos, .slice A_q3 n_q3 c_q3, .slice B_q3 m_q3 d_q3] 26)) = w13 at *
  replace HV_p := Lib.hid (HV_p.out.mv hb)
  replace HV_q := Lib.hid (HV_q.out.mv hb)
  replace HV_r := Lib.hid (HV_r.out.mv hb)
  replace HV_q1 := Lib.hid (HV_q1.out.mv hb)
  replace HV_p1 := Lib.hid (HV_p1.out.mv hb)
  replace HV_r1 := Lib.hid (HV_r1.out.mv hb)
  replace HV_p2 := Lib.hid (HV_p2.out.mv hb)
  replace HV_r2 := Lib.hid (HV_r2.out.mv hb)
  replace HV_q2 := Lib.hid (HV_q2.out.mv hb)
  replace HV_r3 := Lib.hid (HV_r3.out.mv hb)
  replace HV_q3 := Lib.hid (HV_q3.out.mv hb)
  replace HK_p := Lib.hid (HK_p.out.below hb HK_p.out.lt)
  replace HK_q := Lib.hid (HK_q.out.below hb HK_q.out.lt)
  replace HK_r := Lib.hid (HK_r.out.below hb HK_r.out.lt)
  replace HK_q1 := Lib.hid (HK_q1.out.below hb HK_q1.out.lt)
  replace HK_p1 := Lib.hid (HK_p1.out.below hb HK_p1.out.lt)
  replace HK_r1 := Lib.hid (HK_r1.out.below hb HK_r1.out.lt)
  replace HK_p2 := Lib.hid (HK_p2.out.below hb HK_p2.out.lt)
  replace HK_r2 := Lib.hid (HK_r2.out.below hb HK_r2.out.lt)
  replace HK_q2 := Lib.hid (HK_q2.out.below hb HK_q2.out.lt)
  replace HB := Lib.hid (below_mv HB.out hb)
  clear hb
  generalize w12.heap.size = ur3 at *
  have HK_r3 := Lib.hid b_r3; have HK_q3 := Lib.hid b_q3; clear b_r3 b_q3
  obtain ⟨⟨r4, p3⟩, hx⟩ : ∃ z, outP (passP p r3) = z := ⟨_, rfl⟩
  obtain ⟨bm, hs⟩ : ∃ b, (passP p r3).isSome = b := ⟨_, rfl⟩
  have HX_r4 := Lib.hid hx; have HS_r4 := Lib.hid hs; clear hx hs
  refine (PassP A_p n_p c_p B_p m_p d_p A_r3 n_r3 c_r3 B_r3 m_r3 d_r3 p r3 r4 p3 w13 bm HL_p.out HL_r3.out HV_p.out HV_r3.out HX_r4.out HS_r4.out).mono ?_
  rintro e w14 ⟨A_r4, n_r4, c_r4, B_r4, m_r4, d_r4, A_p3, n_p3, c_p3, B_p3, m_p3, d_p3, rfl, hv, gv, hl, gl, hb⟩
  replace HV_p := Lib.hid (HV_p.out.mv hb)
  replace HV_q := Lib.hid (HV_q.out.mv hb)
  replace HV_r := Lib.hid (HV_r.out.mv hb)
  replace HV_q1 := Lib.hid (HV_q1.out.mv hb)
  replace HV_p1 := Lib.hid (HV_p1.out.mv hb)
  replace HV_r1 := Lib.hid (HV_r1.out.mv hb)
  replace HV_p2 := Lib.hid (HV_p2.out.mv hb)
  replace HV_r2 := Lib.hid (HV_r2.out.mv hb)
  replace HV_q2 := Lib.hid (HV_q2.out.mv hb)
  replace HV_r3 := Lib.hid (HV_r3.out.mv hb)
  replace HV_q3 := Lib.hid (HV_q3.out.mv hb)
  replace HK_p := Lib.hid (HK_p.out.below hb HK_p.out.lt)
  replace HK_q := Lib.hid (HK_q.out.below hb HK_q.out.lt)
  replace HK_r := Lib.hid (HK_r.out.below hb HK_r.out.lt)
  replace HK_q1 := Lib.hid (HK_q1.out.below hb HK_q1.out.lt)
  replace HK_p1 := Lib.hid (HK_p1.out.below hb HK_p1.out.lt)
  replace HK_r1 := Lib.hid (HK_r1.out.below hb HK_r1.out.lt)
  replace HK_p2 := Lib.hid (HK_p2.out.below hb HK_p2.out.lt)
  replace HK_r2 := Lib.hid (HK_r2.out.below hb HK_r2.out.lt)
  replace HK_q2 := Lib.hid (HK_q2.out.below hb HK_q2.out.lt)
  replace HK_r3 := Lib.hid (HK_r3.out.below hb HK_r3.out.lt)
  replace HK_q3 := Lib.hid (HK_q3.out.below hb HK_q3.out.lt)
  replace HB := Lib.hid (below_mv HB.out hb)
  clear hb
  have HV_r4 := Lib.hid hv; have HV_p3 := Lib.hid gv; have HL_r4 := Lib.hid hl; have HL_p3 := Lib.hid gl; clear hv gv hl gl
  have x0_q3 : w14.cell? ⟨ur3 + 1, 0, none⟩ = some (.int .i64 q3.k) := HK_q3.out.cell 0 rfl; have x1_q3 : w14.cell? ⟨ur3 + 1, 1, none⟩ = some (strV q3.nm) := HK_q3.out.cell 1 rfl; have x2_q3 : w14.cell? ⟨ur3 + 1, 2, none⟩ = some (strV q3.to) := HK_q3.out.cell 2 rfl; have x3_q3 : w14.cell? ⟨ur3 + 1, 3, none⟩ = some (.int .i64 q3.h.pos) := HK_q3.out.cell 3 rfl; have x4_q3 : w14.cell? ⟨ur3 + 1, 4, none⟩ = some (.slice A_q3 n_q3 c_q3) := HK_q3.out.cell 4 rfl; have x5_q3 : w14.cell? ⟨ur3 + 1, 5, none⟩ = some (.slice B_q3 m_q3 d_q3) := HK_q3.out.cell 5 rfl
  have yl_q3 := HK_q3.out.lt
  have yk0_q3 : ur3 < w14.heap.size := Nat.lt_of_le_of_lt (by omega) yl_q3
  go_wp2_with fail
  clear x0_q3 x1_q3 x2_q3 x3_q3 x4_q3 x5_q3 yl_q3 yk0_q3
  have hb : Below w14.heap.size w14 (World.alloc (World.alloc w14 (.cells #[.int .i64 r4.k, strV r4.nm, strV r4.to, .int .i64 r4.h.pos, .slice A_r4 n_r4 c_r4, .slice B_r4 m_r4 d_r4] 26)) (.cells #[.int .i64 p3.k, strV p3.nm, strV p3.to, .int .i64 p3.h.pos, .slice A_p3 n_p3 c_p3, .slice B_p3 m_p3 d_p3] 26)) := two_box _ _ _
  have b_r4 := (Blk.new w14 26 #[.int .i64 r4.k, strV r4.nm, strV r4.to, .int .i64 r4.h.pos, .slice A_r4 n_r4 c_r4, .slice B_r4 m_r4 d_r4]).alloc (.cells #[.int .i64 p3.k, strV p3.nm, strV p3.to, .int .i64 p3.h.pos, .slice A_p3 n_p3 c_p3, .slice B_p3 m_p3 d_p3] 26)
  have b_p3 := Blk.new (World.alloc w14 (.cells #[.int .i64 r4.k, strV r4.nm, strV r4.to, .int .i64 r4.h.pos, .slice A_r4 n_r4 c_r4, .slice B_r4 m_r4 d_r4] 26)) 26 #[.int .i64 p3.k, strV p3.nm, strV p3.to, .int .i64 p3.h.pos, .slice A_p3 n_p3 c_p3, .slice B_p3 m_p3 d_p3]
  simp only [World.size_alloc] at b_p3
  generalize (World.alloc (World.alloc w14 (.cells #[.int .i64 r4.k, strV r4.nm, strV r4.to, .int .i64 r4.h.pos, .slice A_r4 n_r4 c_r4, .slice B_r4 m_r4 d_r4] 26)) (.cells #[.int .i64 p3.k, strV p3.nm, strV p3.to, .int .i64 p3.h.pos, .slice A_p3 n_p3 c_p3, .slice B_p3 m_p3 d_p3] 26)) = w15 at *
  replace HV_p := Lib.hid (HV_p.out.mv hb)
  replace HV_q := Lib.hid (HV_q.out.mv hb)
  replace HV_r := Lib.hid (HV_r.out.mv hb)
  replace HV_q1 := Lib.hid (HV_q1.out.mv hb)
  replace HV_p1 := Lib.hid (HV_p1.out.mv hb)
  replace HV_r1 := Lib.hid (HV_r1.out.mv hb)
  replace HV_p2 := Lib.hid (HV_p2.out.mv hb)
  replace HV_r2 := Lib.hid (HV_r2.out.mv hb)
  replace HV_q2 := Lib.hid (HV_q2.out.mv hb)
  replace HV_r3 := Lib.hid (HV_r3.out.mv hb)
  replace HV_q3 := Lib.hid (HV_q3.out.mv hb)
  replace HV_r4 := Lib.hid (HV_r4.out.mv hb)
  replace HV_p3 := Lib.hid (HV_p3.out.mv hb)
  replace HK_p := Lib.hid (HK_p.out.below hb HK_p.out.lt)
  replace HK_q := Lib.hid (HK_q.out.below hb HK_q.out.lt)
  replace HK_r := Lib.hid (HK_r.out.below hb HK_r.out.lt)
  replace HK_q1 := Lib.hid (HK_q1.out.below hb HK_q1.out.lt)
  replace HK_p1 := Lib.hid (HK_p1.out.below hb HK_p1.out.lt)
  replace HK_r1 := Lib.hid (HK_r1.out.below hb HK_r1.out.lt)
  replace HK_p2 := Lib.hid (HK_p2.out.below hb HK_p2.out.lt)
  replace HK_r2 := Lib.hid (HK_r2.out.below hb HK_r2.out.lt)
  replace HK_q2 := Lib.hid (HK_q2.out.below hb HK_q2.out.lt)
  replace HK_r3 := Lib.hid (HK_r3.out.below hb HK_r3.out.lt)
  replace HK_q3 := Lib.hid (HK_q3.out.below hb HK_q3.out.lt)
  replace HB := Lib.hid (below_mv HB.out hb)
  clear hb
  generalize w14.heap.size = ur4 at *
  have HK_r4 := Lib.hid b_r4; have HK_p3 := Lib.hid b_p3; clear b_r4 b_p3
  obtain ⟨⟨q4, p4⟩, hx⟩ : ∃ z, outP (passP p3 q3) = z := ⟨_, rfl⟩
  obtain ⟨bn, hs⟩ : ∃ b, (passP p3 q3).isSome = b := ⟨_, rfl⟩
  have HX_q4 := Lib.hid hx; have HS_q4 := Lib.hid hs; clear hx hs
  refine (PassP A_p3 n_p3 c_p3 B_p3 m_p3 d_p3 A_q3 n_q3 c_q3 B_q3 m_q3 d_q3 p3 q3 q4 p4 w15 bn HL_p3.out HL_q3.out HV_p3.out HV_q3.out HX_q4.out HS_q4.out).mono ?_
  rintro e w16 ⟨A_q4, n_q4, c_q4, B_q4, m_q4, d_q4, A_p4, n_p4, c_p4, B_p4, m_p4, d_p4, rfl, hv, gv, hl, gl, hb⟩
  replace HV_p := Lib.hid (HV_p.out.mv hb)
  replace HV_q := Lib.hid (HV_q.out.mv hb)
  replace HV_r := Lib.hid (HV_r.out.mv hb)
  replace HV_q1 := Lib.hid (HV_q1.out.mv hb)
  replace HV_p1 := Lib.hid (HV_p1.out.mv hb)
  replace HV_r1 := Lib.hid (HV_r1.out.mv hb)
  replace HV_p2 := Lib.hid (HV_p2.out.mv hb)
  replace HV_r2 := Lib.hid (HV_r2.out.mv hb)
  replace HV_q2 := Lib.hid (HV_q2.out.mv hb)
  replace HV_r3 := Lib.hid (HV_r3.out.mv hb)
  replace HV_q3 := Lib.hid (HV_q3.out.mv hb)
  replace HV_r4 := Lib.hid (HV_r4.out.mv hb)
  replace HV_p3 := Lib.hid (HV_p3.out.mv hb)
  replace HK_p := Lib.hid (HK_p.out.below hb HK_p.out.lt)
  replace HK_q := Lib.hid (HK_q.out.below hb HK_q.out.lt)
  replace HK_r := Lib.hid (HK_r.out.below hb HK_r.out.lt)
  replace HK_q1 := Lib.hid (HK_q1.out.below hb HK_q1.out.lt)
  replace HK_p1 := Lib.hid (HK_p1.out.below hb HK_p1.out.lt)
  replace HK_r1 := Lib.hid (HK_r1.out.below hb HK_r1.out.lt)
  replace HK_p2 := Lib.hid (HK_p2.out.below hb HK_p2.out.lt)
  replace HK_r2 := Lib.hid (HK_r2.out.below hb HK_r2.out.lt)
  replace HK_q2 := Lib.hid (HK_q2.out.below hb HK_q2.out.lt)
  replace HK_r3 := Lib.hid (HK_r3.out.below hb HK_r3.out.lt)
  replace HK_q3 := Lib.hid (HK_q3.out.below hb HK_q3.out.lt)
  replace HK_r4 := Lib.hid (HK_r4.out.below hb HK_r4.out.lt)
  replace HK_p3 := Lib.hid (HK_p3.out.below hb HK_p3.out.lt)
  replace HB := Lib.hid (below_mv HB.out hb)
  clear hb
  have HV_q4 := Lib.hid hv; have HV_p4 := Lib.hid gv; have HL_q4 := Lib.hid hl; have HL_p4 := Lib.hid gl; clear hv gv hl gl
  cases bi with
  | false =>
    go_wp2
    go_ret
    exact ⟨rfl, (below_mv HB.out (two_box w16 (.cells #[.int .i64 q4.k, strV q4.nm, strV q4.to, .int .i64 q4.h.pos, .slice A_q4 n_q4 c_q4, .slice B_q4 m_q4 d_q4] 26) (.cells #[.int .i64 p4.k, strV p4.nm, strV p4.to, .int .i64 p4.h.pos, .slice A_p4 n_p4 c_p4, .slice B_p4 m_p4 d_p4] 26)))⟩
  | true =>
  cases bj with
  | false =>
    go_wp2
    go_ret
    exact ⟨rfl, (below_mv HB.out (two_box w16 (.cells #[.int .i64 q4.k, strV q4.nm, strV q4.to, .int .i64 q4.h.pos, .slice A_q4 n_q4 c_q4, .slice B_q4 m_q4 d_q4] 26) (.cells #[.int .i64 p4.k, strV p4.nm, strV p4.to, .int .i64 p4.h.pos, .slice A_p4 n_p4 c_p4, .slice B_p4 m_p4 d_p4] 26)))⟩
  | true =>
  cases bk with
  | false =>
    go_wp2
    go_ret
    exact ⟨rfl, (below_mv HB.out (two_box w16 (.cells #[.int .i64 q4.k, strV q4.nm, strV q4.to, .int .i64 q4.h.pos, .slice A_q4 n_q4 c_q4, .slice B_q4 m_q4 d_q4] 26) (.cells #[.int .i64 p4.k, strV p4.nm, strV p4.to, .int .i64 p4.h.pos, .slice A_p4 n_p4 c_p4, .slice B_p4 m_p4 d_p4] 26)))⟩
  | true =>
  cases bl with
  | false =>
    go_wp2
    go_ret
    exact ⟨rfl, (below_mv HB.out (two_box w16 (.cells #[.int .i64 q4.k, strV q4.nm, strV q4.to, .int .i64 q4.h.pos, .slice A_q4 n_q4 c_q4, .slice B_q4 m_q4 d_q4] 26) (.cells #[.int .i64 p4.k, strV p4.nm, strV p4.to, .int .i64 p4.h.pos, .slice A_p4 n_p4 c_p4, .slice B_p4 m_p4 d_p4] 26)))⟩
  | true =>
  cases bm with
  | false =>
    go_wp2
    go_ret
    exact ⟨rfl, (below_mv HB.out (two_box w16 (.cells #[.int .i64 q4.k, strV q4.nm, strV q4.to, .int .i64 q4.h.pos, .slice A_q4 n_q4 c_q4, .slice B_q4 m_q4 d_q4] 26) (.cells #[.int .i64 p4.k, strV p4.nm, strV p4.to, .int .i64 p4.h.pos, .slice A_p4 n_p4 c_p4, .slice B_p4 m_p4 d_p4] 26)))⟩
  | true =>
  cases bn with
  | false =>
    go_wp2
    go_ret
    exact ⟨rfl, (below_mv HB.out (two_box w16 (.cells #[.int .i64 q4.k, strV q4.nm, strV q4.to, .int .i64 q4.h.pos, .slice A_q4 n_q4 c_q4, .slice B_q4 m_q4 d_q4] 26) (.cells #[.int .i64 p4.k, strV p4.nm, strV p4.to, .int .i64 p4.h.pos, .slice A_p4 n_p4 c_p4, .slice B_p4 m_p4 d_p4] 26)))⟩
  | true =>
  obtain ⟨e1, e2, e3⟩ := passP_three (outP_of HX_q1.out HS_q1.out) (outP_of HX_r1.out HS_r1.out) (outP_of HX_r2.out HS_r2.out) (outP_of HX_r3.out HS_r3.out) (outP_of HX_r4.out HS_r4.out) (outP_of HX_q4.out HS_q4.out)
  clear HX_q1 HS_q1 HX_r1 HS_r1 HX_r2 HS_r2 HX_r3 HS_r3 HX_r4 HS_r4 HX_q4 HS_q4
  have HE1 : Hid (sameP r2 r4 = true) := Lib.hid (by rw [e1]; exact sameP_self _)
  have HE2 : Hid (sameP q2 q4 = true) := Lib.hid (by rw [e2]; exact sameP_self _)
  have HE3 : Hid (sameP p2 p4 = true) := Lib.hid (by rw [e3]; exact sameP_self _)
  clear e1 e2 e3
  have x0_r2 : w16.cell? ⟨ur2, 0, none⟩ = some (.int .i64 r2.k) := HK_r2.out.cell 0 rfl; have x1_r2 : w16.cell? ⟨ur2, 1, none⟩ = some (strV r2.nm) := HK_r2.out.cell 1 rfl; have x2_r2 : w16.cell? ⟨ur2, 2, none⟩ = some (strV r2.to) := HK_r2.out.cell 2 rfl; have x3_r2 : w16.cell? ⟨ur2, 3, none⟩ = some (.int .i64 r2.h.pos) := HK_r2.out.cell 3 rfl; have x4_r2 : w16.cell? ⟨ur2, 4, none⟩ = some (.slice A_r2 n_r2 c_r2) := HK_r2.out.cell 4 rfl; have x5_r2 : w16.cell? ⟨ur2, 5, none⟩ = some (.slice B_r2 m_r2 d_r2) := HK_r2.out.cell 5 rfl
  have yl_r2 := HK_r2.out.lt
  have x0_r4 : w16.cell? ⟨ur4, 0, none⟩ = some (.int .i64 r4.k) := HK_r4.out.cell 0 rfl; have x1_r4 : w16.cell? ⟨ur4, 1, none⟩ = some (strV r4.nm) := HK_r4.out.cell 1 rfl; have x2_r4 : w16.cell? ⟨ur4, 2, none⟩ = some (strV r4.to) := HK_r4.out.cell 2 rfl; have x3_r4 : w16.cell? ⟨ur4, 3, none⟩ = some (.int .i64 r4.h.pos) := HK_r4.out.cell 3 rfl; have x4_r4 : w16.cell? ⟨ur4, 4, none⟩ = some (.slice A_r4 n_r4 c_r4) := HK_r4.out.cell 4 rfl; have x5_r4 : w16.cell? ⟨ur4, 5, none⟩ = some (.slice B_r4 m_r4 d_r4) := HK_r4.out.cell 5 rfl
  have yl_r4 := HK_r4.out.lt
  go_wp2_with fail
  clear x0_r2 x1_r2 x2_r2 x3_r2 x4_r2 x5_r2 yl_r2
  clear x0_r4 x1_r4 x2_r4 x3_r4 x4_r4 x5_r4 yl_r4
  have hb : Below w16.heap.size w16 (World.alloc (World.alloc w16 (.cells #[.int .i64 q4.k, strV q4.nm, strV q4.to, .int .i64 q4.h.pos, .slice A_q4 n_q4 c_q4, .slice B_q4 m_q4 d_q4] 26)) (.cells #[.int .i64 p4.k, strV p4.nm, strV p4.to, .int .i64 p4.h.pos, .slice A_p4 n_p4 c_p4, .slice B_p4 m_p4 d_p4] 26)) := two_box _ _ _
  have b_q4 := (Blk.new w16 26 #[.int .i64 q4.k, strV q4.nm, strV q4.to, .int .i64 q4.h.pos, .slice A_q4 n_q4 c_q4, .slice B_q4 m_q4 d_q4]).alloc (.cells #[.int .i64 p4.k, strV p4.nm, strV p4.to, .int .i64 p4.h.pos, .slice A_p4 n_p4 c_p4, .slice B_p4 m_p4 d_p4] 26)
  have b_p4 := Blk.new (World.alloc w16 (.cells #[.int .i64 q4.k, strV q4.nm, strV q4.to, .int .i64 q4.h.pos, .slice A_q4 n_q4 c_q4, .slice B_q4 m_q4 d_q4] 26)) 26 #[.int .i64 p4.k, strV p4.nm, strV p4.to, .int .i64 p4.h.pos, .slice A_p4 n_p4 c_p4, .slice B_p4 m_p4 d_p4]
  simp only [World.size_alloc] at b_p4
  generalize (World.alloc (World.alloc w16 (.cells #[.int .i64 q4.k, strV q4.nm, strV q4.to, .int .i64 q4.h.pos, .slice A_q4 n_q4 c_q4, .slice B_q4 m_q4 d_q4] 26)) (.cells #[.int .i64 p4.k, strV p4.nm, strV p4.to, .int .i64 p4.h.pos, .slice A_p4 n_p4 c_p4, .slice B_p4 m_p4 d_p4] 26)) = w17 at *
  replace HV_p := Lib.hid (HV_p.out.mv hb)
  replace HV_q := Lib.hid (HV_q.out.mv hb)
  replace HV_r := Lib.hid (HV_r.out.mv hb)
  replace HV_q1 := Lib.hid (HV_q1.out.mv hb)
  replace HV_p1 := Lib.hid (HV_p1.out.mv hb)
  replace HV_r1 := Lib.hid (HV_r1.out.mv hb)
  replace HV_p2 := Lib.hid (HV_p2.out.mv hb)
  replace HV_r2 := Lib.hid (HV_r2.out.mv hb)
  replace HV_q2 := Lib.hid (HV_q2.out.mv hb)
  replace HV_r3 := Lib.hid (HV_r3.out.mv hb)
  replace HV_q3 := Lib.hid (HV_q3.out.mv hb)
  replace HV_r4 := Lib.hid (HV_r4.out.mv hb)
  replace HV_p3 := Lib.hid (HV_p3.out.mv hb)
  replace HV_q4 := Lib.hid (HV_q4.out.mv hb)
  replace HV_p4 := Lib.hid (HV_p4.out.mv hb)
  replace HK_p := Lib.hid (HK_p.out.below hb HK_p.out.lt)
  replace HK_q := Lib.hid (HK_q.out.below hb HK_q.out.lt)
  replace HK_r := Lib.hid (HK_r.out.below hb HK_r.out.lt)
  replace HK_q1 := Lib.hid (HK_q1.out.below hb HK_q1.out.lt)
  replace HK_p1 := Lib.hid (HK_p1.out.below hb HK_p1.out.lt)
  replace HK_r1 := Lib.hid (HK_r1.out.below hb HK_r1.out.lt)
  replace HK_p2 := Lib.hid (HK_p2.out.below hb HK_p2.out.lt)
  replace HK_r2 := Lib.hid (HK_r2.out.below hb HK_r2.out.lt)
  replace HK_q2 := Lib.hid (HK_q2.out.below hb HK_q2.out.lt)
  replace HK_r3 := Lib.hid (HK_r3.out.below hb HK_r3.out.lt)
  replace HK_q3 := Lib.hid (HK_q3.out.below hb HK_q3.out.lt)
  replace HK_r4 := Lib.hid (HK_r4.out.below hb HK_r4.out.lt)
  replace HK_p3 := Lib.hid (HK_p3.out.below hb HK_p3.out.lt)
  replace HB := Lib.hid (below_mv HB.out hb)
  clear hb
  generalize w16.heap.size = uq4 at *
  have HK_q4 := Lib.hid b_q4; have HK_p4 := Lib.hid b_p4; clear b_q4 b_p4
  refine (SameP A_r2 n_r2 c_r2 B_r2 m_r2 d_r2 A_r4 n_r4 c_r4 B_r4 m_r4 d_r4 r2 r4 _ true HV_r2.out HV_r4.out HE1.out).mono ?_
  rintro e w18 ⟨rfl, hb⟩
  replace HV_p := Lib.hid (HV_p.out.mv hb)
  replace HV_q := Lib.hid (HV_q.out.mv hb)
  replace HV_r := Lib.hid (HV_r.out.mv hb)
  replace HV_q1 := Lib.hid (HV_q1.out.mv hb)
  replace HV_p1 := Lib.hid (HV_p1.out.mv hb)
  replace HV_r1 := Lib.hid (HV_r1.out.mv hb)
  replace HV_p2 := Lib.hid (HV_p2.out.mv hb)
  replace HV_r2 := Lib.hid (HV_r2.out.mv hb)
  replace HV_q2 := Lib.hid (HV_q2.out.mv hb)
  replace HV_r3 := Lib.hid (HV_r3.out.mv hb)
  replace HV_q3 := Lib.hid (HV_q3.out.mv hb)
  replace HV_r4 := Lib.hid (HV_r4.out.mv hb)
  replace HV_p3 := Lib.hid (HV_p3.out.mv hb)
  replace HV_q4 := Lib.hid (HV_q4.out.mv hb)
  replace HV_p4 := Lib.hid (HV_p4.out.mv hb)
  replace HK_p := Lib.hid (HK_p.out.below hb HK_p.out.lt)
  replace HK_q := Lib.hid (HK_q.out.below hb HK_q.out.lt)
  replace HK_r := Lib.hid (HK_r.out.below hb HK_r.out.lt)
  replace HK_q1 := Lib.hid (HK_q1.out.below hb HK_q1.out.lt)
  replace HK_p1 := Lib.hid (HK_p1.out.below hb HK_p1.out.lt)
  replace HK_r1 := Lib.hid (HK_r1.out.below hb HK_r1.out.lt)
  replace HK_p2 := Lib.hid (HK_p2.out.below hb HK_p2.out.lt)
  replace HK_r2 := Lib.hid (HK_r2.out.below hb HK_r2.out.lt)
  replace HK_q2 := Lib.hid (HK_q2.out.below hb HK_q2.out.lt)
  replace HK_r3 := Lib.hid (HK_r3.out.below hb HK_r3.out.lt)
  replace HK_q3 := Lib.hid (HK_q3.out.below hb HK_q3.out.lt)
  replace HK_r4 := Lib.hid (HK_r4.out.below hb HK_r4.out.lt)
  replace HK_p3 := Lib.hid (HK_p3.out.below hb HK_p3.out.lt)
  replace HK_q4 := Lib.hid (HK_q4.out.below hb HK_q4.out.lt)
  replace HK_p4 := Lib.hid (HK_p4.out.below hb HK_p4.out.lt)
  replace HB := Lib.hid (below_mv HB.out hb)
  clear hb
  have x0_q2 : w18.cell? ⟨ur2 + 1, 0, none⟩ = some (.int .i64 q2.k) := HK_q2.out.cell 0 rfl; have x1_q2 : w18.cell? ⟨ur2 + 1, 1, none⟩ = some (strV q2.nm) := HK_q2.out.cell 1 rfl; have x2_q2 : w18.cell? ⟨ur2 + 1, 2, none⟩ = some (strV q2.to) := HK_q2.out.cell 2 rfl; have x3_q2 : w18.cell? ⟨ur2 + 1, 3, none⟩ = some (.int .i64 q2.h.pos) := HK_q2.out.cell 3 rfl; have x4_q2 : w18.cell? ⟨ur2 + 1, 4, none⟩ = some (.slice A_q2 n_q2 c_q2) := HK_q2.out.cell 4 rfl; have x5_q2 : w18.cell? ⟨ur2 + 1, 5, none⟩ = some (.slice B_q2 m_q2 d_q2) := HK_q2.out.cell 5 rfl
  have yl_q2 := HK_q2.out.lt
  have yk0_q2 : ur2 < w18.heap.size := Nat.lt_of_le_of_lt (by omega) yl_q2
  have x0_q4 : w18.cell? ⟨uq4, 0, none⟩ = some (.int .i64 q4.k) := HK_q4.out.cell 0 rfl; have x1_q4 : w18.cell? ⟨uq4, 1, none⟩ = some (strV q4.nm) := HK_q4.out.cell 1 rfl; have x2_q4 : w18.cell? ⟨uq4, 2, none⟩ = some (strV q4.to) := HK_q4.out.cell 2 rfl; have x3_q4 : w18.cell? ⟨uq4, 3, none⟩ = some (.int .i64 q4.h.pos) := HK_q4.out.cell 3 rfl; have x4_q4 : w18.cell? ⟨uq4, 4, none⟩ = some (.slice A_q4 n_q4 c_q4) := HK_q4.out.cell 4 rfl; have x5_q4 : w18.cell? ⟨uq4, 5, none⟩ = some (.slice B_q4 m_q4 d_q4) := HK_q4.out.cell 5 rfl
  have yl_q4 := HK_q4.out.lt
  go_wp2_with fail
  clear x0_q2 x1_q2 x2_q2 x3_q2 x4_q2 x5_q2 yl_q2 yk0_q2
  clear x0_q4 x1_q4 x2_q4 x3_q4 x4_q4 x5_q4 yl_q4
  refine (SameP A_q2 n_q2 c_q2 B_q2 m_q2 d_q2 A_q4 n_q4 c_q4 B_q4 m_q4 d_q4 q2 q4 _ true HV_q2.out HV_q4.out HE2.out).mono ?_
  rintro e w19 ⟨rfl, hb⟩
  replace HV_p := Lib.hid (HV_p.out.mv hb)
  replace HV_q := Lib.hid (HV_q.out.mv hb)
  replace HV_r := Lib.hid (HV_r.out.mv hb)
  replace HV_q1 := Lib.hid (HV_q1.out.mv hb)
  replace HV_p1 := Lib.hid (HV_p1.out.mv hb)
  replace HV_r1 := Lib.hid (HV_r1.out.mv hb)
  replace HV_p2 := Lib.hid (HV_p2.out.mv hb)
  replace HV_r2 := Lib.hid (HV_r2.out.mv hb)
  replace HV_q2 := Lib.hid (HV_q2.out.mv hb)
  replace HV_r3 := Lib.hid (HV_r3.out.mv hb)
  replace HV_q3 := Lib.hid (HV_q3.out.mv hb)
  replace HV_r4 := Lib.hid (HV_r4.out.mv hb)
  replace HV_p3 := Lib.hid (HV_p3.out.mv hb)
  replace HV_q4 := Lib.hid (HV_q4.out.mv hb)
  replace HV_p4 := Lib.hid (HV_p4.out.mv hb)
  replace HK_p := Lib.hid (HK_p.out.below hb HK_p.out.lt)
  replace HK_q := Lib.hid (HK_q.out.below hb HK_q.out.lt)
  replace HK_r := Lib.hid (HK_r.out.below hb HK_r.out.lt)
  replace HK_q1 := Lib.hid (HK_q1.out.below hb HK_q1.out.lt)
  replace HK_p1 := Lib.hid (HK_p1.out.below hb HK_p1.out.lt)
  replace HK_r1 := Lib.hid (HK_r1.out.below hb HK_r1.out.lt)
  replace HK_p2 := Lib.hid (HK_p2.out.below hb HK_p2.out.lt)
  replace HK_r2 := Lib.hid (HK_r2.out.below hb HK_r2.out.lt)
  replace HK_q2 := Lib.hid (HK_q2.out.below hb HK_q2.out.lt)
  replace HK_r3 := Lib.hid (HK_r3.out.below hb HK_r3.out.lt)
  replace HK_q3 := Lib.hid (HK_q3.out.below hb HK_q3.out.lt)
  replace HK_r4 := Lib.hid (HK_r4.out.below hb HK_r4.out.lt)
  replace HK_p3 := Lib.hid (HK_p3.out.below hb HK_p3.out.lt)
  replace HK_q4 := Lib.hid (HK_q4.out.below hb HK_q4.out.lt)
  replace HK_p4 := Lib.hid (HK_p4.out.below hb HK_p4.out.lt)
  replace HB := Lib.hid (below_mv HB.out hb)
  clear hb
  have x0_p2 : w19.cell? ⟨ur1 + 1, 0, none⟩ = some (.int .i64 p2.k) := HK_p2.out.cell 0 rfl; have x1_p2 : w19.cell? ⟨ur1 + 1, 1, none⟩ = some (strV p2.nm) := HK_p2.out.cell 1 rfl; have x2_p2 : w19.cell? ⟨ur1 + 1, 2, none⟩ = some (strV p2.to) := HK_p2.out.cell 2 rfl; have x3_p2 : w19.cell? ⟨ur1 + 1, 3, none⟩ = some (.int .i64 p2.h.pos) := HK_p2.out.cell 3 rfl; have x4_p2 : w19.cell? ⟨ur1 + 1, 4, none⟩ = some (.slice A_p2 n_p2 c_p2) := HK_p2.out.cell 4 rfl; have x5_p2 : w19.cell? ⟨ur1 + 1, 5, none⟩ = some (.slice B_p2 m_p2 d_p2) := HK_p2.out.cell 5 rfl
  have yl_p2 := HK_p2.out.lt
  have yk0_p2 : ur1 < w19.heap.size := Nat.lt_of_le_of_lt (by omega) yl_p2
  have x0_p4 : w19.cell? ⟨uq4 + 1, 0, none⟩ = some (.int .i64 p4.k) := HK_p4.out.cell 0 rfl; have x1_p4 : w19.cell? ⟨uq4 + 1, 1, none⟩ = some (strV p4.nm) := HK_p4.out.cell 1 rfl; have x2_p4 : w19.cell? ⟨uq4 + 1, 2, none⟩ = some (strV p4.to) := HK_p4.out.cell 2 rfl; have x3_p4 : w19.cell? ⟨uq4 + 1, 3, none⟩ = some (.int .i64 p4.h.pos) := HK_p4.out.cell 3 rfl; have x4_p4 : w19.cell? ⟨uq4 + 1, 4, none⟩ = some (.slice A_p4 n_p4 c_p4) := HK_p4.out.cell 4 rfl; have x5_p4 : w19.cell? ⟨uq4 + 1, 5, none⟩ = some (.slice B_p4 m_p4 d_p4) := HK_p4.out.cell 5 rfl
  have yl_p4 := HK_p4.out.lt
  have yk0_p4 : uq4 < w19.heap.size := Nat.lt_of_le_of_lt (by omega) yl_p4
  go_wp2_with fail
  clear x0_p2 x1_p2 x2_p2 x3_p2 x4_p2 x5_p2 yl_p2 yk0_p2
  clear x0_p4 x1_p4 x2_p4 x3_p4 x4_p4 x5_p4 yl_p4 yk0_p4
  refine (SameP A_p2 n_p2 c_p2 B_p2 m_p2 d_p2 A_p4 n_p4 c_p4 B_p4 m_p4 d_p4 p2 p4 _ true HV_p2.out HV_p4.out HE3.out).mono ?_
  rintro e w20 ⟨rfl, hb⟩
  replace HV_p := Lib.hid (HV_p.out.mv hb)
  replace HV_q := Lib.hid (HV_q.out.mv hb)
  replace HV_r := Lib.hid (HV_r.out.mv hb)
  replace HV_q1 := Lib.hid (HV_q1.out.mv hb)
  replace HV_p1 := Lib.hid (HV_p1.out.mv hb)
  replace HV_r1 := Lib.hid (HV_r1.out.mv hb)
  replace HV_p2 := Lib.hid (HV_p2.out.mv hb)
  replace HV_r2 := Lib.hid (HV_r2.out.mv hb)
  replace HV_q2 := Lib.hid (HV_q2.out.mv hb)
  replace HV_r3 := Lib.hid (HV_r3.out.mv hb)
  replace HV_q3 := Lib.hid (HV_q3.out.mv hb)
  replace HV_r4 := Lib.hid (HV_r4.out.mv hb)
  replace HV_p3 := Lib.hid (HV_p3.out.mv hb)
  replace HV_q4 := Lib.hid (HV_q4.out.mv hb)
  replace HV_p4 := Lib.hid (HV_p4.out.mv hb)
  replace HK_p := Lib.hid (HK_p.out.below hb HK_p.out.lt)
  replace HK_q := Lib.hid (HK_q.out.below hb HK_q.out.lt)
  replace HK_r := Lib.hid (HK_r.out.below hb HK_r.out.lt)
  replace HK_q1 := Lib.hid (HK_q1.out.below hb HK_q1.out.lt)
  replace HK_p1 := Lib.hid (HK_p1.out.below hb HK_p1.out.lt)
  replace HK_r1 := Lib.hid (HK_r1.out.below hb HK_r1.out.lt)
  replace HK_p2 := Lib.hid (HK_p2.out.below hb HK_p2.out.lt)
  replace HK_r2 := Lib.hid (HK_r2.out.below hb HK_r2.out.lt)
  replace HK_q2 := Lib.hid (HK_q2.out.below hb HK_q2.out.lt)
  replace HK_r3 := Lib.hid (HK_r3.out.below hb HK_r3.out.lt)
  replace HK_q3 := Lib.hid (HK_q3.out.below hb HK_q3.out.lt)
  replace HK_r4 := Lib.hid (HK_r4.out.below hb HK_r4.out.lt)
  replace HK_p3 := Lib.hid (HK_p3.out.below hb HK_p3.out.lt)
  replace HK_q4 := Lib.hid (HK_q4.out.below hb HK_q4.out.lt)
  replace HK_p4 := Lib.hid (HK_p4.out.below hb HK_p4.out.lt)
  replace HB := Lib.hid (below_mv HB.out hb)
  clear hb
  go_wp2
  go_ret
  exact ⟨rfl, HB.out⟩

end PsL
open PsL
open Tx
open Go.ChangeShapes Go.WideShapes Go.ChangeAt

theorem passThree_own : ownKnob Try.prog.godebug = none := by kernel_rfl
theorem passThree_laidOut : laidOutB Try.prog = true := by kernel_rfl

set_option maxRecDepth 100000 in
theorem passThree_lifted (os : Os) (started : os.Started) (H : Type) (enc : TypeId × Value → H) :
    ReturnsInHanded {} Try.checked os 8 .any (Rows.passThreeSpec.pre6 enc Try.prog Try.f8 Rows.passThreeRow.domain false) (Rows.passThreeSpec.post enc Try.prog Try.f8 false true false false) := by
  refine returnsInHanded_of_change (C := Try.checked) passThree_own started (by kernel_rfl) Try.func8
    (ChangeSpec.witness6 (enc := enc) (C := Try.checked) false ⟨#[], #[.agg #[.int .i64 0, .string ByteArray.empty, .string ByteArray.empty, .int .i64 0, .slice none 0 0, .slice none 0 0], .agg #[.int .i64 0, .string ByteArray.empty, .string ByteArray.empty, .int .i64 0, .slice none 0 0, .slice none 0 0], .agg #[.int .i64 0, .string ByteArray.empty, .string ByteArray.empty, .int .i64 0, .slice none 0 0, .slice none 0 0]], []⟩ 8 (by kernel_rfl) (by kernel_rfl) (by kernel_rfl) (by kernel_rfl)) ?_
  intro W base args ds gs before hval0 hW hcnd _
  have hval : ∀ (j : Nat) t v, Try.f8.params[j]? = some t → args[j]? = some v → Value.okWide Try.prog W .any base t v := hval0
  have hW' := hW
  obtain ⟨p, q, hA0, hV, rfl, hfz, hnd⟩ := hW
  have hA : DataW.TrodAll enc Try.prog W 0 (fun _ => true) true Try.f8.params.toList args.toList ds p := hA0
  rw [Try.params8] at hA hval
  obtain ⟨v0, vs0, d0, ds0, p0, q0, hargs, rfl, rfl, h0, r0⟩ := trodAll_cons hA
  obtain ⟨v1, vs1, d1, ds1, p1, q1, rfl, rfl, rfl, h1, r1⟩ := trodAll_cons r0
  obtain ⟨v2, vs2, d2, ds2, p2, q2, rfl, rfl, rfl, h2, r2⟩ := trodAll_cons r1
  obtain ⟨rfl, rfl, rfl⟩ := trodAll_nil r2
  obtain rfl : args = #[v0, v1, v2] := by cases args; simp_all
  obtain ⟨rfl, rfl⟩ := trodVars_none hV
  have k0 := h0
  have lt0 : ∀ x ∈ p0, x.block < W.heap.size := by obtain ⟨m, hm⟩ := k0; exact DataW.trod_lt m _ _ _ hm
  obtain ⟨a0, n0, c0, b0, m0, e0, l0, rfl, s0⟩ := prim_in (hval 0 26 v0 rfl rfl) h0
  have k1 := h1
  have lt1 : ∀ x ∈ p1, x.block < W.heap.size := by obtain ⟨m, hm⟩ := k1; exact DataW.trod_lt m _ _ _ hm
  obtain ⟨a1, n1, c1, b1, m1, e1, l1, rfl, s1⟩ := prim_in (hval 1 26 v1 rfl rfl) h1
  have k2 := h2
  have lt2 : ∀ x ∈ p2, x.block < W.heap.size := by obtain ⟨m, hm⟩ := k2; exact DataW.trod_lt m _ _ _ hm
  obtain ⟨a2, n2, c2, b2, m2, e2, l2, rfl, s2⟩ := prim_in (hval 2 26 v2 rfl rfl) h2
  clear hA0 hval0
  refine (passThree_walk a0 n0 c0 b0 m0 e0 l0 a1 n1 c1 b1 m1 e1 l1 a2 n2 c2 b2 m2 e2 l2 W s0 s1 s2).mono fun e W' ⟨he, bel⟩ => ?_
  subst he
  exact ⟨_, rfl, _, _, _, [], _, [], hW', trodAll_mk1 (shut_bool Try.underlying4 _), (trodAll_cons_mk (Below.trod passThree_laidOut (by kernel_rfl) (of_decide_eq_true (by kernel_rfl)) k0 bel lt0) (trodAll_cons_mk (Below.trod passThree_laidOut (by kernel_rfl) (of_decide_eq_true (by kernel_rfl)) k1 bel lt1) (trodAll_cons_mk (Below.trod passThree_laidOut (by kernel_rfl) (of_decide_eq_true (by kernel_rfl)) k2 bel lt2) trodAll_mk0))), rfl, bel.frame _, fun h => by cases h⟩

/-- The statement. -/
theorem passThree_proved : Rows.PassThreeSaid :=
  OpenClaim.holds_of_wide 8 Try.f8 rfl rfl rfl rfl rfl rfl rfl ⟨rfl, rfl, rfl, rfl, rfl⟩ rfl rfl rfl rfl rfl (by kernel_rfl) Try.func8 (by kernel_rfl)
    (of_decide_eq_true (by kernel_rfl)) (by unfold Func.isWrapper; first | (rw [if_pos (by decide +kernel)]; kernel_rfl) | (rw [if_neg (by decide +kernel)]; exact ⟨rfl, rfl⟩))
    (fun os started H enc _ => passThree_lifted os started H enc)

#print axioms passThree_proved
end Go.Proofs.Ytfjllohhjpiphaa
