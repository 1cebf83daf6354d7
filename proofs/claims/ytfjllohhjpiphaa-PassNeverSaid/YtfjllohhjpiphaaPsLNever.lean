/-
  The statement PassNever: one that adds, takes away, or moves a file does not pass one that does so with the same one; a Set does not pass a change of the same lines.
-/
import Derived.Test.YtfjllohhjpiphaaPsLaw
import Derived.OpenShut
import Derived.ShutString
import Derived.BigQuiet
set_option maxRecDepth 100000
namespace Go.Proofs.Ytfjllohhjpiphaa
open Go.RowKit
set_option linter.unusedVariables false
open Tr Tx Hk Pr
namespace PsL

set_option maxRecDepth 100000 in
set_option maxHeartbeats 8000000 in
theorem passNever_walk (A_p : Option Addr) (n_p c_p : Nat) (B_p : Option Addr) (m_p d_p : Nat) (p : Ch) (A_q : Option Addr) (n_q c_q : Nat) (B_q : Option Addr) (m_q d_q : Nat) (q : Ch) (w : World) (h_p : PV w w.heap.size A_p n_p c_p B_p m_p d_p p) (h_q : PV w w.heap.size A_q n_q c_q B_q m_q d_q q) :
    Calls Try.prog 10 #[prV p.k p.nm p.to p.h.pos A_p n_p c_p B_p m_p d_p, prV q.k q.nm q.to q.h.pos A_q n_q c_q B_q m_q d_q] w (LawEnd w) := by
  have HV_p := Lib.hid h_p
  have HV_q := Lib.hid h_q
  have HB := Lib.hid (Below.refl w.heap.size w)
  clear h_p h_q
  go_enter Try.func10, Try.ntmps10
  go_wp2_with fail
  have hb : Below w.heap.size w (World.alloc (World.alloc w (.cells #[.int .i64 p.k, strV p.nm, strV p.to, .int .i64 p.h.pos, .slice A_p n_p c_p, .slice B_p m_p d_p] 26)) (.cells #[.int .i64 q.k, strV q.nm, strV q.to, .int .i64 q.h.pos, .slice A_q n_q c_q, .slice B_q m_q d_q] 26)) := (((Below.refl _ _).alloc (Nat.le_refl _) _).alloc (by simp) _)
  have b_p := (Blk.new w 26 #[.int .i64 p.k, strV p.nm, strV p.to, .int .i64 p.h.pos, .slice A_p n_p c_p, .slice B_p m_p d_p]).alloc (.cells #[.int .i64 q.k, strV q.nm, strV q.to, .int .i64 q.h.pos, .slice A_q n_q c_q, .slice B_q m_q d_q] 26)
  have b_q := Blk.new (World.alloc w (.cells #[.int .i64 p.k, strV p.nm, strV p.to, .int .i64 p.h.pos, .slice A_p n_p c_p, .slice B_p m_p d_p] 26)) 26 #[.int .i64 q.k, strV q.nm, strV q.to, .int .i64 q.h.pos, .slice A_q n_q c_q, .slice B_q m_q d_q]
  simp only [World.size_alloc] at b_q
  generalize (World.alloc (World.alloc w (.cells #[.int .i64 p.k, strV p.nm, strV p.to, .int .i64 p.h.pos, .slice A_p n_p c_p, .slice B_p m_p d_p] 26)) (.cells #[.int .i64 q.k, strV q.nm, strV q.to, .int .i64 q.h.pos, .slice A_q n_q c_q, .slice B_q m_q d_q] 26)) = w1 at *
  replace HV_p := Lib.hid (HV_p.out.mv hb)
  replace HV_q := Lib.hid (HV_q.out.mv hb)
  replace HB := Lib.hid (below_mv HB.out hb)
  clear hb
  obtain ⟨gb, hgb⟩ : ∃ gb, w.heap.size = gb := ⟨_, rfl⟩
  rw [hgb] at ⊢ b_p b_q
  clear hgb
  have HK_p := Lib.hid b_p; clear b_p
  have HK_q := Lib.hid b_q; clear b_q
  refine (PsAwake.awake w1).mono ?_
  rintro e w2 ⟨rfl, hb⟩
  replace HV_p := Lib.hid (HV_p.out.mv hb)
  replace HV_q := Lib.hid (HV_q.out.mv hb)
  replace HK_p := Lib.hid (HK_p.out.below hb HK_p.out.lt)
  replace HK_q := Lib.hid (HK_q.out.below hb HK_q.out.lt)
  replace HB := Lib.hid (below_mv HB.out hb)
  clear hb
  obtain ⟨bl_p, hbl⟩ : ∃ b, lightP p = b := ⟨_, rfl⟩
  have HBL_p := Lib.hid hbl; clear hbl
  have x0_p : w2.cell? ⟨gb, 0, none⟩ = some (.int .i64 p.k) := HK_p.out.cell 0 rfl; have x1_p : w2.cell? ⟨gb, 1, none⟩ = some (strV p.nm) := HK_p.out.cell 1 rfl; have x2_p : w2.cell? ⟨gb, 2, none⟩ = some (strV p.to) := HK_p.out.cell 2 rfl; have x3_p : w2.cell? ⟨gb, 3, none⟩ = some (.int .i64 p.h.pos) := HK_p.out.cell 3 rfl; have x4_p : w2.cell? ⟨gb, 4, none⟩ = some (.slice A_p n_p c_p) := HK_p.out.cell 4 rfl; have x5_p : w2.cell? ⟨gb, 5, none⟩ = some (.slice B_p m_p d_p) := HK_p.out.cell 5 rfl
  have yl_p := HK_p.out.lt
  go_wp2_with fail
  clear x0_p x1_p x2_p x3_p x4_p x5_p yl_p
  refine (LightP A_p n_p c_p B_p m_p d_p _ p _ bl_p (Nat.le_refl _) HV_p.out HBL_p.out).mono ?_
  rintro e w3 ⟨rfl, hb⟩
  replace HV_p := Lib.hid (HV_p.out.mv hb)
  replace HV_q := Lib.hid (HV_q.out.mv hb)
  replace HK_p := Lib.hid (HK_p.out.below hb HK_p.out.lt)
  replace HK_q := Lib.hid (HK_q.out.below hb HK_q.out.lt)
  replace HB := Lib.hid (below_mv HB.out hb)
  clear hb
  obtain ⟨bl_q, hbl⟩ : ∃ b, lightP q = b := ⟨_, rfl⟩
  have HBL_q := Lib.hid hbl; clear hbl
  have x0_q : w3.cell? ⟨gb + 1, 0, none⟩ = some (.int .i64 q.k) := HK_q.out.cell 0 rfl; have x1_q : w3.cell? ⟨gb + 1, 1, none⟩ = some (strV q.nm) := HK_q.out.cell 1 rfl; have x2_q : w3.cell? ⟨gb + 1, 2, none⟩ = some (strV q.to) := HK_q.out.cell 2 rfl; have x3_q : w3.cell? ⟨gb + 1, 3, none⟩ = some (.int .i64 q.h.pos) := HK_q.out.cell 3 rfl; have x4_q : w3.cell? ⟨gb + 1, 4, none⟩ = some (.slice A_q n_q c_q) := HK_q.out.cell 4 rfl; have x5_q : w3.cell? ⟨gb + 1, 5, none⟩ = some (.slice B_q m_q d_q) := HK_q.out.cell 5 rfl
  have yl_q := HK_q.out.lt
  have yk0_q : gb < w3.heap.size := Nat.lt_of_le_of_lt (by omega) yl_q
  go_wp2_with fail
  clear x0_q x1_q x2_q x3_q x4_q x5_q yl_q yk0_q
  refine (LightP A_q n_q c_q B_q m_q d_q _ q _ bl_q (Nat.le_refl _) HV_q.out HBL_q.out).mono ?_
  rintro e w4 ⟨rfl, hb⟩
  replace HV_p := Lib.hid (HV_p.out.mv hb)
  replace HV_q := Lib.hid (HV_q.out.mv hb)
  replace HK_p := Lib.hid (HK_p.out.below hb HK_p.out.lt)
  replace HK_q := Lib.hid (HK_q.out.below hb HK_q.out.lt)
  replace HB := Lib.hid (below_mv HB.out hb)
  clear hb
  cases bl_p with
  | false =>
    go_wp2
    go_ret
    exact ⟨rfl, HB.out⟩
  | true =>
  have HL_p := Lib.hid (HV_p.out.len HBL_p.out)
  cases bl_q with
  | false =>
    go_wp2
    go_ret
    exact ⟨rfl, HB.out⟩
  | true =>
  have HL_q := Lib.hid (HV_q.out.len HBL_q.out)
  have x0_p : w4.cell? ⟨gb, 0, none⟩ = some (.int .i64 p.k) := HK_p.out.cell 0 rfl; have x1_p : w4.cell? ⟨gb, 1, none⟩ = some (strV p.nm) := HK_p.out.cell 1 rfl; have x2_p : w4.cell? ⟨gb, 2, none⟩ = some (strV p.to) := HK_p.out.cell 2 rfl; have x3_p : w4.cell? ⟨gb, 3, none⟩ = some (.int .i64 p.h.pos) := HK_p.out.cell 3 rfl; have x4_p : w4.cell? ⟨gb, 4, none⟩ = some (.slice A_p n_p c_p) := HK_p.out.cell 4 rfl; have x5_p : w4.cell? ⟨gb, 5, none⟩ = some (.slice B_p m_p d_p) := HK_p.out.cell 5 rfl
  have yl_p := HK_p.out.lt
  have x0_q : w4.cell? ⟨gb + 1, 0, none⟩ = some (.int .i64 q.k) := HK_q.out.cell 0 rfl; have x1_q : w4.cell? ⟨gb + 1, 1, none⟩ = some (strV q.nm) := HK_q.out.cell 1 rfl; have x2_q : w4.cell? ⟨gb + 1, 2, none⟩ = some (strV q.to) := HK_q.out.cell 2 rfl; have x3_q : w4.cell? ⟨gb + 1, 3, none⟩ = some (.int .i64 q.h.pos) := HK_q.out.cell 3 rfl; have x4_q : w4.cell? ⟨gb + 1, 4, none⟩ = some (.slice A_q n_q c_q) := HK_q.out.cell 4 rfl; have x5_q : w4.cell? ⟨gb + 1, 5, none⟩ = some (.slice B_q m_q d_q) := HK_q.out.cell 5 rfl
  have yl_q := HK_q.out.lt
  have yk0_q : gb < w4.heap.size := Nat.lt_of_le_of_lt (by omega) yl_q
  cases t0 : (p.nm == q.nm) with
  | false =>
    have t1 : (!(p.nm == q.nm)) = true := by rw [t0]; rfl
    go_wp2
    go_ret
    exact ⟨rfl, HB.out⟩
  | true =>
  have t1 : (!(p.nm == q.nm)) = false := by rw [t0]; rfl
  have HE := Lib.hid (show p.nm = q.nm by simpa using t0)
  go_wp2_with fail
  clear t0 t1
  clear x0_p x1_p x2_p x3_p x4_p x5_p yl_p
  clear x0_q x1_q x2_q x3_q x4_q x5_q yl_q yk0_q
  obtain ⟨⟨x, y⟩, hx⟩ : ∃ z, outP (passP p q) = z := ⟨_, rfl⟩
  obtain ⟨b, hs⟩ : ∃ b, (passP p q).isSome = b := ⟨_, rfl⟩
  have HX_x := Lib.hid hx; have HS_x := Lib.hid hs; clear hx hs
  refine (PassP A_p n_p c_p B_p m_p d_p A_q n_q c_q B_q m_q d_q p q x y w4 b HL_p.out HL_q.out HV_p.out HV_q.out HX_x.out HS_x.out).mono ?_
  rintro e w5 ⟨A_x, n_x, c_x, B_x, m_x, d_x, A_y, n_y, c_y, B_y, m_y, d_y, rfl, hv, gv, hl, gl, hb⟩
  replace HV_p := Lib.hid (HV_p.out.mv hb)
  replace HV_q := Lib.hid (HV_q.out.mv hb)
  replace HK_p := Lib.hid (HK_p.out.below hb HK_p.out.lt)
  replace HK_q := Lib.hid (HK_q.out.below hb HK_q.out.lt)
  replace HB := Lib.hid (below_mv HB.out hb)
  clear hb
  have HV_x := Lib.hid hv; have HV_y := Lib.hid gv; have HL_x := Lib.hid hl; have HL_y := Lib.hid gl; clear hv gv hl gl
  have HN : Hid ((p.k ≤ 2 ∧ q.k ≤ 2) ∨ (p.k = 4 ∧ 3 ≤ q.k) ∨ (q.k = 4 ∧ 3 ≤ p.k) → b = false) := Lib.hid (fun h => by rw [← HS_x.out, passP_never HE.out h]; rfl)
  have x0_p : w5.cell? ⟨gb, 0, none⟩ = some (.int .i64 p.k) := HK_p.out.cell 0 rfl; have x1_p : w5.cell? ⟨gb, 1, none⟩ = some (strV p.nm) := HK_p.out.cell 1 rfl; have x2_p : w5.cell? ⟨gb, 2, none⟩ = some (strV p.to) := HK_p.out.cell 2 rfl; have x3_p : w5.cell? ⟨gb, 3, none⟩ = some (.int .i64 p.h.pos) := HK_p.out.cell 3 rfl; have x4_p : w5.cell? ⟨gb, 4, none⟩ = some (.slice A_p n_p c_p) := HK_p.out.cell 4 rfl; have x5_p : w5.cell? ⟨gb, 5, none⟩ = some (.slice B_p m_p d_p) := HK_p.out.cell 5 rfl
  have yl_p := HK_p.out.lt
  have x0_q : w5.cell? ⟨gb + 1, 0, none⟩ = some (.int .i64 q.k) := HK_q.out.cell 0 rfl; have x1_q : w5.cell? ⟨gb + 1, 1, none⟩ = some (strV q.nm) := HK_q.out.cell 1 rfl; have x2_q : w5.cell? ⟨gb + 1, 2, none⟩ = some (strV q.to) := HK_q.out.cell 2 rfl; have x3_q : w5.cell? ⟨gb + 1, 3, none⟩ = some (.int .i64 q.h.pos) := HK_q.out.cell 3 rfl; have x4_q : w5.cell? ⟨gb + 1, 4, none⟩ = some (.slice A_q n_q c_q) := HK_q.out.cell 4 rfl; have x5_q : w5.cell? ⟨gb + 1, 5, none⟩ = some (.slice B_q m_q d_q) := HK_q.out.cell 5 rfl
  have yl_q := HK_q.out.lt
  have yk0_q : gb < w5.heap.size := Nat.lt_of_le_of_lt (by omega) yl_q
  rcases (show p.k ≤ 2 ∨ p.k = 3 ∨ p.k = 4 ∨ 5 ≤ p.k by omega) with hp | hp | hp | hp
  · rcases (show q.k ≤ 2 ∨ q.k = 3 ∨ q.k = 4 ∨ 5 ≤ q.k by omega) with hq | hq | hq | hq
    · obtain rfl : b = false := HN.out (by omega)
      have a_p : (p.k == 4) = false := by rw [beq_eq_false_iff_ne]; omega
      have d_p : p.k < 3 := by omega
      have a_q : (q.k == 4) = false := by rw [beq_eq_false_iff_ne]; omega
      have d_q : q.k < 3 := by omega
      go_wp2
      go_ret
      exact ⟨rfl, (below_mv HB.out (two_box w5 (.cells #[.int .i64 x.k, strV x.nm, strV x.to, .int .i64 x.h.pos, .slice A_x n_x c_x, .slice B_x m_x d_x] 26) (.cells #[.int .i64 y.k, strV y.nm, strV y.to, .int .i64 y.h.pos, .slice A_y n_y c_y, .slice B_y m_y d_y] 26)))⟩
    · have a_p : (p.k == 4) = false := by rw [beq_eq_false_iff_ne]; omega
      have d_p : p.k < 3 := by omega
      have a_q : (q.k == 4) = false := by rw [beq_eq_false_iff_ne]; omega
      have c_q : ¬ q.k ≤ 2 := by omega
      have d_q : ¬ q.k < 3 := by omega
      have HHq := Lib.hid hq; clear hq
      cases b
      all_goals
        go_wp2
        go_ret
        exact ⟨rfl, (below_mv HB.out (two_box w5 (.cells #[.int .i64 x.k, strV x.nm, strV x.to, .int .i64 x.h.pos, .slice A_x n_x c_x, .slice B_x m_x d_x] 26) (.cells #[.int .i64 y.k, strV y.nm, strV y.to, .int .i64 y.h.pos, .slice A_y n_y c_y, .slice B_y m_y d_y] 26)))⟩
    · have a_p : (p.k == 4) = false := by rw [beq_eq_false_iff_ne]; omega
      have d_p : p.k < 3 := by omega
      have a_q : (q.k == 4) = true := by rw [hq]; rfl
      have c_q : ¬ q.k ≤ 2 := by omega
      have d_q : ¬ q.k < 3 := by omega
      have HHq := Lib.hid hq; clear hq
      cases b
      all_goals
        go_wp2
        go_ret
        exact ⟨rfl, (below_mv HB.out (two_box w5 (.cells #[.int .i64 x.k, strV x.nm, strV x.to, .int .i64 x.h.pos, .slice A_x n_x c_x, .slice B_x m_x d_x] 26) (.cells #[.int .i64 y.k, strV y.nm, strV y.to, .int .i64 y.h.pos, .slice A_y n_y c_y, .slice B_y m_y d_y] 26)))⟩
    · have a_p : (p.k == 4) = false := by rw [beq_eq_false_iff_ne]; omega
      have d_p : p.k < 3 := by omega
      have a_q : (q.k == 4) = false := by rw [beq_eq_false_iff_ne]; omega
      have c_q : ¬ q.k ≤ 2 := by omega
      have d_q : ¬ q.k < 3 := by omega
      cases b
      all_goals
        go_wp2
        go_ret
        exact ⟨rfl, (below_mv HB.out (two_box w5 (.cells #[.int .i64 x.k, strV x.nm, strV x.to, .int .i64 x.h.pos, .slice A_x n_x c_x, .slice B_x m_x d_x] 26) (.cells #[.int .i64 y.k, strV y.nm, strV y.to, .int .i64 y.h.pos, .slice A_y n_y c_y, .slice B_y m_y d_y] 26)))⟩
  · rcases (show q.k ≤ 2 ∨ q.k = 3 ∨ q.k = 4 ∨ 5 ≤ q.k by omega) with hq | hq | hq | hq
    · have a_p : (p.k == 4) = false := by rw [beq_eq_false_iff_ne]; omega
      have c_p : ¬ p.k ≤ 2 := by omega
      have d_p : ¬ p.k < 3 := by omega
      have a_q : (q.k == 4) = false := by rw [beq_eq_false_iff_ne]; omega
      have d_q : q.k < 3 := by omega
      have HHp := Lib.hid hp; clear hp
      cases b
      all_goals
        go_wp2
        go_ret
        exact ⟨rfl, (below_mv HB.out (two_box w5 (.cells #[.int .i64 x.k, strV x.nm, strV x.to, .int .i64 x.h.pos, .slice A_x n_x c_x, .slice B_x m_x d_x] 26) (.cells #[.int .i64 y.k, strV y.nm, strV y.to, .int .i64 y.h.pos, .slice A_y n_y c_y, .slice B_y m_y d_y] 26)))⟩
    · have a_p : (p.k == 4) = false := by rw [beq_eq_false_iff_ne]; omega
      have c_p : ¬ p.k ≤ 2 := by omega
      have d_p : ¬ p.k < 3 := by omega
      have a_q : (q.k == 4) = false := by rw [beq_eq_false_iff_ne]; omega
      have c_q : ¬ q.k ≤ 2 := by omega
      have d_q : ¬ q.k < 3 := by omega
      have HHp := Lib.hid hp; clear hp
      have HHq := Lib.hid hq; clear hq
      cases b
      all_goals
        go_wp2
        go_ret
        exact ⟨rfl, (below_mv HB.out (two_box w5 (.cells #[.int .i64 x.k, strV x.nm, strV x.to, .int .i64 x.h.pos, .slice A_x n_x c_x, .slice B_x m_x d_x] 26) (.cells #[.int .i64 y.k, strV y.nm, strV y.to, .int .i64 y.h.pos, .slice A_y n_y c_y, .slice B_y m_y d_y] 26)))⟩
    · obtain rfl : b = false := HN.out (by omega)
      have a_p : (p.k == 4) = false := by rw [beq_eq_false_iff_ne]; omega
      have c_p : ¬ p.k ≤ 2 := by omega
      have d_p : ¬ p.k < 3 := by omega
      have a_q : (q.k == 4) = true := by rw [hq]; rfl
      have c_q : ¬ q.k ≤ 2 := by omega
      have d_q : ¬ q.k < 3 := by omega
      have HHp := Lib.hid hp; clear hp
      have HHq := Lib.hid hq; clear hq
      go_wp2
      go_ret
      exact ⟨rfl, (below_mv HB.out (two_box w5 (.cells #[.int .i64 x.k, strV x.nm, strV x.to, .int .i64 x.h.pos, .slice A_x n_x c_x, .slice B_x m_x d_x] 26) (.cells #[.int .i64 y.k, strV y.nm, strV y.to, .int .i64 y.h.pos, .slice A_y n_y c_y, .slice B_y m_y d_y] 26)))⟩
    · have a_p : (p.k == 4) = false := by rw [beq_eq_false_iff_ne]; omega
      have c_p : ¬ p.k ≤ 2 := by omega
      have d_p : ¬ p.k < 3 := by omega
      have a_q : (q.k == 4) = false := by rw [beq_eq_false_iff_ne]; omega
      have c_q : ¬ q.k ≤ 2 := by omega
      have d_q : ¬ q.k < 3 := by omega
      have HHp := Lib.hid hp; clear hp
      cases b
      all_goals
        go_wp2
        go_ret
        exact ⟨rfl, (below_mv HB.out (two_box w5 (.cells #[.int .i64 x.k, strV x.nm, strV x.to, .int .i64 x.h.pos, .slice A_x n_x c_x, .slice B_x m_x d_x] 26) (.cells #[.int .i64 y.k, strV y.nm, strV y.to, .int .i64 y.h.pos, .slice A_y n_y c_y, .slice B_y m_y d_y] 26)))⟩
  · rcases (show q.k ≤ 2 ∨ q.k = 3 ∨ q.k = 4 ∨ 5 ≤ q.k by omega) with hq | hq | hq | hq
    · have a_p : (p.k == 4) = true := by rw [hp]; rfl
      have c_p : ¬ p.k ≤ 2 := by omega
      have d_p : ¬ p.k < 3 := by omega
      have a_q : (q.k == 4) = false := by rw [beq_eq_false_iff_ne]; omega
      have d_q : q.k < 3 := by omega
      have HHp := Lib.hid hp; clear hp
      cases b
      all_goals
        go_wp2
        go_ret
        exact ⟨rfl, (below_mv HB.out (two_box w5 (.cells #[.int .i64 x.k, strV x.nm, strV x.to, .int .i64 x.h.pos, .slice A_x n_x c_x, .slice B_x m_x d_x] 26) (.cells #[.int .i64 y.k, strV y.nm, strV y.to, .int .i64 y.h.pos, .slice A_y n_y c_y, .slice B_y m_y d_y] 26)))⟩
    · obtain rfl : b = false := HN.out (by omega)
      have a_p : (p.k == 4) = true := by rw [hp]; rfl
      have c_p : ¬ p.k ≤ 2 := by omega
      have d_p : ¬ p.k < 3 := by omega
      have a_q : (q.k == 4) = false := by rw [beq_eq_false_iff_ne]; omega
      have c_q : ¬ q.k ≤ 2 := by omega
      have d_q : ¬ q.k < 3 := by omega
      have HHp := Lib.hid hp; clear hp
      have HHq := Lib.hid hq; clear hq
      go_wp2
      go_ret
      exact ⟨rfl, (below_mv HB.out (two_box w5 (.cells #[.int .i64 x.k, strV x.nm, strV x.to, .int .i64 x.h.pos, .slice A_x n_x c_x, .slice B_x m_x d_x] 26) (.cells #[.int .i64 y.k, strV y.nm, strV y.to, .int .i64 y.h.pos, .slice A_y n_y c_y, .slice B_y m_y d_y] 26)))⟩
    · obtain rfl : b = false := HN.out (by omega)
      have a_p : (p.k == 4) = true := by rw [hp]; rfl
      have c_p : ¬ p.k ≤ 2 := by omega
      have d_p : ¬ p.k < 3 := by omega
      have a_q : (q.k == 4) = true := by rw [hq]; rfl
      have c_q : ¬ q.k ≤ 2 := by omega
      have d_q : ¬ q.k < 3 := by omega
      have HHp := Lib.hid hp; clear hp
      have HHq := Lib.hid hq; clear hq
      go_wp2
      go_ret
      exact ⟨rfl, (below_mv HB.out (two_box w5 (.cells #[.int .i64 x.k, strV x.nm, strV x.to, .int .i64 x.h.pos, .slice A_x n_x c_x, .slice B_x m_x d_x] 26) (.cells #[.int .i64 y.k, strV y.nm, strV y.to, .int .i64 y.h.pos, .slice A_y n_y c_y, .slice B_y m_y d_y] 26)))⟩
    · obtain rfl : b = false := HN.out (by omega)
      have a_p : (p.k == 4) = true := by rw [hp]; rfl
      have c_p : ¬ p.k ≤ 2 := by omega
      have d_p : ¬ p.k < 3 := by omega
      have a_q : (q.k == 4) = false := by rw [beq_eq_false_iff_ne]; omega
      have c_q : ¬ q.k ≤ 2 := by omega
      have d_q : ¬ q.k < 3 := by omega
      have HHp := Lib.hid hp; clear hp
      go_wp2
      go_ret
      exact ⟨rfl, (below_mv HB.out (two_box w5 (.cells #[.int .i64 x.k, strV x.nm, strV x.to, .int .i64 x.h.pos, .slice A_x n_x c_x, .slice B_x m_x d_x] 26) (.cells #[.int .i64 y.k, strV y.nm, strV y.to, .int .i64 y.h.pos, .slice A_y n_y c_y, .slice B_y m_y d_y] 26)))⟩
  · rcases (show q.k ≤ 2 ∨ q.k = 3 ∨ q.k = 4 ∨ 5 ≤ q.k by omega) with hq | hq | hq | hq
    · have a_p : (p.k == 4) = false := by rw [beq_eq_false_iff_ne]; omega
      have c_p : ¬ p.k ≤ 2 := by omega
      have d_p : ¬ p.k < 3 := by omega
      have a_q : (q.k == 4) = false := by rw [beq_eq_false_iff_ne]; omega
      have d_q : q.k < 3 := by omega
      cases b
      all_goals
        go_wp2
        go_ret
        exact ⟨rfl, (below_mv HB.out (two_box w5 (.cells #[.int .i64 x.k, strV x.nm, strV x.to, .int .i64 x.h.pos, .slice A_x n_x c_x, .slice B_x m_x d_x] 26) (.cells #[.int .i64 y.k, strV y.nm, strV y.to, .int .i64 y.h.pos, .slice A_y n_y c_y, .slice B_y m_y d_y] 26)))⟩
    · have a_p : (p.k == 4) = false := by rw [beq_eq_false_iff_ne]; omega
      have c_p : ¬ p.k ≤ 2 := by omega
      have d_p : ¬ p.k < 3 := by omega
      have a_q : (q.k == 4) = false := by rw [beq_eq_false_iff_ne]; omega
      have c_q : ¬ q.k ≤ 2 := by omega
      have d_q : ¬ q.k < 3 := by omega
      have HHq := Lib.hid hq; clear hq
      cases b
      all_goals
        go_wp2
        go_ret
        exact ⟨rfl, (below_mv HB.out (two_box w5 (.cells #[.int .i64 x.k, strV x.nm, strV x.to, .int .i64 x.h.pos, .slice A_x n_x c_x, .slice B_x m_x d_x] 26) (.cells #[.int .i64 y.k, strV y.nm, strV y.to, .int .i64 y.h.pos, .slice A_y n_y c_y, .slice B_y m_y d_y] 26)))⟩
    · obtain rfl : b = false := HN.out (by omega)
      have a_p : (p.k == 4) = false := by rw [beq_eq_false_iff_ne]; omega
      have c_p : ¬ p.k ≤ 2 := by omega
      have d_p : ¬ p.k < 3 := by omega
      have a_q : (q.k == 4) = true := by rw [hq]; rfl
      have c_q : ¬ q.k ≤ 2 := by omega
      have d_q : ¬ q.k < 3 := by omega
      have HHq := Lib.hid hq; clear hq
      go_wp2
      go_ret
      exact ⟨rfl, (below_mv HB.out (two_box w5 (.cells #[.int .i64 x.k, strV x.nm, strV x.to, .int .i64 x.h.pos, .slice A_x n_x c_x, .slice B_x m_x d_x] 26) (.cells #[.int .i64 y.k, strV y.nm, strV y.to, .int .i64 y.h.pos, .slice A_y n_y c_y, .slice B_y m_y d_y] 26)))⟩
    · have a_p : (p.k == 4) = false := by rw [beq_eq_false_iff_ne]; omega
      have c_p : ¬ p.k ≤ 2 := by omega
      have d_p : ¬ p.k < 3 := by omega
      have a_q : (q.k == 4) = false := by rw [beq_eq_false_iff_ne]; omega
      have c_q : ¬ q.k ≤ 2 := by omega
      have d_q : ¬ q.k < 3 := by omega
      cases b
      all_goals
        go_wp2
        go_ret
        exact ⟨rfl, (below_mv HB.out (two_box w5 (.cells #[.int .i64 x.k, strV x.nm, strV x.to, .int .i64 x.h.pos, .slice A_x n_x c_x, .slice B_x m_x d_x] 26) (.cells #[.int .i64 y.k, strV y.nm, strV y.to, .int .i64 y.h.pos, .slice A_y n_y c_y, .slice B_y m_y d_y] 26)))⟩

end PsL
open PsL
open Tx
open Go.ChangeShapes Go.WideShapes Go.ChangeAt

theorem passNever_own : ownKnob Try.prog.godebug = none := by kernel_rfl
theorem passNever_laidOut : laidOutB Try.prog = true := by kernel_rfl

set_option maxRecDepth 100000 in
theorem passNever_lifted (os : Os) (started : os.Started) (H : Type) (enc : TypeId × Value → H) :
    ReturnsInHanded {} Try.checked os 10 .any (Rows.passNeverSpec.pre6 enc Try.prog Try.f10 Rows.passNeverRow.domain false) (Rows.passNeverSpec.post enc Try.prog Try.f10 false true false false) := by
  refine returnsInHanded_of_change (C := Try.checked) passNever_own started (by kernel_rfl) Try.func10
    (ChangeSpec.witness6 (enc := enc) (C := Try.checked) false ⟨#[], #[.agg #[.int .i64 0, .string ByteArray.empty, .string ByteArray.empty, .int .i64 0, .slice none 0 0, .slice none 0 0], .agg #[.int .i64 0, .string ByteArray.empty, .string ByteArray.empty, .int .i64 0, .slice none 0 0, .slice none 0 0]], []⟩ 8 (by kernel_rfl) (by kernel_rfl) (by kernel_rfl) (by kernel_rfl)) ?_
  intro W base args ds gs before hval0 hW hcnd _
  have hval : ∀ (j : Nat) t v, Try.f10.params[j]? = some t → args[j]? = some v → Value.okWide Try.prog W .any base t v := hval0
  have hW' := hW
  obtain ⟨p, q, hA0, hV, rfl, hfz, hnd⟩ := hW
  have hA : DataW.TrodAll enc Try.prog W 0 (fun _ => true) true Try.f10.params.toList args.toList ds p := hA0
  rw [Try.params10] at hA hval
  obtain ⟨v0, vs0, d0, ds0, p0, q0, hargs, rfl, rfl, h0, r0⟩ := trodAll_cons hA
  obtain ⟨v1, vs1, d1, ds1, p1, q1, rfl, rfl, rfl, h1, r1⟩ := trodAll_cons r0
  obtain ⟨rfl, rfl, rfl⟩ := trodAll_nil r1
  obtain rfl : args = #[v0, v1] := by cases args; simp_all
  obtain ⟨rfl, rfl⟩ := trodVars_none hV
  have k0 := h0
  have lt0 : ∀ x ∈ p0, x.block < W.heap.size := by obtain ⟨m, hm⟩ := k0; exact DataW.trod_lt m _ _ _ hm
  obtain ⟨a0, n0, c0, b0, m0, e0, l0, rfl, s0⟩ := prim_in (hval 0 26 v0 rfl rfl) h0
  have k1 := h1
  have lt1 : ∀ x ∈ p1, x.block < W.heap.size := by obtain ⟨m, hm⟩ := k1; exact DataW.trod_lt m _ _ _ hm
  obtain ⟨a1, n1, c1, b1, m1, e1, l1, rfl, s1⟩ := prim_in (hval 1 26 v1 rfl rfl) h1
  clear hA0 hval0
  refine (passNever_walk a0 n0 c0 b0 m0 e0 l0 a1 n1 c1 b1 m1 e1 l1 W s0 s1).mono fun e W' ⟨he, bel⟩ => ?_
  subst he
  exact ⟨_, rfl, _, _, _, [], _, [], hW', trodAll_mk1 (shut_bool Try.underlying4 _), (trodAll_cons_mk (Below.trod passNever_laidOut (by kernel_rfl) (of_decide_eq_true (by kernel_rfl)) k0 bel lt0) (trodAll_cons_mk (Below.trod passNever_laidOut (by kernel_rfl) (of_decide_eq_true (by kernel_rfl)) k1 bel lt1) trodAll_mk0)), rfl, bel.frame _, fun h => by cases h⟩

/-- The statement. -/
theorem passNever_proved : Rows.PassNeverSaid :=
  OpenClaim.holds_of_wide 10 Try.f10 rfl rfl rfl rfl rfl rfl rfl ⟨rfl, rfl, rfl, rfl, rfl⟩ rfl rfl rfl rfl rfl (by kernel_rfl) Try.func10 (by kernel_rfl)
    (of_decide_eq_true (by kernel_rfl)) (by unfold Func.isWrapper; first | (rw [if_pos (by decide +kernel)]; kernel_rfl) | (rw [if_neg (by decide +kernel)]; exact ⟨rfl, rfl⟩))
    (fun os started H enc _ => passNever_lifted os started H enc)

#print axioms passNever_proved
end Go.Proofs.Ytfjllohhjpiphaa
