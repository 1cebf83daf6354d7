/-
  What the document's own Turn of layer 8 returns (walk).
-/
import Derived.Test.YtdjeebfbffoehaaPrRef
import Derived.Deep.Cut
namespace Go.Proofs.Ytdjeebfbffoehaa
open Go.RowKit
set_option linter.unusedVariables false
set_option linter.unusedSimpArgs false
namespace Pr
open Tx Df Sq Hk Tr

/-- How a call ends that makes the change q. -/
def PTEnd (w : World) (q : Ch) (e : Ending) (w' : World) : Prop :=
  ∃ A n c A' n' c', e = .returned (prV q.k q.nm q.to q.h.pos A n c A' n' c') ∧ PV w' w'.heap.size A n c A' n' c' q ∧ q.h.old.length = n ∧ q.h.new.length = n' ∧ Below w.heap.size w w'

theorem two_box (w : World) (o o' : Obj) : Below w.heap.size w ((w.alloc o).alloc o') := ((Below.refl _ _).alloc (Nat.le_refl _) o).alloc (by simp) o'

/-- All six cells are set. -/
theorem blk6 {W : World} {b : Nat} {t : TypeId} {x0 x1 x2 x3 x4 x5 : Value} (h : Blk W b t #[x0, x1, x2, x3, x4, x5]) (v0 v1 v2 v3 v4 v5 : Value) : Blk ((((((World.setCell W ⟨b, 0, none⟩ v0).setCell ⟨b, 1, none⟩ v1).setCell ⟨b, 2, none⟩ v2).setCell ⟨b, 3, none⟩ v3).setCell ⟨b, 4, none⟩ v4).setCell ⟨b, 5, none⟩ v5) b t #[v0, v1, v2, v3, v4, v5] :=
  have b0 : Blk _ b t #[v0, x1, x2, x3, x4, x5] := h.set 0 v0
  have b1 : Blk _ b t #[v0, v1, x2, x3, x4, x5] := b0.set 1 v1
  have b2 : Blk _ b t #[v0, v1, v2, x3, x4, x5] := b1.set 2 v2
  have b3 : Blk _ b t #[v0, v1, v2, v3, x4, x5] := b2.set 3 v3
  have b4 : Blk _ b t #[v0, v1, v2, v3, v4, x5] := b3.set 4 v4
  have b5 : Blk _ b t #[v0, v1, v2, v3, v4, v5] := b4.set 5 v5
  b5
/-- The last three. -/
theorem blk3 {W : World} {b : Nat} {t : TypeId} {x0 x1 x2 x3 x4 x5 : Value} (h : Blk W b t #[x0, x1, x2, x3, x4, x5]) (v3 v4 v5 : Value) : Blk (((World.setCell W ⟨b, 3, none⟩ v3).setCell ⟨b, 4, none⟩ v4).setCell ⟨b, 5, none⟩ v5) b t #[x0, x1, x2, v3, v4, v5] :=
  have b3 : Blk _ b t #[x0, x1, x2, v3, x4, x5] := h.set 3 v3
  have b4 : Blk _ b t #[x0, x1, x2, v3, v4, x5] := b3.set 4 v4
  have b5 : Blk _ b t #[x0, x1, x2, v3, v4, v5] := b4.set 5 v5
  b5

set_option maxHeartbeats 2000000 in
theorem refTurnP (A : Option Addr) (n c : Nat) (A' : Option Addr) (n' c' B : Nat) (p : Ch) (w : World) (hB : B ≤ w.heap.size) (hv : PV w B A n c A' n' c' p) :
    Calls Try.prog 17 #[prV p.k p.nm p.to p.h.pos A n c A' n' c'] w (PTEnd w (turnP p)) := by
  have HV0 := Lib.hid hv; clear hv
  obtain ⟨k, nm, to, h⟩ := p
  dsimp only
  obtain ⟨q, hq⟩ : ∃ q, h.pos = q := ⟨_, rfl⟩
  have HQ := Lib.hid hq
  have HT := Lib.hid (fun w => refTurn q A n c A' n' c' w)
  rw [hq]
  clear hq
  by_cases h0 : k = 0
  · subst h0
    go_enter Try.func17, Try.ntmps17
    go_wp2
    have hb2 := two_box w (.cells #[.int .i64 1, strV nm, strV to, .int .i64 q, .slice A n c, .slice A' n' c'] 28) (.cells #[.int .i64 1, strV nm, strV to, .int .i64 q, .slice A n c, .slice A' n' c'] 28)
    refine bodyPost_ret (v := .agg #[.int .i64 1, strV nm, strV to, .int .i64 q, .slice A n c, .slice A' n' c']) (by simp [results, Try.results17, go_sem]) rfl ?_
    refine ⟨A, n, c, A', n', c', ?_, ?_, HV0.out.h.l, HV0.out.h.l', hb2⟩
    · rw [turnP_0 rfl, HQ.out]
    · rw [turnP_0 rfl]
      have h1 := (HV0.out.below (hb2.mono hB)).up (Nat.le_trans hB hb2.size)
      exact ⟨h1.h, by unfold I64; dsimp only; omega, h1.nm, h1.to, h1.s, h1.s'⟩
  by_cases h1 : k = 1
  · subst h1
    go_enter Try.func17, Try.ntmps17
    go_wp2
    have hb2 := two_box w (.cells #[.int .i64 0, strV nm, strV to, .int .i64 q, .slice A n c, .slice A' n' c'] 28) (.cells #[.int .i64 0, strV nm, strV to, .int .i64 q, .slice A n c, .slice A' n' c'] 28)
    refine bodyPost_ret (v := .agg #[.int .i64 0, strV nm, strV to, .int .i64 q, .slice A n c, .slice A' n' c']) (by simp [results, Try.results17, go_sem]) rfl ?_
    refine ⟨A, n, c, A', n', c', ?_, ?_, HV0.out.h.l, HV0.out.h.l', hb2⟩
    · rw [turnP_1 rfl, HQ.out]
    · rw [turnP_1 rfl]
      have h1 := (HV0.out.below (hb2.mono hB)).up (Nat.le_trans hB hb2.size)
      exact ⟨h1.h, by unfold I64; dsimp only; omega, h1.nm, h1.to, h1.s, h1.s'⟩
  by_cases h2 : k = 2
  · subst h2
    go_enter Try.func17, Try.ntmps17
    go_wp2
    have hb2 := two_box w (.cells #[.int .i64 2, strV to, strV nm, .int .i64 q, .slice A n c, .slice A' n' c'] 28) (.cells #[.int .i64 2, strV to, strV nm, .int .i64 q, .slice A n c, .slice A' n' c'] 28)
    refine bodyPost_ret (v := .agg #[.int .i64 2, strV to, strV nm, .int .i64 q, .slice A n c, .slice A' n' c']) (by simp [results, Try.results17, go_sem]) rfl ?_
    refine ⟨A, n, c, A', n', c', ?_, ?_, HV0.out.h.l, HV0.out.h.l', hb2⟩
    · rw [turnP_2 rfl, HQ.out]
    · rw [turnP_2 rfl]
      have h1 := (HV0.out.below (hb2.mono hB)).up (Nat.le_trans hB hb2.size)
      exact ⟨h1.h, by unfold I64; dsimp only; omega, h1.to, h1.nm, h1.s, h1.s'⟩
  · have HK : Hid (turnP ⟨k, nm, to, h⟩ = ⟨k, nm, to, turn h⟩) := Lib.hid (turnP_h h0 h1 h2)
    have e0 : (k == 0) = false := by rw [beq_eq_false_iff_ne]; exact h0
    have e1 : (k == 1) = false := by rw [beq_eq_false_iff_ne]; exact h1
    have e2 : (k == 2) = false := by rw [beq_eq_false_iff_ne]; exact h2
    clear h0 h1 h2
    go_enter Try.func17, Try.ntmps17
    go_wp2_with fail
    refine (HT.out _).mono ?_
    rintro e w1 ⟨rfl, hb1⟩
    have hw := two_box w (.cells #[.int .i64 k, strV nm, strV to, .int .i64 q, .slice A n c, .slice A' n' c'] 28) (.cells #[.int .i64 0, strV [], strV [], .int .i64 0, .slice none 0 0, .slice none 0 0] 28)
    have b1 := ((Blk.new w 28 #[.int .i64 k, strV nm, strV to, .int .i64 q, .slice A n c, .slice A' n' c']).alloc (.cells #[.int .i64 0, strV [], strV [], .int .i64 0, .slice none 0 0, .slice none 0 0] 28)).below hb1 (by simp; omega)
    have b2 := (Blk.new (w.alloc (.cells #[.int .i64 k, strV nm, strV to, .int .i64 q, .slice A n c, .slice A' n' c'] 28)) 28 #[.int .i64 0, strV [], strV [], .int .i64 0, .slice none 0 0, .slice none 0 0]).below hb1 (by simp)
    simp only [World.size_alloc] at b2
    have hb01 : Below w.heap.size w w1 := hw.trans (hb1.mono hw.size)
    clear hb1 hw
    have x0 : w1.cell? ⟨w.heap.size, 0, none⟩ = some (.int .i64 k) := b1.cell 0 rfl
    have x1 : w1.cell? ⟨w.heap.size, 1, none⟩ = some (strV nm) := b1.cell 1 rfl
    have x2 : w1.cell? ⟨w.heap.size, 2, none⟩ = some (strV to) := b1.cell 2 rfl
    have x3 : w1.cell? ⟨w.heap.size, 3, none⟩ = some (.int .i64 q) := b1.cell 3 rfl
    have x4 : w1.cell? ⟨w.heap.size, 4, none⟩ = some (.slice A n c) := b1.cell 4 rfl
    have x5 : w1.cell? ⟨w.heap.size, 5, none⟩ = some (.slice A' n' c') := b1.cell 5 rfl
    have z0 : w1.cell? ⟨w.heap.size + 1, 0, none⟩ = some (.int .i64 0) := b2.cell 0 rfl
    have z1 : w1.cell? ⟨w.heap.size + 1, 1, none⟩ = some (strV []) := b2.cell 1 rfl
    have z2 : w1.cell? ⟨w.heap.size + 1, 2, none⟩ = some (strV []) := b2.cell 2 rfl
    have z3 : w1.cell? ⟨w.heap.size + 1, 3, none⟩ = some (.int .i64 0) := b2.cell 3 rfl
    have z4 : w1.cell? ⟨w.heap.size + 1, 4, none⟩ = some (.slice none 0 0) := b2.cell 4 rfl
    have z5 : w1.cell? ⟨w.heap.size + 1, 5, none⟩ = some (.slice none 0 0) := b2.cell 5 rfl
    have f3 : w1.frozen? ⟨w.heap.size, 3, none⟩ = false := b1.frozen 3
    have f4 : w1.frozen? ⟨w.heap.size, 4, none⟩ = false := b1.frozen 4
    have f5 : w1.frozen? ⟨w.heap.size, 5, none⟩ = false := b1.frozen 5
    have b3 := blk3 b1 (.int .i64 q) (.slice A' n' c') (.slice A n c)
    have b4 := ((b2.set_ne (show w.heap.size + 1 ≠ w.heap.size from by omega) 3 (.int .i64 q)).set_ne (show w.heap.size + 1 ≠ w.heap.size from by omega) 4 (.slice A' n' c')).set_ne (show w.heap.size + 1 ≠ w.heap.size from by omega) 5 (.slice A n c)
    have hb3 := ((hb01.setCell (p := ⟨w.heap.size, 3, none⟩) (Nat.le_refl _) (.int .i64 q)).setCell (p := ⟨w.heap.size, 4, none⟩) (Nat.le_refl _) (.slice A' n' c')).setCell (p := ⟨w.heap.size, 5, none⟩) (Nat.le_refl _) (.slice A n c)
    have B3 := Lib.hid b3; have B4 := Lib.hid b4; have HB3 := Lib.hid hb3
    clear b1 b2 b3 b4 hb3 hb01
    go_upto_region 11 with fail
    have b3 := B3.out; have b4 := B4.out; have hb3 := HB3.out
    clear f3 f4 f5 B3 B4 HB3 x0 x1 x2 x3 x4 x5 z0 z1 z2 z3 z4 z5
    generalize (((World.setCell w1 ⟨w.heap.size, 3, none⟩ (.int .i64 q)).setCell ⟨w.heap.size, 4, none⟩ (.slice A' n' c')).setCell ⟨w.heap.size, 5, none⟩ (.slice A n c)) = w2 at *
    have x0 : w2.cell? ⟨w.heap.size, 0, none⟩ = some (.int .i64 k) := b3.cell 0 rfl
    have x1 : w2.cell? ⟨w.heap.size, 1, none⟩ = some (strV nm) := b3.cell 1 rfl
    have x2 : w2.cell? ⟨w.heap.size, 2, none⟩ = some (strV to) := b3.cell 2 rfl
    have x3 : w2.cell? ⟨w.heap.size, 3, none⟩ = some (.int .i64 q) := b3.cell 3 rfl
    have x4 : w2.cell? ⟨w.heap.size, 4, none⟩ = some (.slice A' n' c') := b3.cell 4 rfl
    have x5 : w2.cell? ⟨w.heap.size, 5, none⟩ = some (.slice A n c) := b3.cell 5 rfl
    have z0 : w2.cell? ⟨w.heap.size + 1, 0, none⟩ = some (.int .i64 0) := b4.cell 0 rfl
    have z1 : w2.cell? ⟨w.heap.size + 1, 1, none⟩ = some (strV []) := b4.cell 1 rfl
    have z2 : w2.cell? ⟨w.heap.size + 1, 2, none⟩ = some (strV []) := b4.cell 2 rfl
    have z3 : w2.cell? ⟨w.heap.size + 1, 3, none⟩ = some (.int .i64 0) := b4.cell 3 rfl
    have z4 : w2.cell? ⟨w.heap.size + 1, 4, none⟩ = some (.slice none 0 0) := b4.cell 4 rfl
    have z5 : w2.cell? ⟨w.heap.size + 1, 5, none⟩ = some (.slice none 0 0) := b4.cell 5 rfl
    have g0 : w2.frozen? ⟨w.heap.size + 1, 0, none⟩ = false := b4.frozen 0
    have g1 : w2.frozen? ⟨w.heap.size + 1, 1, none⟩ = false := b4.frozen 1
    have g2 : w2.frozen? ⟨w.heap.size + 1, 2, none⟩ = false := b4.frozen 2
    have g3 : w2.frozen? ⟨w.heap.size + 1, 3, none⟩ = false := b4.frozen 3
    have g4 : w2.frozen? ⟨w.heap.size + 1, 4, none⟩ = false := b4.frozen 4
    have g5 : w2.frozen? ⟨w.heap.size + 1, 5, none⟩ = false := b4.frozen 5
    have b5 := blk6 b4 (.int .i64 k) (strV nm) (strV to) (.int .i64 q) (.slice A' n' c') (.slice A n c)
    have hb9 := ((((((hb3.setCell (p := ⟨w.heap.size + 1, 0, none⟩) (Nat.le_succ _) (.int .i64 k)).setCell (p := ⟨w.heap.size + 1, 1, none⟩) (Nat.le_succ _) (strV nm)).setCell (p := ⟨w.heap.size + 1, 2, none⟩) (Nat.le_succ _) (strV to)).setCell (p := ⟨w.heap.size + 1, 3, none⟩) (Nat.le_succ _) (.int .i64 q)).setCell (p := ⟨w.heap.size + 1, 4, none⟩) (Nat.le_succ _) (.slice A' n' c')).setCell (p := ⟨w.heap.size + 1, 5, none⟩) (Nat.le_succ _) (.slice A n c))
    have B5 := Lib.hid b5; have HB9 := Lib.hid hb9
    clear b3 b4 hb3 b5 hb9
    go_wp2
    have b3 := B5.out; have hb9 := HB9.out
    clear g0 g1 g2 g3 g4 g5 B5 HB9 x0 x1 x2 x3 x4 x5 z0 z1 z2 z3 z4 z5
    generalize ((((((World.setCell w2 ⟨w.heap.size + 1, 0, none⟩ (.int .i64 k)).setCell ⟨w.heap.size + 1, 1, none⟩ (strV nm)).setCell ⟨w.heap.size + 1, 2, none⟩ (strV to)).setCell ⟨w.heap.size + 1, 3, none⟩ (.int .i64 q)).setCell ⟨w.heap.size + 1, 4, none⟩ (.slice A' n' c')).setCell ⟨w.heap.size + 1, 5, none⟩ (.slice A n c)) = W3 at *
    have q0 : W3.cell? ⟨w.heap.size + 1, 0, none⟩ = some (.int .i64 k) := b3.cell 0 rfl
    have q1 : W3.cell? ⟨w.heap.size + 1, 1, none⟩ = some (strV nm) := b3.cell 1 rfl
    have q2 : W3.cell? ⟨w.heap.size + 1, 2, none⟩ = some (strV to) := b3.cell 2 rfl
    have q3 : W3.cell? ⟨w.heap.size + 1, 3, none⟩ = some (.int .i64 q) := b3.cell 3 rfl
    have q4 : W3.cell? ⟨w.heap.size + 1, 4, none⟩ = some (.slice A' n' c') := b3.cell 4 rfl
    have q5 : W3.cell? ⟨w.heap.size + 1, 5, none⟩ = some (.slice A n c) := b3.cell 5 rfl
    refine bodyPost_ret (v := .agg #[(.int .i64 k), (strV nm), (strV to), (.int .i64 q), (.slice A' n' c'), (.slice A n c)]) (by simp [results, Try.results17, go_sem, q0, q1, q2, q3, q4, q5]) rfl ?_
    refine ⟨A', n', c', A, n, c, ?_, ?_, ?_, ?_, hb9⟩
    · rw [HK.out, ← HQ.out]; rfl
    · rw [HK.out]
      have h1 := (HV0.out.below (hb9.mono hB)).up (Nat.le_trans hB hb9.size)
      exact ⟨h1.h.turn, h1.k, h1.nm, h1.to, h1.s', h1.s⟩
    · rw [HK.out]; exact HV0.out.h.l'
    · rw [HK.out]; exact HV0.out.h.l

end Pr
end Go.Proofs.Ytdjeebfbffoehaa
