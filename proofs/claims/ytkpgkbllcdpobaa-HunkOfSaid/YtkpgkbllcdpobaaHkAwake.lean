/-
  The example of layer 5 holds (walk).
-/
import Derived.Test.YtkpgkbllcdpobaaHkOf
import Derived.Test.YtkpgkbllcdpobaaLcWords
namespace Go.Proofs.Ytkpgkbllcdpobaa
open Go.RowKit
set_option linter.unusedVariables false
namespace Hk
open Tx Df Lc

theorem ex_hks : hks ([[97], [98], [99]] : List (List UInt8)) 0 (edits [[97], [98], [99]] [[120], [97], [99]]) = [⟨0, [], [[120]]⟩, ⟨2, [[98]], []⟩] := by
  simp [edits, ends, eds, one, pairs, prs, lcs, mid, hks]
theorem ex_may : mayH ⟨0, [], [[120]]⟩ = true := by decide
theorem ex_same : sameH ⟨0, [], [[120]]⟩ ⟨2, [[98]], []⟩ = false := by decide

set_option maxRecDepth 100000 in
set_option maxHeartbeats 4000000 in
theorem awake (w : World) : Calls Try.prog 8 #[] w fun e w' => e = .returned (.bool true) ∧ Below w.heap.size w w' := by
  go_enter Try.func8, Try.ntmps8
  go_wp2_with fail
  obtain ⟨o0, ho0⟩ : ∃ o : Obj, o = .cells #[.string ⟨#[97]⟩, .string ⟨#[98]⟩, .string ⟨#[99]⟩] 9 (0, 0) := ⟨_, rfl⟩
  obtain ⟨o1, ho1⟩ : ∃ o : Obj, o = .cells #[.string ⟨#[120]⟩, .string ⟨#[97]⟩, .string ⟨#[99]⟩] 9 (0, 0) := ⟨_, rfl⟩
  have r0 : RdS (w.alloc o0) (w.alloc o0).heap.size (some ⟨w.heap.size, 0, none⟩) [[97], [98], [99]] := by subst ho0; exact rd_new w [[97], [98], [99]] (0, 0)
  have r1 : RdS ((w.alloc o0).alloc o1) ((w.alloc o0).alloc o1).heap.size (some ⟨w.heap.size + 1, 0, none⟩) [[120], [97], [99]] := by
    have e1 : (w.alloc o0).heap.size = w.heap.size + 1 := by simp
    subst ho1; rw [← e1]; exact rd_new (w.alloc o0) [[120], [97], [99]] (0, 0)
  have r01 := rd_old r0 (Nat.le_refl _) o1
  have hb0 : Below w.heap.size w ((w.alloc o0).alloc o1) := ((Below.refl _ _).alloc (Nat.le_refl _) _).alloc (by simp) _
  rw [← ho0, ← ho1]
  refine (Of _ _ 3 3 3 3 _ _ _ _ rfl rfl (Nat.le_refl _) (Nat.le_refl _) (by decide) (by decide) (Nat.le_refl _) r01 r1).mono ?_
  rw [ex_hks]
  rintro e w1 ⟨A, c, rfl, hc, hH, hb1⟩
  have hbw := hb0.trans (hb1.mono hb0.size)
  clear r0 r1 r01 ho0 ho1 hb1 hb0
  simp only [List.length_cons, List.length_nil] at hc ⊢
  obtain ⟨g, rfl, hg, hx⟩ := hH.at_ (k := 0) (by decide)
  obtain ⟨g', hg', _, hy⟩ := hH.at_ (k := 1) (by decide)
  injection hg' with hg'; subst hg'
  obtain ⟨c0, A1, k1, A2, k2, c1, c2, v1⟩ := hx
  obtain ⟨d0, D1, j1, D2, j2, d1, d2, v2⟩ := hy
  obtain ⟨q, rfl, _, hq⟩ := v2.r.at_ (k := 0) (by decide)
  simp only [Nat.zero_mul, add_zero', Nat.one_mul, List.getElem_cons_zero, List.getElem_cons_succ, List.length_cons, List.length_nil, List.map_cons, Nat.zero_add] at hc c0 c1 c2 d0 d1 d2 hq v1 v2
  change w1.cell? ⟨g.block, g.off + 3, none⟩ = _ at d0
  change w1.cell? ⟨g.block, g.off + 3 + 1, none⟩ = _ at d1
  change w1.cell? ⟨g.block, g.off + 3 + 2, none⟩ = _ at d2
  have HM : Hid (∀ W, Below w1.heap.size w1 W → Calls Try.prog 18 #[hkV 0 A1 0 k1 A2 1 k2] W (TestEnd W true)) := Lib.hid (fun W hb => by
    have := May A1 0 k1 A2 1 k2 w1.heap.size ⟨0, [], [[120]]⟩ W hb.size (v1.below hb)
    rw [ex_may] at this; exact this)
  have HS : Hid (∀ W, Below w1.heap.size w1 W → Calls Try.prog 19 #[hkV 0 A1 0 k1 A2 1 k2, hkV 2 (some q) 1 j1 D2 0 j2] W (TestEnd W false)) := Lib.hid (fun W hb => by
    have := SameH A1 0 k1 A2 1 k2 (some q) 1 j1 D2 0 j2 w1.heap.size ⟨0, [], [[120]]⟩ ⟨2, [[98]], []⟩ W hb.size (v1.below hb) (v2.below hb)
    rw [ex_same] at this; exact this)
  have hq0 : w1.cell? q = some (.string ⟨#[98]⟩) := hq
  have hq1 : q.block < w1.heap.size := World.block_lt_of_cell? w1 q hq
  have HC : Hid (∀ W, Below w1.heap.size w1 W → W.cell? g = some (.int .i64 0) ∧ W.cell? ⟨g.block, g.off + 1, none⟩ = some (.slice A1 0 k1) ∧ W.cell? ⟨g.block, g.off + 2, none⟩ = some (.slice A2 1 k2) ∧ W.cell? ⟨g.block, g.off + 3, none⟩ = some (.int .i64 2) ∧
      W.cell? ⟨g.block, g.off + 3 + 1, none⟩ = some (.slice (some q) 1 j1) ∧ W.cell? ⟨g.block, g.off + 3 + 2, none⟩ = some (.slice D2 0 j2) ∧ W.cell? q = some (.string ⟨#[98]⟩)) := Lib.hid (fun W hb => by
    exact ⟨(hb.cell hg).trans c0, (hb.cell (p := ⟨g.block, g.off + 1, none⟩) hg).trans c1, (hb.cell (p := ⟨g.block, g.off + 2, none⟩) hg).trans c2, (hb.cell (p := ⟨g.block, g.off + 3, none⟩) hg).trans d0, (hb.cell (p := ⟨g.block, g.off + 3 + 1, none⟩) hg).trans d1, (hb.cell (p := ⟨g.block, g.off + 3 + 2, none⟩) hg).trans d2, (hb.cell hq1).trans hq0⟩)
  have HB := Lib.hid hbw
  clear v1 v2 hH hbw hg hq hq1
  go_wp2_with fail
  go_region_held3 (fun W => W.cell? g = some (.int .i64 0) ∧ W.cell? ⟨g.block, g.off + 1, none⟩ = some (.slice A1 0 k1) ∧ W.cell? ⟨g.block, g.off + 2, none⟩ = some (.slice A2 1 k2) ∧ W.cell? ⟨g.block, g.off + 3, none⟩ = some (.int .i64 2) ∧
      W.cell? ⟨g.block, g.off + 3 + 1, none⟩ = some (.slice (some q) 1 j1) ∧ W.cell? ⟨g.block, g.off + 3 + 2, none⟩ = some (.slice D2 0 j2) ∧ W.cell? q = some (.string ⟨#[98]⟩))
    (first
      | go_keep
      | (exact hS2)
      | (exact hS3))
    (first
      | (go_at_call 18; refine (HM.out w1.drew (below_drewN (Below.refl _ _) 1)).mono ?_; rintro e w2 ⟨rfl, hb2⟩; have hb12 := (below_drewN (Below.refl w1.heap.size w1) 1).trans hb2; have hS2 := HC.out w2 hb12; have HB2 := Lib.hid hb12; clear hb2 hb12)
      | (go_at_call 19; refine (HS.out w2 HB2.out).mono ?_; rintro e w3 ⟨rfl, hb3⟩; have hb13 := HB2.out.trans (hb3.mono HB2.out.size); have hS3 := HC.out w3 hb13; have HB3 := Lib.hid hb13; clear hb3 hb13))
  go_wp2
  go_ret
  exact ⟨rfl, HB.out.trans (HB3.out.mono HB.out.size)⟩

end Hk
end Go.Proofs.Ytkpgkbllcdpobaa
