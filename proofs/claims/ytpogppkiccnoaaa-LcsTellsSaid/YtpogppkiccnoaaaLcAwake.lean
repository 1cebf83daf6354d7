/-
  The example of layer 3 holds (walk).
-/
import Derived.Test.YtpogppkiccnoaaaLcPairsAll
import Derived.Test.YtpogppkiccnoaaaQLight
import Derived.Laws.StructEq
import Derived.Laws.Cover2
import Derived.Laws.Tables
namespace Go.Proofs.Ytpogppkiccnoaaa
open Go.RowKit
set_option linter.unusedVariables false
namespace Lc
open Tx

theorem ex_lcs : lcs ([[97], [98], [99], [100]] : List (List UInt8)) [[98], [100], [97]] = 2 := by simp [lcs]
theorem ex_pairs : pairs ([[97], [98], [99], [100]] : List (List UInt8)) [[98], [100], [97]] = [(1, 0), (3, 1)] := by simp [pairs, prs, lcs]

/-- Whether two pairs are the same. -/
theorem eq_pair (a b c d : Int) (w : World) : (Op.equalIn 10000 30 (.agg #[.int .i64 a, .int .i64 b]) (.agg #[.int .i64 c, .int .i64 d])).run Try.prog w = .ok (a == c && b == d) w := by
  have u3 := Try.underlying3
  have a3 := Try.isAgg3
  have z3 := Try.sizeOf3
  rw [show (10000 : Nat) = 9999 + 1 from rfl, Op.equalIn]
  simp only [Sem.run_bind, run_underlying Try.underlying30, Result.andThen_ok]
  simp only [Std.Legacy.Range.forIn_eq_forIn_range', Std.Legacy.Range.size, Nat.sub_zero, Nat.add_sub_cancel, Nat.div_one, List.range'_succ, List.range'_zero, List.forIn_cons, List.forIn_nil]
  go_simp
  by_cases h1 : a = c <;> by_cases h2 : b = d <;> simp [h1, h2]
attribute [local go_sem] eq_pair

theorem rd_new (w : World) (ls : List (List UInt8)) (fr : Nat × Nat) : RdS (w.alloc (.cells (ls.map strV).toArray 9 fr)) (w.alloc (.cells (ls.map strV).toArray 9 fr)).heap.size (some ⟨w.heap.size, 0, none⟩) ls := by
  refine .inr ⟨_, rfl, by simp, fun j u hu => ?_⟩
  have h := World.alloc_heap_new w (.cells (ls.map strV).toArray 9 fr)
  have e : (⟨w.heap.size, 0, none⟩ : Addr).add j = ⟨w.heap.size, j, none⟩ := by unfold Addr.add; split <;> simp_all
  rw [e]
  unfold World.cell?
  rw [h]
  simpa using hu
theorem rd_old {w : World} {B : Nat} {A : Option Addr} {ls : List (List UInt8)} (h : RdS w B A ls) (hB : B ≤ w.heap.size) (o : Obj) : RdS (w.alloc o) (w.alloc o).heap.size A ls :=
  Rd.up (h.below ((Below.refl _ _).alloc hB _)) (by simp; omega)

set_option maxRecDepth 100000 in
set_option maxHeartbeats 1000000 in
theorem awake (w : World) : Calls Try.prog 9 #[] w fun e w' => e = .returned (.bool true) ∧ Below w.heap.size w w' := by
  go_enter Try.func9, Try.ntmps9
  go_wp2_with fail
  obtain ⟨o0, ho0⟩ : ∃ o : Obj, o = .cells #[.string ⟨#[97]⟩, .string ⟨#[98]⟩, .string ⟨#[99]⟩, .string ⟨#[100]⟩] 9 (0, 0) := ⟨_, rfl⟩
  obtain ⟨o1, ho1⟩ : ∃ o : Obj, o = .cells #[.string ⟨#[98]⟩, .string ⟨#[100]⟩, .string ⟨#[97]⟩] 9 (0, 0) := ⟨_, rfl⟩
  have r0 : RdS (w.alloc o0) (w.alloc o0).heap.size (some ⟨w.heap.size, 0, none⟩) [[97], [98], [99], [100]] := by subst ho0; exact rd_new w [[97], [98], [99], [100]] (0, 0)
  have r1 : RdS ((w.alloc o0).alloc o1) ((w.alloc o0).alloc o1).heap.size (some ⟨w.heap.size + 1, 0, none⟩) [[98], [100], [97]] := by
    have e1 : (w.alloc o0).heap.size = w.heap.size + 1 := by simp
    subst ho1; rw [← e1]; exact rd_new (w.alloc o0) [[98], [100], [97]] (0, 0)
  have r01 := rd_old r0 (Nat.le_refl _) o1
  have hb0 : Below w.heap.size w ((w.alloc o0).alloc o1) := ((Below.refl _ _).alloc (Nat.le_refl _) _).alloc (by simp) _
  rw [← ho0, ← ho1]
  refine (Pairs _ _ 4 3 4 3 _ _ _ _ rfl rfl (Nat.le_refl _) (by decide) (by decide) (Nat.le_refl _) r01 r1).mono ?_
  rw [ex_pairs]
  rintro e w1 ⟨v, rfl, hrow, hb1⟩
  obtain ⟨g, cap, rfl⟩ := ownsRow_succ hrow
  have c0 := hrow.cellAt 0 (by decide)
  have c1 := hrow.cellAt 1 (by decide)
  have c2 := hrow.cellAt 2 (by decide)
  have c3 := hrow.cellAt 3 (by decide)
  simp [cellsP] at c0 c1 c2 c3
  have hbw := hb0.trans (hb1.mono hb0.size)
  have hra := (Rd.below r01 hb1)
  have hs1 := hb1.size
  have hlt := (hrow.lt g rfl).2
  have hr2 : Rd w1 w1.heap.size (some ⟨w.heap.size, 0, none⟩) (([[97], [98], [99], [100]] : List (List UInt8)).map strV) := Rd.up hra hs1
  clear r0 r1 r01 hra hrow ho0
  go_wp2_with fail
  rw [← ho1]
  have ra2 : RdS (w1.alloc o1) (w1.alloc o1).heap.size (some ⟨w.heap.size, 0, none⟩) [[97], [98], [99], [100]] := rd_old hr2 (Nat.le_refl _) o1
  have rb2 : RdS (w1.alloc o1) (w1.alloc o1).heap.size (some ⟨w1.heap.size, 0, none⟩) [[98], [100], [97]] := by subst ho1; exact rd_new w1 [[98], [100], [97]] (0, 0)
  refine (Many _ _ 4 3 4 3 _ _ _ _ rfl rfl (by decide) (by decide) (Nat.le_refl _) ra2 rb2).mono ?_
  rw [ex_lcs]
  rintro e w2 ⟨rfl, hb2⟩
  have hb12 : Below w1.heap.size w1 w2 := ((Below.refl _ w1).alloc (Nat.le_refl _) o1).trans (hb2.mono (by simp))
  have d0 := (hb12.cell (p := ⟨g, 0, none⟩) hlt).trans c0
  have d1 := (hb12.cell (p := ⟨g, 1, none⟩) hlt).trans c1
  have d2 := (hb12.cell (p := ⟨g, 2, none⟩) hlt).trans c2
  have d3 := (hb12.cell (p := ⟨g, 3, none⟩) hlt).trans c3
  have hfin := hbw.trans (hb12.mono hbw.size)
  clear c0 c1 c2 c3 ra2 rb2 hb2 hb12 hbw hb1 hb0 hs1 hr2
  go_wp2
  go_ret
  exact ⟨rfl, hfin⟩

end Lc
end Go.Proofs.Ytpogppkiccnoaaa
