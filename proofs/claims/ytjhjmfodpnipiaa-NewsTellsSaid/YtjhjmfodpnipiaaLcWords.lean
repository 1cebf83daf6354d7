/-
  Words for layer 3: whether two pairs are the same; lists that are newly made, and old ones.
-/
import Derived.Test.YtjhjmfodpnipiaaGL
import Derived.Test.YtjhjmfodpnipiaaGQ
import Derived.Laws.StructEq
import Derived.Laws.Cover2
import Derived.Laws.Tables
set_option maxRecDepth 100000
namespace Go.Proofs.Ytjhjmfodpnipiaa
open Go.RowKit
set_option linter.unusedVariables false
namespace Lc
open Tx

/-- Whether two pairs are the same. -/
theorem eq_pair (a b c d : Int) (w : World) : (Op.equalIn 10000 103 (.agg #[.int .i64 a, .int .i64 b]) (.agg #[.int .i64 c, .int .i64 d])).run Try.prog w = .ok (a == c && b == d) w := by
  have u3 := Try.underlying3
  have a3 := Try.isAgg3
  have z3 := Try.sizeOf3
  rw [show (10000 : Nat) = 9999 + 1 from rfl, Op.equalIn]
  simp only [Sem.run_bind, run_underlying Try.underlying103, Result.andThen_ok]
  simp only [Std.Legacy.Range.forIn_eq_forIn_range', Std.Legacy.Range.size, Nat.sub_zero, Nat.add_sub_cancel, Nat.div_one, List.range'_succ, List.range'_zero, List.forIn_cons, List.forIn_nil]
  go_simp
  by_cases h1 : a = c <;> by_cases h2 : b = d <;> simp [h1, h2]

theorem rd_new (w : World) (ls : List (List UInt8)) (fr : Nat × Nat) : RdS (w.alloc (.cells (ls.map strV).toArray 9 fr)) (w.alloc (.cells (ls.map strV).toArray 9 fr)).heap.size (some ⟨w.heap.size, 0, none⟩) ls := by
  refine .inr ⟨_, rfl, by simp, fun j u hu => ?_⟩
  have h := World.alloc_heap_new w (.cells (ls.map strV).toArray 9 fr)
  have e : (⟨w.heap.size, 0, none⟩ : Addr).add j = ⟨w.heap.size, j, none⟩ := by unfold Addr.add; split <;> simp_all
  rw [e]
  unfold World.cell?
  rw [h]
  simpa using hu
theorem rd_old {w : World} {B : Nat} {A : Option Addr} {ls : List (List UInt8)} (h : RdS w B A ls) (hB : B ≤ w.heap.size) (o : Obj) : RdS (w.alloc o) (w.alloc o).heap.size A ls :=
  Rd.up (h.below ((Below.refl _ _).alloc hB _)) (by simp; omega)

end Lc
end Go.Proofs.Ytjhjmfodpnipiaa
