/-
  What layer 12's walks ask of the library's own variables, and that what is done behind does not change it. No program is walked.
-/
import Derived.Test.YtjhjmfodpnipiaaGreatDoorGQ
import Derived.Lib.LaidTab
import Derived.Lib.ItoaNum
set_option maxRecDepth 100000
namespace Go.Proofs.YtjhjmfodpnipiaaGreatDoor
open Go.RowKit
set_option linter.unusedVariables false
namespace Cd
open Tx

/-- The library's variables that layer 12 reads. -/
structure Vars (w : World) : Prop where
  tab : Lib.TabIs Tryz.prog w "internal/strconv.uint64pow10" .u64 Lib.pow10Tab
  es : ∃ tp p, w.var? Tryz.prog "strconv.ErrSyntax" = some #[.iface tp p]
  er : ∃ tp p, w.var? Tryz.prog "strconv.ErrRange" = some #[.iface tp p]
  ml : ∃ m, w.cell? ⟨0, 0, none⟩ = some (.int .i64 m)

theorem var_mv {w w' : World} {n : String} {cs : Array Value} (h : w.var? Tryz.prog n = some cs) (hb : Below w.heap.size w w') : w'.var? Tryz.prog n = some cs := by
  unfold World.var? at h ⊢
  cases hg : Tryz.prog.globalNamed n with
  | none => simp [hg] at h
  | some g =>
    simp only [hg, Option.bind_some] at h ⊢
    have hlt : g < w.heap.size := by
      rcases Nat.lt_or_ge g w.heap.size with h' | h'
      · exact h'
      · simp [Array.getElem?_eq_none h'] at h
    rw [hb.block g hlt]
    exact h
theorem Vars.mv {w w' : World} (h : Vars w) (hb : Below w.heap.size w w') : Vars w' := by
  obtain ⟨h1, ⟨tp, p, h2⟩, ⟨tq, q, h3⟩, m, h4⟩ := h
  exact ⟨var_mv h1 hb, ⟨tp, p, var_mv h2 hb⟩, ⟨tq, q, var_mv h3 hb⟩, m, (World.cell?_of_block (hb.block _ (World.block_lt_of_cell? w _ h4))).trans h4⟩
theorem Vars.drewN {w : World} (h : Vars w) (d : Nat) : Vars (w.drewN d) := h.mv (below_drewN (Below.refl _ _) d)
theorem Vars.alloc {w : World} (h : Vars w) (o : Obj) : Vars (w.alloc o) := h.mv ((Below.refl _ _).alloc (Nat.le_refl _) o)

end Cd
end Go.Proofs.YtjhjmfodpnipiaaGreatDoor
