/-
  What package code's Get does behind its body: what went wrong is recovered and told (walks).
-/
import Derived.Test.YtjhjmfodpnipiaaGreatDoorCdMust
import Derived.Test.YtjhjmfodpnipiaaGreatDoorGQ
import Derived.Defers
import Derived.Recover
set_option maxRecDepth 100000
namespace Go.Proofs.YtjhjmfodpnipiaaGreatDoor
open Go.RowKit
set_option linter.unusedVariables false
set_option linter.unusedSimpArgs false
namespace Cd
open Tx

theorem assert_err (v : Value) (w : World) : (Instr.typeAssert (.iface 25 v) 20 25 false).run Tryz.prog w = .ok v w := by kernel_rfl
set_option maxHeartbeats 1000000 in
theorem catch_bad (L E : Nat) (v x : Value) (w : World) (hL : Blk w L 24 #[v]) (hE : Blk w E 25 #[x]) (hne : L ≠ E) :
    CallsD Tryz.prog 11 #[.pointer (some ⟨L, 0, none⟩), .pointer (some ⟨E, 0, none⟩)] (.panicking bad) w fun e u' w' =>
      e = .returned (.tuple #[]) ∧ u' = .panicking [{ v := .iface 25 (.int .i64 2), recovered := true }] ∧
        Blk w' L 24 #[.slice none 0 0] ∧ Blk w' E 25 #[.int .i64 2] ∧ ∃ w1, w.grownBy w1 (some L) ∧ w1.grownBy w' (some E) := by
  have x0 : w.cell? ⟨L, 0, none⟩ = some v := hL.cell 0 rfl
  have x1 : w.cell? ⟨E, 0, none⟩ = some x := hE.cell 0 rfl
  have f0 := hL.frozen 0
  have f1 := hE.frozen 0
  have hta := assert_err
  refine callsD_of_wpS Tryz.func11 rfl fun c₀ cs hu => ?_
  have hu' : c₀.mode = .panicking [{ v := .iface 25 (.int .i64 2), recovered := false }] := hu
  apply wpS_seq
  apply wpS_region
  simp [wpOpsS, go_sem, recoverD, hu', Tryz.ntmps11, Exit.thenS]
  refine wpS_of_wp ?_
  change Code.wp _ _ _ { tmps := #[.pointer (some ⟨L, 0, none⟩), .pointer (some ⟨E, 0, none⟩), .iface 25 (.int .i64 2), .iface 25 (.int .i64 2), undef, undef, undef, undef], defers := [] } w
  go_wp2_with fail
  go_region
  have bL := (hL.set 0 (.slice none 0 0)).set_ne hne 0 (.int .i64 2)
  have bE := (hE.set_ne (fun e => hne e.symm) 0 (.slice none 0 0)).set 0 (.int .i64 2)
  exact ⟨rfl, _, rfl, _, results_none rfl _ _ _, rfl, rfl, bL, bE, _, grownBy_set w L 0 (.slice none 0 0), gr_drewN (grownBy_set _ E 0 (.int .i64 2)) 1⟩

theorem catch_idle (L E : Nat) (w : World) :
    CallsD Tryz.prog 11 #[.pointer (some ⟨L, 0, none⟩), .pointer (some ⟨E, 0, none⟩)] .returning w fun e u' w' => e = .returned (.tuple #[]) ∧ u' = .returning ∧ w' = w := by
  refine callsD_of_wpS Tryz.func11 rfl fun c₀ cs hu => ?_
  apply wpS_seq
  apply wpS_region
  simp [wpOpsS, go_sem, recoverD, hu, Tryz.ntmps11, Exit.thenS]
  refine wpS_of_wp ?_
  change Code.wp _ _ _ { tmps := #[.pointer (some ⟨L, 0, none⟩), .pointer (some ⟨E, 0, none⟩), .nilIface, .nilIface, undef, undef, undef, undef], defers := [] } w
  go_wp2
  cases c₀
  simp_all [bodyPostS, results, Tryz.results11]

end Cd
end Go.Proofs.YtjhjmfodpnipiaaGreatDoor
