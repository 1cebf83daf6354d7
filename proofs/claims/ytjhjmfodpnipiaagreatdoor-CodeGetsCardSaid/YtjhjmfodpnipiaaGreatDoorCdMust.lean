/-
  How a call of package code ends that meets bytes of another form; what must does (walks).
-/
import Derived.Test.YtjhjmfodpnipiaaGreatDoorCdVars
import Derived.WalkKit
set_option maxRecDepth 100000
namespace Go.Proofs.YtjhjmfodpnipiaaGreatDoor
open Go.RowKit
set_option linter.unusedVariables false
set_option linter.unusedSimpArgs false
namespace Cd
open Tx

/-- How a call ends that meets bytes of another form. -/
def bad : List PanicEntry := [{ v := .iface 25 (.int .i64 2), recovered := false }]

theorem must_yes (w : World) : Calls Tryz.prog 12 #[.bool true] w fun e w' => e = .returned (.tuple #[]) ∧ w = w' := by
  go_enter Tryz.func12, Tryz.ntmps12
  go_wp2
  go_end0
  exact ⟨rfl, rfl⟩
theorem must_no (w : World) : Calls Tryz.prog 12 #[.bool false] w fun e w' => e = .panicked bad ∧ w = w' := by
  go_enter Tryz.func12, Tryz.ntmps12
  go_wp2
  exact ⟨rfl, rfl, rfl⟩

end Cd
end Go.Proofs.YtjhjmfodpnipiaaGreatDoor
