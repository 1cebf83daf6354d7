/-
  What Front of layer 2 returns for every two lists of lines (walks); it draws, and changes nothing.
-/
import Derived.Test.YtdbhfohilfcgfaaQLight
import Derived.Test.YtdbhfohilfcgfaaSqPlain
namespace Go.Proofs.Ytdbhfohilfcgfaa
open Go.RowKit
set_option linter.unusedVariables false
namespace Sq
open Tx

/-- How a count ends: some draws, and the number. -/
def NumEnd (w : World) (k : Nat) (e : Ending) (w' : World) : Prop := e = .returned (.int .i64 k) ∧ ∃ d, w' = w.drewN d

end Sq
end Go.Proofs.Ytdbhfohilfcgfaa
