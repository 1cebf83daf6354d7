/-
  What Cost of layer 4 returns (walk).
-/
import Derived.Test.YtkpgkbllcdpobaaDfMem
import Derived.Test.YtkpgkbllcdpobaaQLight
namespace Go.Proofs.Ytkpgkbllcdpobaa
open Go.RowKit
set_option linter.unusedVariables false
namespace Df
open Tx

def NumEnd (w : World) (n : Int) (e : Ending) (w' : World) : Prop := e = .returned (.int .i64 n) ∧ Below w.heap.size w w'

end Df
end Go.Proofs.Ytkpgkbllcdpobaa
