/-
  What the document's where, Get, Same and May of layer 7 return (walks).
-/
import Derived.Test.YtfjllohhjpiphaaTrMay
import Derived.Test.YtfjllohhjpiphaaTrOpen
import Derived.Test.YtfjllohhjpiphaaGX
import Derived.Test.YtfjllohhjpiphaaGQ
set_option maxRecDepth 100000
namespace Go.Proofs.Ytfjllohhjpiphaa
open Go.RowKit
set_option linter.unusedVariables false
namespace Tr
open Tx

end Tr
end Go.Proofs.Ytfjllohhjpiphaa
