/-
  The program's own functions of layer 8, all together: their contracts lie in the texts that are imported here.
-/
import Derived.Test.YtdjeebfbffoehaaPrMay
import Derived.Test.YtdjeebfbffoehaaPrSame
import Derived.Test.YtdjeebfbffoehaaPrTurn
import Derived.Test.YtdjeebfbffoehaaPrApply
