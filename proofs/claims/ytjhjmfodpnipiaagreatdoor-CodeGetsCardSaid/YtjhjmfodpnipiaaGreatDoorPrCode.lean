/-
  The program's own functions of layer 8, all together: their contracts lie in the texts that are imported here.
-/
import Derived.Test.YtjhjmfodpnipiaaGreatDoorPrMay
import Derived.Test.YtjhjmfodpnipiaaGreatDoorGR
import Derived.Test.YtjhjmfodpnipiaaGreatDoorPrTurn
import Derived.Test.YtjhjmfodpnipiaaGreatDoorPrApply
set_option maxRecDepth 100000
