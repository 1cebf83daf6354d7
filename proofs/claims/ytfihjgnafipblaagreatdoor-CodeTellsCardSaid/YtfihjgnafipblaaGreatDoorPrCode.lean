/-
  The program's own functions of layer 8, all together: their contracts lie in the texts that are imported here.
-/
import Derived.Test.YtfihjgnafipblaaGreatDoorPrMay
import Derived.Test.YtfihjgnafipblaaGreatDoorGR
import Derived.Test.YtfihjgnafipblaaGreatDoorPrTurn
import Derived.Test.YtfihjgnafipblaaGreatDoorPrApply
set_option maxRecDepth 100000
