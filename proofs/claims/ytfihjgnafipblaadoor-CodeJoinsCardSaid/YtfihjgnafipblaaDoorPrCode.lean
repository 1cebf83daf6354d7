/-
  The program's own functions of layer 8, all together: their contracts lie in the texts that are imported here.
-/
import Derived.Test.YtfihjgnafipblaaDoorPrMay
import Derived.Test.YtfihjgnafipblaaDoorGR
import Derived.Test.YtfihjgnafipblaaDoorPrTurn
import Derived.Test.YtfihjgnafipblaaDoorPrApply
set_option maxRecDepth 100000
