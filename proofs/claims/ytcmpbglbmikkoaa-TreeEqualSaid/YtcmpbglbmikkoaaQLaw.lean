/-
  Words for the statements of all layers: how a law ends, and what Light tells.
-/
import Derived.Test.YtcmpbglbmikkoaaQLight
import Derived.Test.YtcmpbglbmikkoaaQOpen
namespace Go.Proofs.Ytcmpbglbmikkoaa
open Go.RowKit
set_option linter.unusedVariables false
namespace Tx

/-- How a law ends: true, and all that was there is as it was. -/
def LawEnd (w : World) (e : Ending) (w' : World) : Prop := e = .returned (.bool true) ∧ Below w.heap.size w w'

theorem light_len {ls : List (List UInt8)} {n k : Nat} (h : light ls k = true) (hn : ls.length = n) : n ≤ k := by
  simp only [light, Bool.and_eq_true, decide_eq_true_eq] at h
  omega

end Tx
end Go.Proofs.Ytcmpbglbmikkoaa
