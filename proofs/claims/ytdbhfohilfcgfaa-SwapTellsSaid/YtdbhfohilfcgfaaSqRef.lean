/-
  What the document's own At, Swap, Front and Back return (walks): the same plain functions as the program's.
-/
import Derived.Test.YtdbhfohilfcgfaaSqBack
import Derived.Test.YtdbhfohilfcgfaaSqFront
namespace Go.Proofs.Ytdbhfohilfcgfaa
open Go.RowKit
set_option linter.unusedVariables false
namespace Sq
open Tx

theorem at_step {ls ms : List (List UInt8)} {i k n' : Nat} (hn' : ms.length = n') (hb : i + n' ≤ ls.length) (hk : k < n') (h : (ls.drop i).take k = ms.take k) (h1 : i + k < ls.length) (h2 : k < ms.length) :
    (ls[i + k] = ms[k] → (ls.drop i).take (k + 1) = ms.take (k + 1)) ∧ (ls[i + k] ≠ ms[k] → has ls i ms = false) := by
  have hd : k < (ls.drop i).length := by rw [List.length_drop]; omega
  have he : (ls.drop i)[k] = ls[i + k] := by simp
  refine ⟨fun e => take_eq_succ hd h2 h (by rw [he, e]), fun e => ?_⟩
  rw [has_at (by omega)]
  refine decide_eq_false fun hh => e ?_
  rw [← he]
  have := congrArg (fun l => l[k]?) hh
  simp only [List.getElem?_take, h2, if_true] at this
  rw [List.getElem?_eq_getElem hd, List.getElem?_eq_getElem h2] at this
  exact Option.some.inj this

end Sq
end Go.Proofs.Ytdbhfohilfcgfaa
