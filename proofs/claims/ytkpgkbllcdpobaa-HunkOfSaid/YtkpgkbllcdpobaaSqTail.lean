/-
  What Back of layer 2 returns for every two lists of lines (walks); it draws, and changes nothing.
-/
import Derived.Test.YtkpgkbllcdpobaaSqFront
namespace Go.Proofs.Ytkpgkbllcdpobaa
open Go.RowKit
set_option linter.unusedVariables false
namespace Sq
open Tx

theorem tail_step {a b : List (List UInt8)} {k N N' j j' : Nat} (hN : a.length = N) (hN' : b.length = N') (hj : (N : Int) - 1 - k = j) (hj' : (N' : Int) - 1 - k = j') (h : a.drop (N - k) = b.drop (N' - k)) (h1 : j < a.length) (h2 : j' < b.length) :
    (a[j] = b[j'] → a.drop (N - (k + 1)) = b.drop (N' - (k + 1))) ∧ (a[j] ≠ b[j'] → front a.reverse b.reverse = k) := by
  subst hN
  subst hN'
  obtain rfl : a.length - 1 - k = j := by omega
  obtain rfl : b.length - 1 - k = j' := by omega
  exact ⟨fun e => drop_step (by omega) (by omega) h e, fun e => tail_is (by omega) (by omega) h (.inr (.inr ⟨h1, h2, e⟩))⟩

end Sq
end Go.Proofs.Ytkpgkbllcdpobaa
