/-
  Words and contracts, joined: SqHas SqFront SqTail SqSwap SqBack SqRef.
-/
import Derived.Test.YtjhjmfodpnipiaaGreatDoorGQ
import Derived.Test.YtjhjmfodpnipiaaGreatDoorGP
set_option maxRecDepth 100000
namespace Go.Proofs.YtjhjmfodpnipiaaGreatDoor
open Go.RowKit
set_option linter.unusedVariables false
namespace Sq
open Tx

end Sq
end Go.Proofs.YtjhjmfodpnipiaaGreatDoor

namespace Go.Proofs.YtjhjmfodpnipiaaGreatDoor
open Go.RowKit
set_option linter.unusedVariables false
namespace Sq
open Tx

/-- How a count ends: some draws, and the number. -/
def NumEnd (w : World) (k : Nat) (e : Ending) (w' : World) : Prop := e = .returned (.int .i64 k) ∧ ∃ d, w' = w.drewN d

end Sq
end Go.Proofs.YtjhjmfodpnipiaaGreatDoor

namespace Go.Proofs.YtjhjmfodpnipiaaGreatDoor
open Go.RowKit
set_option linter.unusedVariables false
namespace Sq
open Tx

theorem tail_step {a b : List (List UInt8)} {k N N' j j' : Nat} (hN : a.length = N) (hN' : b.length = N') (hj : (N : Int) - 1 - k = j) (hj' : (N' : Int) - 1 - k = j') (h : a.drop (N - k) = b.drop (N' - k)) (h1 : j < a.length) (h2 : j' < b.length) :
    (a[j] = b[j'] → a.drop (N - (k + 1)) = b.drop (N' - (k + 1))) ∧ (a[j] ≠ b[j'] → front a.reverse b.reverse = k) := by
  subst hN
  subst hN'
  obtain rfl : a.length - 1 - k = j := by omega
  obtain rfl : b.length - 1 - k = j' := by omega
  exact ⟨fun e => drop_step (by omega) (by omega) h e, fun e => tail_is (by omega) (by omega) h (.inr (.inr ⟨h1, h2, e⟩))⟩

end Sq
end Go.Proofs.YtjhjmfodpnipiaaGreatDoor

namespace Go.Proofs.YtjhjmfodpnipiaaGreatDoor
open Go.RowKit
set_option linter.unusedVariables false
namespace Sq
open Tx

/-- How Clone ends. -/
def CloneEnd (w : World) (ls : List (List UInt8)) (n : Nat) (e : Ending) (w' : World) : Prop :=
  ∃ v, e = .returned v ∧ App w' w.heap.size 9 v n (ls.map strV) ∧ Below w.heap.size w w'

/-- How a Swap ends that is one: the list, and true. -/
def SwapEnd (w : World) (xs : List (List UInt8)) (e : Ending) (w' : World) : Prop :=
  ∃ v, e = .returned (.tuple #[v, .bool true]) ∧ App w' w.heap.size 9 v xs.length (xs.map strV) ∧ Below w.heap.size w w'
/-- How a Swap ends that is none. -/
def NoneEnd (w : World) (e : Ending) (w' : World) : Prop := e = .returned (.tuple #[.slice none 0 0, .bool false]) ∧ ∃ d, w' = w.drewN d

end Sq
end Go.Proofs.YtjhjmfodpnipiaaGreatDoor

namespace Go.Proofs.YtjhjmfodpnipiaaGreatDoor
open Go.RowKit
set_option linter.unusedVariables false
namespace Sq
open Tx

end Sq
end Go.Proofs.YtjhjmfodpnipiaaGreatDoor

namespace Go.Proofs.YtjhjmfodpnipiaaGreatDoor
open Go.RowKit
set_option linter.unusedVariables false
namespace Sq
open Tx

theorem at_step {ls ms : List (List UInt8)} {i k n' : Nat} (hn' : ms.length = n') (hb : i + n' ≤ ls.length) (hk : k < n') (h : (ls.drop i).take k = ms.take k) (h1 : i + k < ls.length) (h2 : k < ms.length) :
    (ls[i + k] = ms[k] → (ls.drop i).take (k + 1) = ms.take (k + 1)) ∧ (ls[i + k] ≠ ms[k] → has ls i ms = false) := by
  have hd : k < (ls.drop i).length := by rw [List.length_drop]; omega
  have he : (ls.drop i)[k] = ls[i + k] := by simp
  refine ⟨fun e => take_eq_succ hd h2 h (by rw [he, e]), fun e => ?_⟩
  rw [has_at (by omega)]
  refine decide_eq_false fun hh => e ?_
  rw [← he]
  have := congrArg (fun l => l[k]?) hh
  simp only [List.getElem?_take, h2, if_true] at this
  rw [List.getElem?_eq_getElem hd, List.getElem?_eq_getElem h2] at this
  exact Option.some.inj this

end Sq
end Go.Proofs.YtjhjmfodpnipiaaGreatDoor
