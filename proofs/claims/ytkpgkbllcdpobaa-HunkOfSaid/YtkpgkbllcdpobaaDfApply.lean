/-
  What own, rise and Apply of layer 4 return (walks).
-/
import Derived.Test.YtkpgkbllcdpobaaDfCost
import Derived.Test.YtkpgkbllcdpobaaQApp
import Derived.RangeFuncBox
namespace Go.Proofs.Ytkpgkbllcdpobaa
open Go.RowKit
set_option linter.unusedVariables false
namespace Df
open Tx

def BoolEnd (w : World) (b : Bool) (e : Ending) (w' : World) : Prop := e = .returned (.bool b) ∧ Below w.heap.size w w'

theorem drop_at {α : Type} {l : List α} {k : Nat} (h : k < l.length) : l.drop k = l[k] :: l.drop (k + 1) := List.drop_eq_getElem_cons h

/-- How Apply ends: what the edits make, and whether they fit. -/
def ApplyEnd (w : World) (o : Option (List (List UInt8))) (e : Ending) (w' : World) : Prop :=
  ∃ v, e = .returned (.tuple #[v, .bool o.isSome]) ∧ App w' w.heap.size 9 v (o.getD []).length ((o.getD []).map strV) ∧ Below w.heap.size w w'

theorem app_below {w w' : World} {base : Nat} {e : TypeId} {v : Value} {n : Nat} {xs : List Value} (h : App w base e v n xs) (hb : Below w.heap.size w w') : App w' base e v n xs := by
  obtain ⟨A, c, h1, h2, h3, h4, h5⟩ := h
  refine ⟨A, c, h1, h2, h3, (Rd.below h4 hb).up hb.size, h5.imp id fun h => ?_⟩
  refine ⟨h.1, ?_⟩
  rcases h.2 with h | ⟨g, cap, cur, k1, k2, k3, k4⟩
  · exact .inl h
  · exact .inr ⟨g, cap, cur, k1, k2, (hb.block g (Array.getElem?_eq_some_iff.1 k3).1).trans k3, k4⟩

theorem cell_of {w : World} {g : Nat} {cs : Array Value} {t : TypeId} {fr : Nat × Nat} (h : w.heap[g]? = some (.cells cs t fr)) (j : Nat) {u : Value} (hu : cs[j]? = some u) : w.cell? ⟨g, j, none⟩ = some u := by
  unfold World.cell?; rw [h]; exact hu

theorem mid_map {a : List (List UInt8)} {i j : Nat} : (mid a i j).map strV = ((a.map strV).drop i).take (j - i) := by
  unfold mid; rw [List.map_take, List.map_drop]

end Df
end Go.Proofs.Ytkpgkbllcdpobaa
