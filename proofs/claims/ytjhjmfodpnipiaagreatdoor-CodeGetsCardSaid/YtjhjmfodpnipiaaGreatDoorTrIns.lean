/-
  What slices.Insert (of one file) of layer 7 returns (walk), for a row without room: a new row.
-/
import Derived.Test.YtjhjmfodpnipiaaGreatDoorGT
import Derived.Test.YtjhjmfodpnipiaaGreatDoorGQ
import Derived.Lib.AppendZerosOnto
import Derived.Laws.NewBlocks
import Derived.Deep.RegionLaw
set_option maxRecDepth 100000
namespace Go.Proofs.YtjhjmfodpnipiaaGreatDoor
open Go.RowKit
set_option linter.unusedVariables false
namespace Tr
open Tx

theorem run_append_type {P : Program} {w : World} {t tx ty e e' : TypeId} {i : TypeInfo} {b : Option Addr} {n c : Nat} {x : Value} (ht : P.underlying t = some (.slice e)) (hx : P.underlying tx = some (.slice e')) (hi : P.info? e = some i) :
    (Builtin.append_ #[t, tx] ty #[.slice b n c, x]).run P w = (Builtin.append_ #[t, t] ty #[.slice b n c, x]).run P w := by
  simp [Builtin.append_, run_underlying ht, run_underlying hx, sizeOf, typeInfo, hi]

theorem splice_end {α : Type} {P D X : List α} {p : Nat} (h : P.length = p) (h2 : D.length ≤ X.length) : splice (P ++ D) p X = P ++ X := by
  unfold splice
  subst h
  rw [List.take_left, List.drop_of_length_le (by rw [List.length_append]; omega), List.append_nil]

theorem own_form {w : World} {base e size n : Nat} {v : Value} {xs : List Value} (h : w.ownsRow base e size v n xs) (hn : 0 < n) : ∃ g cap, v = .slice (some ⟨g, 0, none⟩) n cap := by
  rcases h.2 with ⟨_, h0⟩ | ⟨g, cap, cur, rfl, _⟩
  · omega
  · exact ⟨g, cap, rfl⟩

end Tr
end Go.Proofs.YtjhjmfodpnipiaaGreatDoor
