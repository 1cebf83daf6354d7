/-
  What slices.Delete (of one file) and Del of layer 7 return (walks).
-/
import Derived.Test.YtjhjmfodpnipiaaGreatDoorGT
import Derived.Test.YtjhjmfodpnipiaaGreatDoorGQ
set_option maxRecDepth 100000
namespace Go.Proofs.YtjhjmfodpnipiaaGreatDoor
open Go.RowKit
set_option linter.unusedVariables false
namespace Tr
open Tx

theorem gr_two {W W1 W2 : World} {row : Option Nat} (h1 : W.grownBy W1 row) (h2 : W1.grownBy W2 row) : W.grownBy W2 row :=
  ⟨h2.os.trans h1.os, h2.tape.trans h1.tape, h2.output.trans h1.output, Nat.le_trans h1.size h2.size, fun i hi hne => (h2.block i (Nat.lt_of_lt_of_le hi h1.size) hne).trans (h1.block i hi hne)⟩
theorem file_zero_one (j : Nat) : Value.oneCell' ((Value.agg #[.string ⟨#[]⟩, .slice none 0 0]).cells[j % (Value.agg #[.string ⟨#[]⟩, .slice none 0 0]).cells.size]!) = true := by
  rw [show (Value.agg #[.string ⟨#[]⟩, .slice none 0 0]).cells.size = 2 from rfl]
  rcases Nat.mod_two_eq_zero_or_one j with e | e <;> rw [e] <;> rfl
theorem delete_cells {L xs X : List Value} {n i m : Nat} (hm : m = i + (n - (i + 1))) (hX : X = xs.drop ((i + 1) * 2)) (hx : xs.length = n * 2) (hi : i < n) {ys : List Value} (hL : L = splice xs (i * 2) X) (hy : ys.take (m * 2) = L.take (m * 2)) : ys.take (m * 2) = xs.take (i * 2) ++ xs.drop ((i + 1) * 2) := by
  rw [hy, hL]
  unfold splice
  rw [← List.append_assoc, List.take_append_of_le_length, List.take_of_length_le, hX]
  · rw [List.length_append, List.length_take, hX, List.length_drop, hx]; omega
  · rw [List.length_append, List.length_take, hX, List.length_drop, hx]; omega

end Tr
end Go.Proofs.YtjhjmfodpnipiaaGreatDoor
