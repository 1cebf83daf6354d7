/-
  Where the cells of a list of pairs lie.
-/
import Derived.Test.YtpogppkiccnoaaaLcPairsAll
namespace Go.Proofs.Ytpogppkiccnoaaa
open Go.RowKit
set_option linter.unusedVariables false
namespace Lc
open Tx

theorem cellsP_at : ∀ (l : List (Nat × Nat)) {i : Nat} (h : i < l.length), (cellsP l)[i * 2]? = some (.int .i64 (l[i].1 : Int)) ∧ (cellsP l)[i * 2 + 1]? = some (.int .i64 (l[i].2 : Int))
  | p :: l, 0, _ => by simp [cellsP]
  | p :: l, i + 1, h => by
    have := cellsP_at l (i := i) (by simpa using h)
    rw [show (i + 1) * 2 = i * 2 + 2 by omega]
    simpa [cellsP] using this
theorem cellsP_length (l : List (Nat × Nat)) : (cellsP l).length = l.length * 2 := by
  induction l with
  | nil => rfl
  | cons p l ih =>
    have e : cellsP (p :: l) = .int .i64 (p.1 : Int) :: .int .i64 (p.2 : Int) :: cellsP l := rfl
    rw [e]; simp only [List.length_cons, ih]; omega

/-- Where the pairs of a list lie. -/
theorem pairs_cells {w : World} {base n : Nat} {v : Value} {l : List (Nat × Nat)} (h : w.ownsRow base 30 2 v n (cellsP l)) (hn : l.length = n) :
    ∃ A c, v = .slice A n c ∧ ∀ i (hi : i < l.length), ∃ g, A = some ⟨g, 0, none⟩ ∧ g < w.heap.size ∧ w.cell? ⟨g, i * 2, none⟩ = some (.int .i64 (l[i].1 : Int)) ∧ w.cell? ⟨g, i * 2 + 1, none⟩ = some (.int .i64 (l[i].2 : Int)) := by
  rcases h.2 with ⟨rfl, rfl⟩ | ⟨g, cap, cur, rfl, _, hg, _⟩
  · exact ⟨none, 0, rfl, fun i hi => by omega⟩
  · refine ⟨_, cap, rfl, fun i hi => ⟨g, rfl, (h.lt g rfl).2, ?_, ?_⟩⟩
    · rw [h.cellAt _ (by omega)]; exact (cellsP_at l hi).1
    · rw [h.cellAt _ (by omega)]; exact (cellsP_at l hi).2

end Lc
end Go.Proofs.Ytpogppkiccnoaaa
