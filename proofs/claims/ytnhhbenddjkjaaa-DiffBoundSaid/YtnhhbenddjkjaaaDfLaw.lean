/-
  Words for the statements of layer 4.
-/
import Derived.Test.YtnhhbenddjkjaaaDfAwake
import Derived.Test.YtnhhbenddjkjaaaQLaw
import Derived.Test.YtnhhbenddjkjaaaQSame
namespace Go.Proofs.Ytnhhbenddjkjaaa
open Go.RowKit
set_option linter.unusedVariables false
namespace Df
open Tx Lc

theorem EditsL {w w1 : World} {A A1 : Option Addr} {n c n1 c1 : Nat} {a b : List (List UInt8)} (h : StrArg w A n c a) (h1 : StrArg w A1 n1 c1 b) (hB : Below w.heap.size w w1) (hn : n ≤ 60) (hn1 : n1 ≤ 60) :
    Calls Try.prog 14 #[.slice A n c, .slice A1 n1 c1] w1 (EditsEnd w1 (edits a b)) :=
  Edits A A1 c c1 n n1 w.heap.size a b w1 h.len h1.len h.cap h1.cap (by omega) (by omega) hB.size (h.rd.below hB) (h1.rd.below hB)

theorem costL {w : World} {A A1 : Option Addr} {n c n1 c1 : Nat} {a b : List (List UInt8)} (h : StrArg w A n c a) (h1 : StrArg w A1 n1 c1 b) (hn : n ≤ 60) (hn1 : n1 ≤ 60) : ∃ k : Nat, cost (edits a b) = k ∧ wrap64 (cost (edits a b)) = k ∧ k ≤ n + n1 ∧ (edits a b).length ≤ k := by
  have h2 := edits_bound a b
  have h3 := cost_len _ (edits_some a b)
  rw [h.len, h1.len] at h2
  refine ⟨(cost (edits a b)).toNat, by omega, ?_, by omega, by omega⟩
  rw [IntWalk.wrap64_in _ (by omega)]; omega

theorem new_le : ∀ (l : List E), (∀ x ∈ l, 0 ≤ x.old) → 0 ≤ cost l ∧ ∀ x ∈ l, (x.new.length : Int) ≤ cost l
  | [], _ => ⟨by simp [cost], fun x hx => by cases hx⟩
  | y :: l, h => by
    obtain ⟨h1, h2⟩ := new_le l fun x hx => h x (List.mem_cons_of_mem _ hx)
    have h3 := h y List.mem_cons_self
    rw [cost]
    refine ⟨by omega, fun x hx => ?_⟩
    rcases List.mem_cons.1 hx with rfl | hx
    · omega
    · have := h2 x hx; omega
theorem edits_new (a b : List (List UInt8)) : ∀ x ∈ edits a b, (x.new.length : Int) ≤ cost (edits a b) := by
  refine (new_le _ fun x hx => ?_).2
  obtain ⟨i, hi⟩ := List.mem_iff_getElem?.1 hx
  exact (apl_apart a _ 0 true b (edits_appl a b) i x hi).1

end Df
end Go.Proofs.Ytnhhbenddjkjaaa
