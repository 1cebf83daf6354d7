/-
  What package patch's May and Same return, and what they call (walks).
-/
import Derived.Test.YtbiiabfhngdeiaaPnLeaf
import Derived.Test.YtbiiabfhngdeiaaFlLeaf
import Derived.Test.YtbiiabfhngdeiaaGX
set_option maxRecDepth 100000
namespace Go.Proofs.Ytbiiabfhngdeiaa
open Go.RowKit
set_option linter.unusedVariables false
set_option linter.unusedSimpArgs false
namespace Pn
open Tx Df Sq Hk Tr Pr Fl

/-! Plain: Deps, two by two. -/
def hangI (me a x : Id_) : Bool := okI x && (lessI a x && decide (x ≠ me))
def twoI (me : Id_) : Id_ → List Id_ → Bool
  | _, [] => true
  | a, x :: l => hangI me a x && twoI me x l
theorem less_none {x : Id_} (h : okI x = true) : lessI (0, 0) x = true := by
  obtain ⟨x, y⟩ := x
  rw [okI_iff] at h
  rw [lessI_iff']
  omega
theorem twoI_rise (me : Id_) : ∀ (l : List Id_) (a : Id_), twoI me a l = ((l.all fun x => okI x && decide (x ≠ me)) && riseI (a :: l))
  | [], a => rfl
  | x :: l, a => by
    rw [twoI, twoI_rise me l x, List.all_cons, riseI]
    unfold hangI
    cases okI x <;> cases lessI a x <;> cases decide (x ≠ me) <;> simp
theorem twoI_deps (me : Id_) (l : List Id_) : twoI me (0, 0) l = depsOk me l := by
  rw [twoI_rise]
  unfold depsOk
  cases l with
  | nil => rfl
  | cons x l =>
    cases h : okI x with
    | false => simp [h]
    | true => rw [riseI, less_none h, Bool.true_and]
theorem twoI_at {me a : Id_} {l : List Id_} {k : Nat} {x : Id_} (hx : l[k]? = some x) : twoI me a (l.drop k) = (hangI me a x && twoI me x (l.drop (k + 1))) := by rw [drop_at hx]; rfl
def hangN (p : Nm) : Bool := decide (p.deps.length ≤ 60) && depsOk p.id p.deps
theorem mayN_eq (p : Nm) : mayN p = (okI p.id && (hangN p && (may p.txt && (decide (p.l.length ≤ 200) && p.l.all mayP)))) := by
  unfold mayN hangN
  cases okI p.id <;> cases may p.txt <;> cases p.l.all mayP <;> cases depsOk p.id p.deps <;> cases decide (p.deps.length ≤ 60) <;> cases decide (p.l.length ≤ 200) <;> rfl

attribute [local go_sem] eq_id
end Pn
end Go.Proofs.Ytbiiabfhngdeiaa
