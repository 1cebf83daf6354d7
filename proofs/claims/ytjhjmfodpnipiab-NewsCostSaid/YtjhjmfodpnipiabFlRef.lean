/-
  What the law's Few, and the document's own List, May and Apply of lists of changes return (walks).
-/
import Derived.Test.YtjhjmfodpnipiabGF
import Derived.Test.YtjhjmfodpnipiabGR
import Derived.Test.YtjhjmfodpnipiabPsGrow
set_option maxRecDepth 100000
namespace Go.Proofs.Ytjhjmfodpnipiab
open Go.RowKit
set_option linter.unusedVariables false
set_option linter.unusedSimpArgs false
namespace Fl
open Tx Df Sq Hk Tr Pr

/-- One of a list of changes. -/
theorem RdP.elem {W : World} {S : Nat → Prop} {A : Option Addr} {l : List Ch} (h : RdP W S A l) {k : Nat} (hk : k < l.length) :
    ∃ a x B n c D m d, A = some a ∧ S a.block ∧ l[k]? = some x ∧
      W.cell? (a.add (k * 6)) = some (.int .i64 x.k) ∧ W.cell? ⟨(a.add (k * 6)).block, (a.add (k * 6)).off + 1, none⟩ = some (strV x.nm) ∧ W.cell? ⟨(a.add (k * 6)).block, (a.add (k * 6)).off + 2, none⟩ = some (strV x.to) ∧
      W.cell? ⟨(a.add (k * 6)).block, (a.add (k * 6)).off + 3, none⟩ = some (.int .i64 x.h.pos) ∧ W.cell? ⟨(a.add (k * 6)).block, (a.add (k * 6)).off + 4, none⟩ = some (.slice B n c) ∧ W.cell? ⟨(a.add (k * 6)).block, (a.add (k * 6)).off + 5, none⟩ = some (.slice D m d) ∧
      PG W S B n c D m d x := by
  obtain ⟨a, e, hS, c0, c1, c2, c3, B, n, c, D, m, d, c4, c5, c6⟩ := h.at_ hk
  exact ⟨a, l[k], B, n, c, D, m, d, e, hS, List.getElem?_eq_getElem hk, c0, c1, c2, c3, c4, c5, c6⟩
theorem cell_b {W W' : World} {B : Nat} {p : Addr} {u : Value} (hb : Below B W W') (hc : W.cell? p = some u) (hp : p.block < B) : W'.cell? p = some u := (hb.cell hp).trans hc
theorem take_at {α : Type} {l : List α} {k : Nat} {x : α} (h : l[k]? = some x) : l.take (k + 1) = l.take k ++ [x] := by
  rw [List.take_add_one, h]; rfl
theorem drop_at {α : Type} {l : List α} {k : Nat} {x : α} (h : l[k]? = some x) : l.drop k = x :: l.drop (k + 1) := by
  obtain ⟨hk, e⟩ := List.getElem?_eq_some_iff.1 h
  rw [List.drop_eq_getElem_cons hk, e]

/-- Light, and at a place up to 2^19. -/
def okP (p : Ch) : Bool := lightP p && decide (p.h.pos ≤ 524288)
def fewP (l : List Ch) (most : Nat) : Bool := decide (l.length ≤ most) && l.all okP
theorem fewP_no {l : List Ch} {x : Ch} {k most : Nat} (hx : l[k]? = some x) (h : okP x = false) : fewP l most = false := by
  have : l.all okP = false := by
    rw [List.all_eq_false]
    exact ⟨x, List.mem_of_getElem? hx, by rw [h]; decide⟩
  unfold fewP
  rw [this, Bool.and_false]

/-- Two lists are the same. -/
def listP : List Ch → List Ch → Bool
  | [], [] => true
  | x :: l, y :: u => sameP x y && listP l u
  | _, _ => false
theorem listP_iff : ∀ {l u : List Ch}, listP l u = true ↔ l = u
  | [], [] => by simp [listP]
  | [], y :: u => by simp [listP]
  | x :: l, [] => by simp [listP]
  | x :: l, y :: u => by rw [listP, Bool.and_eq_true, sameP_iff, listP_iff]; simp
theorem listP_self (l : List Ch) : listP l l = true := listP_iff.2 rfl
theorem listP_no {l u : List Ch} (h : l ≠ u) : listP l u = false := by
  cases hb : listP l u with
  | false => rfl
  | true => exact absurd (listP_iff.1 hb) h
theorem sameL_take {l u : List Ch} {k : Nat} {x y : Ch} (h : l.take k = u.take k) (hx : l[k]? = some x) (hy : u[k]? = some y) : (sameP x y = true → l.take (k + 1) = u.take (k + 1)) ∧ (sameP x y = false → l ≠ u) := by
  constructor
  · intro e
    rw [take_at hx, take_at hy, h, sameP_iff.1 e]
  · intro e hl
    subst hl
    rw [hx] at hy
    injection hy with hy
    subst hy
    rw [sameP_self] at e
    cases e

end Fl
end Go.Proofs.Ytjhjmfodpnipiab
