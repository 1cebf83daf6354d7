/-
  Words for layer 10's walks: a list of which one is set anew; how a call of Pass ends; a row of one's own, read. No function of the program is walked here.
-/
import Derived.Test.YtbiiabfhngdeiaaGF
import Derived.Test.YtbiiabfhngdeiaaFlSteps
set_option maxRecDepth 100000
namespace Go.Proofs.Ytbiiabfhngdeiaa
open Go.RowKit
set_option linter.unusedVariables false
namespace Fl
open Tx Df Sq Hk Tr Pr

theorem set_mid {α : Type} {l post : List α} {k : Nat} {p y : α} (h : l[k]? = some p) : (l.take (k + 1) ++ post).set k y = l.take k ++ y :: post := by
  have hk : k < l.length := (List.getElem?_eq_some_iff.1 h).1
  have hl : (l.take k).length = k := by rw [List.length_take]; omega
  rw [take_at h, List.append_assoc, List.set_append_right _ _ (by omega), hl, Nat.sub_self]
  rfl
theorem at_mid {α : Type} {l post : List α} {k : Nat} {p : α} (h : l[k]? = some p) : (l.take (k + 1) ++ post)[k]? = some p := by
  have hk : k < l.length := (List.getElem?_eq_some_iff.1 h).1
  rw [List.getElem?_append_left (by rw [List.length_take]; omega), List.getElem?_take, if_pos (by omega)]
  exact h
theorem len_mid {α : Type} {l post : List α} {k n : Nat} (h : post.length + k = n) (hl : l.length = n) : (l.take k ++ post).length = n := by
  rw [List.length_append, List.length_take]; omega

/-- How a call of Pass ends that tells x, y and bo. -/
def LPassEnd (w : World) (x y : List Ch) (bo : Bool) (e : Ending) (w' : World) : Prop :=
  ∃ A c B d, e = .returned (.tuple #[.slice A x.length c, .slice B y.length d, .bool bo]) ∧ RdP w' (· < w'.heap.size) A x ∧ RdP w' (· < w'.heap.size) B y ∧ Below w.heap.size w w'
def outF (o : Option (List Ch × List Ch)) : List Ch × List Ch := o.getD ([], [])
section
variable {w w' : World} {x y x' y' : List Ch} {bo : Bool} {o : Option (List Ch × List Ch)}
theorem lpass_none (h : o = none) (ho : outF o = (x, y)) (hb : o.isSome = bo) (hw : Below w.heap.size w w') : LPassEnd w x y bo (.returned (.tuple #[.slice none 0 0, .slice none 0 0, .bool false])) w' := by
  subst h
  injection ho with h1 h2
  subst h1 h2 hb
  exact ⟨none, 0, none, 0, rfl, .inl rfl, .inl rfl, hw⟩
theorem lpass_some {A B : Option Addr} {n c m d : Nat} (h : o = some (x', y')) (ho : outF o = (x, y)) (hb : o.isSome = bo) (hn : x'.length = n) (hm : y'.length = m) (hr : RdP w' (· < w'.heap.size) A x') (hs : RdP w' (· < w'.heap.size) B y') (hw : Below w.heap.size w w') :
    LPassEnd w x y bo (.returned (.tuple #[.slice A n c, .slice B m d, .bool true])) w' := by
  subst h
  injection ho with h1 h2
  subst h1 h2 hb hn hm
  exact ⟨A, c, B, d, rfl, hr, hs, hw⟩
theorem outF_some (h : o = some (x, y)) : outF o = (x, y) := by subst h; rfl
theorem outF_of (h : outF o = (x, y)) (hb : o.isSome = true) : o = some (x, y) := by
  cases o with
  | none => cases hb
  | some z => exact congrArg some h
theorem outF_none (h : outF o = (x, y)) (hb : o.isSome = false) : x = [] ∧ y = [] := by
  cases o with
  | none => injection h with h1 h2; exact ⟨h1.symm, h2.symm⟩
  | some z => cases hb
end
theorem ownS_lt {W : World} {S : Nat → Prop} {base : Nat} {v : Value} {l : List Ch} (h : OwnS W S base v l) : ∀ g, v.ownBlock = some g → g < W.heap.size := fun g hg => by
  obtain ⟨xs, hr, hF⟩ := h
  rcases hr.2 with ⟨rfl, _⟩ | ⟨g', cap, cur, rfl, hbg, hg', hc, _⟩
  · cases hg
  · injection hg with hg
    subst hg
    exact (Array.getElem?_eq_some_iff.1 hg').1
theorem ownS_ge {W : World} {S : Nat → Prop} {base : Nat} {v : Value} {l : List Ch} (h : OwnS W S base v l) : ∀ g, v.ownBlock = some g → base ≤ g := fun g hg => by
  obtain ⟨xs, hr, hF⟩ := h
  exact own_ge hr g hg
theorem ownS_slice {W : World} {S : Nat → Prop} {base : Nat} {v : Value} {l : List Ch} (h : OwnS W S base v l) : ∃ A c, v = .slice A l.length c ∧ l.length ≤ c := by
  obtain ⟨xs, hr, hF⟩ := h
  rcases hr.2 with ⟨rfl, h1⟩ | ⟨g, cap, cur, rfl, hbg, hg, hc, _⟩
  · exact ⟨none, 0, by rw [h1], by rw [h1]; exact Nat.le_refl _⟩
  · exact ⟨_, cap, rfl, hc⟩
/-- A row of one's own is read as changes. -/
theorem rdP_of_own {W : World} {S : Nat → Prop} {base n c : Nat} {A : Option Addr} {l : List Ch} (h : OwnS W S base (.slice A n c) l) (hS : ∀ b, S b → b < W.heap.size) (hl : l.length = n) : RdP W (· < W.heap.size) A l := by
  by_cases h0 : l = []
  · exact .inl h0
  have hr0 := h
  obtain ⟨xs, hr, _⟩ := hr0
  rcases hr.2 with ⟨_, h1⟩ | ⟨g, cap, cur, e, _, hgb, hc, _⟩
  · exact absurd (List.eq_nil_of_length_eq_zero h1) h0
  · injection e with e1 e2 e3
    subst e1
    refine .inr ⟨_, rfl, (Array.getElem?_eq_some_iff.1 hgb).1, fun k x hx => ?_⟩
    obtain ⟨B, i', j, D, m', d, c0, c1, c2, c3, c4, c5, _, hp⟩ := h.elem hl hx
    have ea : (⟨g, 0, none⟩ : Addr).add (k * 6) = ⟨g, k * 6, none⟩ := by unfold Addr.add; split <;> simp_all
    exact ⟨by rw [ea]; exact c0, by rw [ea]; exact c1, by rw [ea]; exact c2, by rw [ea]; exact c3, B, i', j, D, m', d, by rw [ea]; exact c4, by rw [ea]; exact c5, hp.mono hS⟩

end Fl
end Go.Proofs.Ytbiiabfhngdeiaa
