/-
  Words for memory, layers 10 and 11: changes that are read in memory that is new; such changes appended onto a row that was there ahead of them. No function of the program is walked here.
-/
import Derived.Test.YtbiiabfhngdeiaaFlWords
import Derived.Test.YtbiiabfhngdeiaaFlRef2
set_option maxRecDepth 100000
namespace Go.Proofs.Ytbiiabfhngdeiaa
open Go.RowKit
set_option linter.unusedVariables false
namespace Fl
open Tx Df Sq Hk Tr Pr

/-- How a call ends that makes a list of changes in memory that is new. -/
def LPHi (w : World) (l : List Ch) (e : Ending) (w' : World) : Prop := ∃ A c, e = .returned (.slice A l.length c) ∧ l.length ≤ c ∧ RdP w' (fun b => w.heap.size ≤ b ∧ b < w'.heap.size) A l ∧ Below w.heap.size w w'
theorem LPHi.end_ {w w' : World} {l : List Ch} {e : Ending} (h : LPHi w l e w') : LPEnd w l e w' := by
  obtain ⟨A, c, h1, h2, h3, h4⟩ := h
  exact ⟨A, c, h1, h2, h3.mono fun b hb => hb.2, h4⟩
/-- A row of one's own that is new is read as changes. -/
theorem rdP_of_own_hi {W : World} {S : Nat → Prop} {base n c N : Nat} {A : Option Addr} {l : List Ch} (h : OwnS W S base (.slice A n c) l) (hS : ∀ b, S b → N ≤ b ∧ b < W.heap.size) (hN : N ≤ base) (hl : l.length = n) : RdP W (fun b => N ≤ b ∧ b < W.heap.size) A l := by
  have h1 := rdP_of_own h (fun b hb => (hS b hb).2) hl
  by_cases h0 : l = []
  · exact .inl h0
  have hge := ownS_ge h
  obtain ⟨xs, hr, hF⟩ := h
  rcases hr.2 with ⟨_, h2⟩ | ⟨g, cap, cur, e, hbg, hgb, hc, _⟩
  · exact absurd (List.eq_nil_of_length_eq_zero h2) h0
  · injection e with e1 e2 e3
    subst e1
    rcases h1 with h1 | ⟨a, e, h3, h4⟩
    · exact .inl h1
    · injection e with e
      subst e
      refine .inr ⟨_, rfl, ⟨Nat.le_trans hN hbg, h3⟩, fun k x hx => ?_⟩
      obtain ⟨B, i, j, D, m, d, q0, q1, q2, q3, q4, q5, q6⟩ := hF k x hx
      obtain ⟨c0, c1, c2, c3, A', n', c', B', m', d', c4, c5, c6⟩ := h4 k x hx
      refine ⟨c0, c1, c2, c3, A', n', c', B', m', d', c4, c5, ?_⟩
      have hk : k < l.length := (List.getElem?_eq_some_iff.1 hx).1
      have ea : (⟨g, 0, none⟩ : Addr).add (k * 6) = ⟨g, k * 6, none⟩ := by unfold Addr.add; split <;> simp_all
      have e2' : l.length = n := hl
      subst e2'
      have z4 := c4; have z5 := c5
      rw [ea] at z4 z5
      have z4' : W.cell? ⟨g, k * 6 + 4, none⟩ = some (.slice A' n' c') := z4
      have z5' : W.cell? ⟨g, k * 6 + 5, none⟩ = some (.slice B' m' d') := z5
      rw [World.ownsRow.cellAt hr (k * 6 + 4) (by omega), q4] at z4'
      rw [World.ownsRow.cellAt hr (k * 6 + 5) (by omega), q5] at z5'
      injection z4' with z4'
      injection z5' with z5'
      injection z4' with y1 y2 y3
      injection z5' with y4 y5 y6
      subst y1 y2 y3 y4 y5 y6
      exact q6.mono hS
theorem ownP_lt {W : World} {base : Nat} {v : Value} {l : List Ch} (h : OwnP W base v l) : ∀ g, v.ownBlock = some g → g < W.heap.size := fun g hg => by
  obtain ⟨xs, hr, hF⟩ := h
  rcases hr.2 with ⟨rfl, _⟩ | ⟨g', cap, cur, rfl, hbg, hg', hc, _⟩
  · cases hg
  · injection hg with hg
    subst hg
    exact (Array.getElem?_eq_some_iff.1 hg').1
/-- Changes in memory that is newer than a row appended onto it. -/
theorem wpList_ownPH {W : World} {ops : Array Oper} {rest : List Oper} {o : Oper} {a : Act} {Q : Exit → Act → World → Prop} (hgd : o.guard = none) (s x : Operand)
    (ho : o.op = .call { callee := .builtin .append, args := #[s, x], argTypes := #[26, 26] })
    (base N m c : Nat) (v : Value) (A : Option Addr) (l u : List Ch) (hs : a.eval s = v) (hx : a.eval x = .slice A m c) (h : OwnP W base v l) (hlt : ∀ g, v.ownBlock = some g → g < N) (hu : RdP W (fun b => N ≤ b ∧ b < W.heap.size) A u)
    (hm : u.length = m) (hn : l.length + m ≤ 100000) (hbase : base ≤ W.heap.size)
    (hK : ∀ v' W', OwnP W' base v' (l ++ u) → W.grownBy W' v.ownBlock → wpList Try.prog ops Q rest (a.put o.dst v') W') : wpList Try.prog ops Q (o :: rest) a W := by
  obtain ⟨ys, h1, h2, h3⟩ := flatP hu
  exact wpList_ownP hgd s x ho base m c v A l u ys hs hx h (h2.mono fun b hb => ⟨hb.2, fun e => by have := hlt b e.symm; have := hb.1; omega⟩) h1 h3 hm hn hbase hK

end Fl
end Go.Proofs.Ytbiiabfhngdeiaa
