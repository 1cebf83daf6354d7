/-
  Words for the statement TidyIdle: parts of a list, appended as steps of a drawn region. No function of the program is walked here.
-/
import Derived.Test.YteiidklmlelabaaTdWords
import Derived.Test.YteiidklmlelabaaFlRef2
set_option maxRecDepth 100000
namespace Go.Proofs.Yteiidklmlelabaa
open Go.RowKit
set_option linter.unusedVariables false
namespace Td
open Tx Df Sq Hk Tr Pr Fl

theorem srcN_rd {W : World} {N : Nat} {A : Option Addr} {l : List Ch} (h : RdP W (· < N) A l) : SrcN W N A l := flatP h
/-- Fewer of a list, and those behind them. -/
theorem rdP_take {W : World} {S : Nat → Prop} {A : Option Addr} {l : List Ch} (h : RdP W S A l) (k : Nat) : RdP W S A (l.take k) := by
  rcases h with rfl | ⟨a, e, h1, h2⟩
  · exact .inl (by simp)
  · refine .inr ⟨a, e, h1, fun j y hy => h2 j y ?_⟩
    have hj := (List.getElem?_eq_some_iff.1 hy).1
    rw [List.length_take] at hj
    rw [List.getElem?_take, if_pos (by omega)] at hy
    exact hy
theorem rdP_drop {W : World} {S : Nat → Prop} {A : Option Addr} {l : List Ch} (h : RdP W S A l) (k : Nat) : RdP W S (A.map (·.add (k * 6))) (l.drop k) := by
  rcases h with rfl | ⟨a, rfl, h1, h2⟩
  · exact .inl (by simp)
  · refine .inr ⟨_, rfl, by rw [add_block]; exact h1, fun j y hy => ?_⟩
    rw [List.getElem?_drop] at hy
    have := h2 (k + j) y hy
    have ea : (a.add (k * 6)).add (j * 6) = a.add ((k + j) * 6) := by rw [add_add]; congr 1; omega
    obtain ⟨c0, c1, c2, c3, c4⟩ := this
    exact ⟨by rw [ea]; exact c0, by rw [ea]; exact c1, by rw [ea]; exact c2, by rw [ea]; exact c3, by rw [ea]; exact c4⟩
/-- Changes appended onto a row of one's own, all lines below block N, as a step of a drawn region. -/
theorem step_ownN {W : World} {N base m c : Nat} {v : Value} {A : Option Addr} {l u : List Ch} {ops : Array Oper} {o : Oper} {a : Act} {K : Act → World → Prop} {Q : Exit → Act → World → Prop} {E : Prop} (hgd : o.guard = none) (s x : Operand)
    (ho : o.op = .call { callee := .builtin .append, args := #[s, x], argTypes := #[22, 22] }) (hs : a.eval s = v) (hx : a.eval x = .slice A m c)
    (h : OwnN W N base v l) (hu : SrcN W N A u) (hm : u.length = m) (hn : l.length + m ≤ 100000) (hN : N ≤ base) (hbase : base ≤ W.heap.size)
    (hK : ∀ v' W', OwnN W' N base v' (l ++ u) → W.grownBy W' v.ownBlock → K (a.put o.dst v') W') : if Region.wanted o (yielded ops a.tmps) = true then Oper.wp Try.prog o a W K Q else E := by
  have hw : Region.wanted o (yielded ops a.tmps) = true := by simp [Region.wanted, hgd]
  rw [if_pos hw]
  obtain ⟨ys, h1, h2, h3⟩ := hu
  obtain ⟨v', W', hrun, h4, h5⟩ := run_ownN (ty := o.type) (c := c) h h2 h1 h3 hm hn hN hbase
  unfold Oper.wp execOp
  simp only [ho, resolve, invoke, builtin, Sem.run_bind, Sem.run_pure, Result.andThen_ok, List.map_toArray, List.map_cons, List.map_nil, hs, hx, hrun]
  exact hK v' W' h4 h5
theorem srcN_one {W : World} {N b : Nat} {A B : Option Addr} {n c m d : Nat} {x : Ch} (h : Blk W b 43 #[.int .i64 x.k, strV x.nm, strV x.to, .int .i64 x.h.pos, .slice A n c, .slice B m d]) (hp : PG W (· < N) A n c B m d x) : SrcN W N (some ⟨b, 0, none⟩) [x] :=
  ⟨_, rfl, cells_one hp, .inr ⟨_, rfl, one_srcP h⟩⟩

end Td
end Go.Proofs.Yteiidklmlelabaa
