/-
  Words for memory, layer 10: an append of changes behind a guard that says yes. No function of the program is walked here.
-/
import Derived.Test.YteiidklmlelabaaFlMem
import Derived.BigFrame
set_option maxRecDepth 100000
namespace Go.Proofs.Yteiidklmlelabaa
open Go.RowKit
set_option linter.unusedVariables false
namespace Fl
open Tx Df Sq Hk Tr Pr

theorem wpList_ownPLW {W : World} {ops : Array Oper} {rest : List Oper} {o : Oper} {a : Act} {Q : Exit → Act → World → Prop} (hw : Region.wanted o (yielded ops a.tmps) = true) (s x : Operand)
    (ho : o.op = .call { callee := .builtin .append, args := #[s, x], argTypes := #[22, 22] })
    (base N m c : Nat) (v : Value) (A : Option Addr) (l u : List Ch) (hs : a.eval s = v) (hx : a.eval x = .slice A m c) (h : OwnP W base v l) (hu : RdP W (· < N) A u) (hN : N ≤ base)
    (hm : u.length = m) (hn : l.length + m ≤ 100000) (hbase : base ≤ W.heap.size)
    (hK : ∀ v' W', OwnP W' base v' (l ++ u) → W.grownBy W' v.ownBlock → wpList Try.prog ops Q rest (a.put o.dst v') W') : wpList Try.prog ops Q (o :: rest) a W := by
  obtain ⟨ys, h1, h2, h3⟩ := flatP hu
  refine BigFrame.wpList_want hw fun K hK' => ?_
  obtain ⟨v', W', hrun, h4, h5⟩ := run_ownP (ty := o.type) (c := c) h (h2.mono (out_lt (Nat.le_trans hN hbase) fun g e => Nat.le_trans hN (ownP_ge h g e))) h1 h3 hm hn hbase
  unfold Oper.wp execOp
  simp only [ho, resolve, invoke, builtin, Sem.run_bind, Sem.run_pure, Result.andThen_ok, List.map_toArray, List.map_cons, List.map_nil, hs, hx, hrun]
  exact hK' _ _ (hK v' W' h4 h5)

end Fl
end Go.Proofs.Yteiidklmlelabaa
