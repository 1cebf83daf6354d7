/-
  Words for memory, layer 13: what is told so far, behind a pointer, and one more of it. No function of the program is walked here.
-/
import Derived.Test.YtjhjmfodpnipiaaGF
import Derived.Test.YtjhjmfodpnipiaaFlWords
set_option maxRecDepth 100000
namespace Go.Proofs.Ytjhjmfodpnipiaa
open Go.RowKit
set_option linter.unusedVariables false
namespace Nw
open Tx Df Sq Hk Tr Pr Fl

/-- The blocks that there are, but for two. -/
def Two (W : World) (b : Nat) (row : Option Nat) : Nat → Prop := fun k => Out W row k ∧ k ≠ b
/-- Changes in a row of one's own behind block b, their lines in other blocks than that. -/
def OwnG (W : World) (b : Nat) (v : Value) (l : List Ch) : Prop := ∃ xs, W.ownsRow (b + 1) 39 6 v l.length xs ∧ PCells W (Two W b v.ownBlock) l xs
section
variable {W W' : World} {b : Nat} {v : Value} {l u : List Ch}
theorem ownG_nil (W : World) (b : Nat) : OwnG W b (.slice none 0 0) [] := ⟨[], World.ownsRow_nil _ _ _ _, PCells.nil _ _ _⟩
theorem ownG_ge (h : OwnG W b v l) : ∀ k, v.ownBlock = some k → b + 1 ≤ k := fun k hk => (h.elim fun xs h => own_ge h.1 k hk)
theorem two_up {row : Option Nat} (hs : W.heap.size ≤ W'.heap.size) : ∀ k, Two W b row k → Two W' b row k := fun k h => ⟨out_up hs k h.1, h.2⟩
theorem OwnG.below (h : OwnG W b v l) (hb : Below W.heap.size W W') : OwnG W' b v l := by
  obtain ⟨xs, h1, h2⟩ := h
  exact ⟨xs, own_gr h1 (below_gr_row hb), (h2.to (fun k _ hl => hb.block k hl)).mono (two_up hb.size)⟩
theorem ownG_own (h : OwnG W b v l) : OwnP W (b + 1) v l := by
  obtain ⟨xs, h1, h2⟩ := h
  exact ⟨xs, h1, h2.mono fun k hk => hk.1⟩
theorem ownG_slice (h : OwnG W b v l) : ∃ A c, v = .slice A l.length c ∧ l.length ≤ c := by
  obtain ⟨A, c, h1, h2, _⟩ := rdP_own (ownG_own h)
  exact ⟨A, c, h1, h2⟩
theorem ownG_lt (h : OwnG W b v l) : ∀ g, v.ownBlock = some g → g < W.heap.size := fun g hg => by
  obtain ⟨xs, hr, hF⟩ := h
  rcases hr.2 with ⟨rfl, _⟩ | ⟨g', cap, cur, rfl, hbg, hg', hc, _⟩
  · cases hg
  · injection hg with hg
    subst hg
    exact (Array.getElem?_eq_some_iff.1 hg').1
theorem OwnG.set (h : OwnG W b v l) (j : Nat) (x : Value) : OwnG (W.setCell ⟨b, j, none⟩ x) b v l := by
  have hge := ownG_ge h
  obtain ⟨xs, h1, h2⟩ := h
  refine ⟨xs, h1.kept (grownBy_set W b j x) ?_, (h2.to ((alike_set W b j x).mono fun k hk => hk.2)).mono (two_up (by simp))⟩
  rcases h1.2 with ⟨rfl, _⟩ | ⟨g, cap, cur, rfl, _⟩
  · exact .inl rfl
  · exact .inr fun e => by have := hge b e; omega
/-- Changes appended. -/
theorem run_ownG {ty t : TypeId} {m c : Nat} {A : Option Addr} {ys : List Value} (ht : Try.prog.underlying t = some (.slice 39)) (h : OwnG W b v l) (hu : PCells W (Two W b v.ownBlock) u ys) (hyl : ys.length = u.length * 6) (hsrc : ∃ a, A = some a ∧ ∀ (j : Nat) x, ys[j]? = some x → W.cell? (a.add j) = some x)
    (hm : u.length = m) (h0 : 0 < m) (hn : l.length + m ≤ 100000) (hbase : b + 1 ≤ W.heap.size) :
    ∃ v' W', (Builtin.append_ #[t, t] ty #[v, .slice A m c]).run Try.prog W = .ok v' W' ∧ OwnG W' b v' (l ++ u) ∧ W.grownBy W' v.ownBlock ∧ ∀ g, v'.ownBlock = some g → v.ownBlock = some g ∨ g = W.heap.size := by
  obtain ⟨i0, hi0, hz0, hz1, hz2⟩ := info_parts info_prim
  obtain ⟨xs, hrow, hF⟩ := h
  have h1 := one6 hu hyl
  obtain ⟨a, rfl, hcell⟩ := hsrc
  obtain ⟨g, cap, W', hr, r1, r2, r3, r4⟩ := run_append_lies (P := Try.prog) (w := W) t ty (b + 1) 39 i0 _ 6 96 ht hi0 hz0 hz1 hz2 rfl (by decide) v l.length xs hrow a m c ys (by rw [hyl, hm]) hcell h1 (by omega) (by unfold maxLen; omega) (by omega) hbase W.heap.size rfl
  refine ⟨_, W', hr, ⟨xs ++ ys, by rw [List.length_append, hm]; exact r1, ?_⟩, r2, fun k hk => ?_⟩
  · have hJ := (hF.append hrow.1 hu).to (W' := W') (fun k hk hl => r2.block k hl hk.1.2)
    refine hJ.mono fun k hk => ⟨⟨Nat.lt_of_lt_of_le hk.1.1 r2.size, fun e => ?_⟩, hk.2⟩
    injection e with e
    have e' : k = g := e
    subst e'
    rcases r3 with r3 | r3
    · exact hk.1.2 r3.symm
    · have := hk.1.1; omega
  · injection hk with hk
    have hk' : g = k := hk
    subst hk'
    exact r3
theorem step_ownG {ops : Array Oper} {o : Oper} {a : Act} {K : Act → World → Prop} {Q : Exit → Act → World → Prop} {E : Prop} {t : TypeId} {m c : Nat} {A : Option Addr} {ys : List Value} (hgd : o.guard = none) (s x : Operand)
    (ho : o.op = .call { callee := .builtin .append, args := #[s, x], argTypes := #[t, t] }) (ht : Try.prog.underlying t = some (.slice 39)) (hs : a.eval s = v) (hx : a.eval x = .slice A m c)
    (h : OwnG W b v l) (hu : PCells W (Two W b v.ownBlock) u ys) (hyl : ys.length = u.length * 6) (hsrc : ∃ a, A = some a ∧ ∀ (j : Nat) x, ys[j]? = some x → W.cell? (a.add j) = some x)
    (hm : u.length = m) (h0 : 0 < m) (hn : l.length + m ≤ 100000) (hbase : b + 1 ≤ W.heap.size)
    (hK : ∀ v' W', OwnG W' b v' (l ++ u) → W.grownBy W' v.ownBlock → (∀ g, v'.ownBlock = some g → v.ownBlock = some g ∨ g = W.heap.size) → K (a.put o.dst v') W') : if Region.wanted o (yielded ops a.tmps) = true then Oper.wp Try.prog o a W K Q else E := by
  have hw : Region.wanted o (yielded ops a.tmps) = true := by simp [Region.wanted, hgd]
  rw [if_pos hw]
  obtain ⟨v', W', hrun, h2, h3, h4⟩ := run_ownG (ty := o.type) (c := c) ht h hu hyl hsrc hm h0 hn hbase
  unfold Oper.wp execOp
  simp only [ho, resolve, invoke, builtin, Sem.run_bind, Sem.run_pure, Result.andThen_ok, List.map_toArray, List.map_cons, List.map_nil, hs, hx, hrun]
  exact hK v' W' h2 h3 h4
end

/-- What is told so far, behind a pointer: its row is none of the blocks that S names. -/
def Gat (W : World) (S : Nat → Prop) (b : Nat) (l : List Ch) : Prop := ∃ v, Blk W b 44 #[v] ∧ OwnG W b v l ∧ ∀ g, v.ownBlock = some g → ¬ S g
/-- What has been made between two memories, and what S names. -/
def Since (S : Nat → Prop) (W W' : World) : Nat → Prop := fun k => S k ∨ (W.heap.size ≤ k ∧ k < W'.heap.size)
section
variable {W W' : World} {S T : Nat → Prop} {b : Nat} {l : List Ch}
theorem Gat.below (h : Gat W S b l) (hb : Below W.heap.size W W') : Gat W' S b l := by
  obtain ⟨v, h1, h2, h3⟩ := h
  exact ⟨v, h1.below hb h1.lt, h2.below hb, h3⟩
theorem Gat.mono (h : Gat W S b l) (hs : ∀ k, T k → S k) : Gat W T b l := by
  obtain ⟨v, h1, h2, h3⟩ := h
  exact ⟨v, h1, h2, fun g hg ht => h3 g hg (hs g ht)⟩
/-- What has been made since lies apart from it. -/
theorem Gat.since (h : Gat W S b l) (hb : Below W.heap.size W W') : Gat W' (Since S W W') b l := by
  obtain ⟨v, h1, h2, h3⟩ := h
  refine ⟨v, h1.below hb h1.lt, h2.below hb, fun g hg ht => ?_⟩
  rcases ht with ht | ht
  · exact h3 g hg ht
  · have := ownG_lt h2 g hg; omega
theorem Gat.lt (h : Gat W S b l) : b < W.heap.size := h.elim fun v h => h.1.lt
end
/-- How telling ends. -/
def GatEnd (w : World) (S : Nat → Prop) (b : Nat) (l : List Ch) (e : Ending) (w' : World) : Prop := e = .returned (.tuple #[]) ∧ Gat w' S b l ∧ Below b w w' ∧ Fl.Alike S w w'

end Nw
end Go.Proofs.Ytjhjmfodpnipiaa
