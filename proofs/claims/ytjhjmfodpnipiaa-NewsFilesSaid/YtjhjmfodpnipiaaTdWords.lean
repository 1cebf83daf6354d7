/-
  Words for layer 11's walks: what is told so far, one more of it, one fewer; changes appended onto a row of one's own of whatever type of slice. No function of the program is walked here.
-/
import Derived.Test.YtjhjmfodpnipiaaGF
import Derived.Test.YtjhjmfodpnipiaaFlWords
import Derived.Test.YtjhjmfodpnipiaaGQ
set_option maxRecDepth 100000
namespace Go.Proofs.Ytjhjmfodpnipiaa
open Go.RowKit
set_option linter.unusedVariables false
namespace Td
open Tx Df Sq Hk Tr Pr Fl

/-- What is told: one more change. -/
theorem tidyP_nil : tidyP [] = [] := rfl
theorem tidyP_snoc (l : List Ch) (x : Ch) : tidyP (l ++ [x]) = (step idleP turnP (tidyP l).reverse x).reverse := by
  unfold tidyP tidy
  rw [run_snoc, List.reverse_reverse]
theorem told_idle {l : List Ch} {k : Nat} {x : Ch} (hx : l[k]? = some x) (h : idleP x = true) : tidyP (l.take (k + 1)) = tidyP (l.take k) := by
  rw [take_at hx, tidyP_snoc, step_idle idleP turnP h, List.reverse_reverse]
theorem told_first {l : List Ch} {k : Nat} {x : Ch} (hx : l[k]? = some x) (h : idleP x = false) (h0 : tidyP (l.take k) = []) : tidyP (l.take (k + 1)) = tidyP (l.take k) ++ [x] := by
  rw [take_at hx, tidyP_snoc, h0]
  rw [step_push idleP turnP h (fun o s' e => by cases e)]
  rfl
theorem told_pop {l s : List Ch} {k : Nat} {x o : Ch} (hx : l[k]? = some x) (h : idleP x = false) (h0 : tidyP (l.take k) = s ++ [o]) (ho : decide (x = turnP o) = true) : tidyP (l.take (k + 1)) = s := by
  have ho := of_decide_eq_true ho
  subst ho
  rw [take_at hx, tidyP_snoc, h0, List.reverse_append]
  show (step idleP turnP (o :: s.reverse) (turnP o)).reverse = s
  rw [step_pop idleP turnP h, List.reverse_reverse]
theorem told_push {l s : List Ch} {k : Nat} {x o : Ch} (hx : l[k]? = some x) (h : idleP x = false) (h0 : tidyP (l.take k) = s ++ [o]) (ho : decide (x = turnP o) = false) : tidyP (l.take (k + 1)) = tidyP (l.take k) ++ [x] := by
  have ho := of_decide_eq_false ho
  rw [take_at hx, tidyP_snoc]
  rw [step_push idleP turnP h (fun o' s' e => ?_)]
  · rw [List.reverse_cons, List.reverse_reverse]
  · rw [h0, List.reverse_append] at e
    injection e with e1 e2
    subst e1
    exact ho
theorem tidyP_lt {l : List Ch} (h : Lt l) : Lt (tidyP l) := by
  have key : ∀ (r s : List Ch), Lt s → Lt r → Lt (run idleP turnP s r) := by
    intro r
    induction r with
    | nil => exact fun s hs _ => hs
    | cons p r ih =>
      intro s hs hr
      refine ih _ ?_ hr.tail
      rcases step_cases idleP turnP s p with ⟨_, e⟩ | ⟨_, o, e, _⟩ | ⟨_, _, e⟩
      · rw [e]; exact hs
      · rw [e] at hs; exact hs.tail
      · rw [e]
        intro x hx
        rcases List.mem_cons.1 hx with rfl | hx
        · exact hr x (.head _)
        · exact hs x hx
  intro x hx
  exact key l [] lt_nil h x (List.mem_reverse.1 hx)
theorem tidyP_len (l : List Ch) : (tidyP l).length ≤ l.length := tidy_len idleP turnP l
theorem last_form {l : List Ch} {n : Nat} (hn : l.length = n) (h0 : n ≠ 0) : ∃ s o, l = s ++ [o] ∧ s.length + 1 = n := by
  refine ⟨l.dropLast, l.getLast (fun e => by rw [e] at hn; exact h0 hn.symm), (List.dropLast_concat_getLast _).symm, ?_⟩
  rw [List.length_dropLast]; omega

/-! Tight, as far as told. -/
theorem tst_back : ∀ {a b : List Ch}, Tst idleP turnP (a ++ b) → Tst idleP turnP b
  | [], b, h => h
  | p :: a, b, h => tst_back (a := a) (Tst.tail idleP turnP h)
theorem tst_idle {s : List Ch} {p : Ch} (h : Tst idleP turnP (p :: s)) : idleP p = false := by
  cases s with
  | nil => exact h
  | cons o s => exact h.1
theorem tight_take {l : List Ch} (h : tightP l = true) (k : Nat) : Tst idleP turnP (l.take k).reverse := by
  have h1 := (tight_iff idleP turnP).1 h
  rw [← List.take_append_drop k l, List.reverse_append] at h1
  exact tst_back h1
theorem tight_idle {l : List Ch} {k : Nat} {x : Ch} (h : tightP l = true) (hx : l[k]? = some x) : idleP x = false := by
  have h1 := tight_take h (k + 1)
  rw [take_at hx, List.reverse_append] at h1
  exact tst_idle h1
theorem tight_undone {l : List Ch} {k : Nat} {x o : Ch} (h : tightP l = true) (hx : l[k + 1]? = some x) (ho : l[k]? = some o) : x ≠ turnP o := by
  have h1 := tight_take h (k + 1 + 1)
  rw [take_at hx, take_at ho, List.reverse_append, List.reverse_append] at h1
  exact h1.2.1
def TightTo (l : List Ch) (k : Nat) : Prop := tightP (l.take k) = true
theorem tightTo_0 (l : List Ch) : TightTo l 0 := by unfold TightTo; rw [List.take_zero]; rfl
theorem tightTo_1 {l : List Ch} {x : Ch} (hx : l[0]? = some x) (h : idleP x = false) : TightTo l (0 + 1) := by
  unfold TightTo
  rw [take_at hx, List.take_zero]
  show (!idleP x) = true
  rw [h]; rfl
theorem tightTo_step {l : List Ch} {k : Nat} {x o : Ch} (ht : TightTo l (k + 1)) (hx : l[k + 1]? = some x) (ho : l[k]? = some o) (h : idleP x = false) (hn : decide (x = turnP o) = false) : TightTo l (k + 1 + 1) := by
  have h1 := (tight_iff idleP turnP).1 ht
  refine (tight_iff idleP turnP).2 ?_
  rw [take_at ho, List.reverse_append] at h1
  rw [take_at hx, take_at ho, List.reverse_append, List.reverse_append]
  exact ⟨h, of_decide_eq_false hn, h1⟩
theorem tightTo_all {l : List Ch} {k : Nat} (ht : TightTo l k) (hk : l.length ≤ k) : tightP l = true := by
  unfold TightTo at ht
  rw [List.take_of_length_le hk] at ht
  exact ht
/-- Where it is not. -/
theorem tightP_false {l : List Ch} {k : Nat} {x : Ch} (hx : l[k]? = some x) (h : idleP x = true) : tightP l = false := by
  cases hb : tightP l with
  | false => rfl
  | true => exact absurd h (by rw [tight_idle hb hx]; decide)
theorem tightP_undone {l : List Ch} {k : Nat} {x o : Ch} (hx : l[k + 1]? = some x) (ho : l[k]? = some o) (h : decide (x = turnP o) = true) : tightP l = false := by
  cases hb : tightP l with
  | false => rfl
  | true => exact absurd (of_decide_eq_true h) (tight_undone hb hx ho)

section
variable {W W' : World} {S : Nat → Prop} {base m c : Nat} {v : Value} {A : Option Addr} {l u : List Ch} {ys : List Value} {t : TypeId}
/-- Changes appended onto a row of one's own, all lines in blocks that S names. -/
theorem run_ownS' {ty : TypeId} (ht : Try.prog.underlying t = some (.slice 39)) (h : OwnS W S base v l) (hu : PCells W S u ys) (hyl : ys.length = u.length * 6) (hsrc : ∃ a, A = some a ∧ ∀ (j : Nat) x, ys[j]? = some x → W.cell? (a.add j) = some x)
    (hS : ∀ b, S b → some b ≠ v.ownBlock) (hm : u.length = m) (h0 : 0 < m) (hn : l.length + m ≤ 100000) (hbase : base ≤ W.heap.size) :
    ∃ v' W', (Builtin.append_ #[t, t] ty #[v, .slice A m c]).run Try.prog W = .ok v' W' ∧ OwnS W' S base v' (l ++ u) ∧ W.grownBy W' v.ownBlock := by
  obtain ⟨i0, hi0, hz0, hz1, hz2⟩ := info_parts info_prim
  obtain ⟨xs, hrow, hF⟩ := h
  have h1 := one6 hu hyl
  obtain ⟨a, rfl, hcell⟩ := hsrc
  obtain ⟨g, cap, W', hr, r1, r2, r3, r4⟩ := run_append_lies (P := Try.prog) (w := W) t ty base 39 i0 _ 6 96 ht hi0 hz0 hz1 hz2 rfl (by decide) v l.length xs hrow a m c ys (by rw [hyl, hm]) hcell h1 (by omega) (by unfold maxLen; omega) (by omega) hbase W.heap.size rfl
  exact ⟨_, W', hr, ⟨xs ++ ys, by rw [List.length_append, hm]; exact r1, (hF.append hrow.1 hu).to (fun b hb hl => r2.block b hl (hS b hb))⟩, r2⟩
theorem step_ownS' {ops : Array Oper} {o : Oper} {a : Act} {K : Act → World → Prop} {Q : Exit → Act → World → Prop} {E : Prop} (hgd : o.guard = none) (s x : Operand)
    (ho : o.op = .call { callee := .builtin .append, args := #[s, x], argTypes := #[t, t] }) (ht : Try.prog.underlying t = some (.slice 39)) (hs : a.eval s = v) (hx : a.eval x = .slice A m c)
    (h : OwnS W S base v l) (hu : PCells W S u ys) (hyl : ys.length = u.length * 6) (hsrc : ∃ a, A = some a ∧ ∀ (j : Nat) x, ys[j]? = some x → W.cell? (a.add j) = some x)
    (hS : ∀ b, S b → some b ≠ v.ownBlock) (hm : u.length = m) (h0 : 0 < m) (hn : l.length + m ≤ 100000) (hbase : base ≤ W.heap.size)
    (hK : ∀ v' W', OwnS W' S base v' (l ++ u) → W.grownBy W' v.ownBlock → K (a.put o.dst v') W') : if Region.wanted o (yielded ops a.tmps) = true then Oper.wp Try.prog o a W K Q else E := by
  have hw : Region.wanted o (yielded ops a.tmps) = true := by simp [Region.wanted, hgd]
  rw [if_pos hw]
  obtain ⟨v', W', hrun, h2, h3⟩ := run_ownS' (ty := o.type) (c := c) ht h hu hyl hsrc hS hm h0 hn hbase
  unfold Oper.wp execOp
  simp only [ho, resolve, invoke, builtin, Sem.run_bind, Sem.run_pure, Result.andThen_ok, List.map_toArray, List.map_cons, List.map_nil, hs, hx, hrun]
  exact hK v' W' h2 h3
/-- One change fewer. -/
theorem OwnS.less {g cap n k : Nat} {s : List Ch} {x : Ch} (h : OwnS W S base (.slice (some ⟨g, 0, none⟩) n cap) (s ++ [x])) (hn : s.length + 1 = n) (hk : s.length = k) : OwnS W S base (.slice (some ⟨g, 0, none⟩) k cap) s := by
  obtain ⟨xs, hr, hF⟩ := h
  subst hk
  have e : (s ++ [x]).length = n := by simp; omega
  rw [e] at hr
  refine ⟨xs.take (s.length * 6), own_less hr (by omega), fun j y hy => ?_⟩
  have hj : j < s.length := (List.getElem?_eq_some_iff.1 hy).1
  obtain ⟨A, n', c, B, m, d, h0, h1, h2, h3, h4, h5, h6⟩ := hF j y (by rw [List.getElem?_append_left hj]; exact hy)
  have key : ∀ b, b < 6 → (xs.take (s.length * 6))[j * 6 + b]? = xs[j * 6 + b]? := fun b hb => by rw [List.getElem?_take, if_pos (by omega)]
  exact ⟨A, n', c, B, m, d, (key 0 (by decide)).trans h0, (key 1 (by decide)).trans h1, (key 2 (by decide)).trans h2, (key 3 (by decide)).trans h3, (key 4 (by decide)).trans h4, (key 5 (by decide)).trans h5, h6⟩
end

/-- Changes that are read, wherever their cells are; their lines below block N. -/
def SrcN (W : World) (N : Nat) (A : Option Addr) (l : List Ch) : Prop := ∃ ys : List Value, ys.length = l.length * 6 ∧ PCells W (· < N) l ys ∧ (ys = [] ∨ ∃ a, A = some a ∧ ∀ (j : Nat) u, ys[j]? = some u → W.cell? (a.add j) = some u)
theorem srcN_own {W : World} {N base n c : Nat} {A : Option Addr} {l : List Ch} (h : OwnN W N base (.slice A n c) l) : SrcN W N A l := by
  obtain ⟨xs, hr, hF⟩ := h
  refine ⟨xs, hr.1, hF, ?_⟩
  rcases hr.2 with ⟨_, h0⟩ | ⟨g, cap, cur, e, _⟩
  · refine .inl (List.eq_nil_of_length_eq_zero ?_)
    rw [hr.1, h0]
  · injection e with e1 e2 e3
    subst e1
    refine .inr ⟨_, rfl, fun j u hu => ?_⟩
    have ea : (⟨g, 0, none⟩ : Addr).add j = ⟨g, j, none⟩ := by unfold Addr.add; split <;> simp_all
    have e2' : n = l.length := e2
    subst e2'
    rw [ea, hr.cellAt j (by have := (List.getElem?_eq_some_iff.1 hu).1; rw [hr.1] at this; exact this)]
    exact hu
/-- What a row of one's own's slice value tells of its length. -/
theorem own_len {W : World} {S : Nat → Prop} {base n c : Nat} {A : Option Addr} {l : List Ch} (h : OwnS W S base (.slice A n c) l) : l.length = n ∧ n ≤ c := by
  obtain ⟨xs, hr, hF⟩ := h
  rcases hr.2 with ⟨e, h1⟩ | ⟨g, cap, cur, e, hbg, hg, hc, _⟩
  · injection e with e1 e2 e3
    subst e2 e3
    exact ⟨h1, Nat.le_refl _⟩
  · injection e with e1 e2 e3
    subst e2 e3
    exact ⟨rfl, hc⟩
/-- One change in a block of its own, as cells of a row. -/
theorem cells_one {W : World} {N : Nat} {A B : Option Addr} {n c m d : Nat} {x : Ch} (h : PG W (· < N) A n c B m d x) : PCells W (· < N) [x] [.int .i64 x.k, strV x.nm, strV x.to, .int .i64 x.h.pos, .slice A n c, .slice B m d] := PCells.one h

end Td
end Go.Proofs.Ytjhjmfodpnipiaa
