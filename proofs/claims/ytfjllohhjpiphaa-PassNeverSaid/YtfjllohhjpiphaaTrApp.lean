/-
  Appends of files onto a row of one's own (or onto nil): files that are read, all of a tree or one alone. No function of the program is walked here.
-/
import Derived.Test.YtfjllohhjpiphaaTrParts
import Derived.Deep.AppendLies
set_option maxRecDepth 100000
namespace Go.Proofs.Ytfjllohhjpiphaa
open Go.RowKit
set_option linter.unusedVariables false
namespace Tr
open Tx

theorem add_succ (a : Addr) (i : Nat) : (⟨(a.add i).block, (a.add i).off + 1, none⟩ : Addr) = a.add (i + 1) := by
  unfold Addr.add
  by_cases h : i = 0
  · subst h; simp
  · simp [h, Nat.add_assoc]

/-- The cells of a tree that is read. -/
theorem flat_cells {w : World} {B : Nat} {row : Option Nat} {A : Option Addr} {t : TR} (h : RdT w B A t) (hB : B ≤ w.heap.size) (hr : ∀ g, row = some g → B ≤ g) :
    ∃ xs : List Value, xs.length = t.length * 2 ∧ FCells w row t xs ∧ (xs = [] ∨ ∃ a, A = some a ∧ ∀ j u, xs[j]? = some u → w.cell? (a.add j) = some u) := by
  rcases h with rfl | ⟨a, rfl, hlt, hc⟩
  · exact ⟨[], rfl, FCells.nil _ _ _, .inl rfl⟩
  · have key : ∀ (u : TR) (p : Nat), (∀ (k : Nat) x, u[k]? = some x → FlAt w B a (p + k) x) → ∃ xs : List Value, xs.length = u.length * 2 ∧ FCells w row u xs ∧ ∀ j v, xs[j]? = some v → w.cell? (a.add (p * 2 + j)) = some v := by
      intro u
      induction u with
      | nil => intro p _; exact ⟨[], rfl, FCells.nil _ _ _, fun j v hv => by simp at hv⟩
      | cons x u ih =>
        intro p hu
        obtain ⟨xs, h1, h2, h3⟩ := ih (p + 1) fun k y hy => by
          have := hu (k + 1) y (by simpa using hy)
          rw [show p + 1 + k = p + (k + 1) by omega]; exact this
        obtain ⟨c0, A1, c1, k1, kc, kr⟩ := hu 0 x rfl
        rw [Nat.add_zero] at c0 k1
        rw [add_succ] at k1
        refine ⟨strV x.1 :: .slice A1 x.2.length c1 :: xs, by simp [h1]; omega, ?_, fun j v hv => ?_⟩
        · exact FCells.append (t := [x]) (xs := [strV x.1, .slice A1 x.2.length c1]) (FCells.one rfl kc (RdX.of kr hB hr)) rfl h2
        · rcases j with _ | _ | j
          · cases hv; exact c0
          · cases hv; exact k1
          · have := h3 j v (by simpa using hv)
            rw [show p * 2 + (j + 2) = (p + 1) * 2 + j by omega]; exact this
    obtain ⟨xs, h1, h2, h3⟩ := key t 0 fun k x hx => by rw [Nat.zero_add]; exact hc k x hx
    exact ⟨xs, h1, h2, .inr ⟨a, rfl, fun j u hu => by have := h3 j u hu; rw [Nat.zero_mul, Nat.zero_add] at this; exact this⟩⟩

section
variable {P : Program} {w : World}
theorem run_append_none {t ty e : TypeId} {i : TypeInfo} {A A' : Option Addr} {n c c' : Nat} (ht : P.underlying t = some (.slice e)) (hi : P.info? e = some i) (hnc : n ≤ c) :
    (Builtin.append_ #[t, t] ty #[.slice A n c, .slice A' 0 c']).run P w = .ok (.slice A n c) w := by
  have hl : ∀ a : Addr, (loadCells a 0).run P w = .ok #[] w := fun a => by
    have := run_loadCells_list (P := P) w a [] (by simp)
    exact this
  cases A <;> cases A' <;> simp [Builtin.append_, run_underlying ht, sizeOf, typeInfo, hi, Builtin.lenOf, Builtin.firstCells, hnc, storeCells, hl]
end

/-- Files appended onto a row of one's own. -/
theorem run_ownT {W : World} {ty : TypeId} {base m c : Nat} {v : Value} {A : Option Addr} {t u : TR} {ys : List Value} (h : OwnT W base v t) (hu : FCells W v.ownBlock u ys) (hyl : ys.length = u.length * 2) (hsrc : ys = [] ∨ ∃ a, A = some a ∧ ∀ j x, ys[j]? = some x → W.cell? (a.add j) = some x)
    (hm : u.length = m) (hn : t.length + m ≤ 100000) (hbase : base ≤ W.heap.size) :
    ∃ v' W', (Builtin.append_ #[33, 33] ty #[v, .slice A m c]).run Try.prog W = .ok v' W' ∧ OwnT W' base v' (t ++ u) ∧ W.grownBy W' v.ownBlock := by
  obtain ⟨i0, hi0, hz0, hz1, hz2⟩ := info_parts info_file
  obtain ⟨xs, hrow, hF⟩ := h
  have h1 := hu.one_cell hyl
  by_cases h0 : m = 0
  · have hu0 : u = [] := List.eq_nil_of_length_eq_zero (by omega)
    subst hu0
    obtain ⟨A0, c0, rfl, hc0, _⟩ := rdT_own ⟨xs, hrow, hF⟩
    subst h0
    exact ⟨_, W, run_append_none Try.underlying33 hi0 hc0, by rw [List.append_nil]; exact ⟨xs, hrow, hF⟩, ⟨rfl, rfl, rfl, Nat.le_refl _, fun _ _ _ => rfl⟩⟩
  · obtain ⟨a, rfl, hcell⟩ : ∃ a, A = some a ∧ ∀ j x, ys[j]? = some x → W.cell? (a.add j) = some x := by
      rcases hsrc with hy | h
      · rw [hy] at hyl; simp at hyl; omega
      · exact h
    obtain ⟨g, cap, W', hr, r1, r2, r3, r4⟩ := run_append_lies (P := Try.prog) (w := W) 33 ty base 48 i0 _ 2 40 Try.underlying33 hi0 hz0 hz1 hz2 rfl (by decide) v t.length xs hrow a m c ys (by rw [hyl, hm]) hcell h1 (by omega) (by unfold maxLen; omega) (by omega) hbase W.heap.size rfl
    refine ⟨_, W', hr, ⟨xs ++ ys, by rw [List.length_append, hm]; exact r1, ?_⟩, r2⟩
    have hJ := (hF.append hrow.1 hu)
    rcases r3 with r3 | r3
    · rw [r3] at hJ r2
      exact hJ.gr r2
    · have : FCells W (some g) (t ++ u) (xs ++ ys) := fun k x hx => by
        obtain ⟨A, c, h1, h2, h3, h4, h5⟩ := hJ k x hx
        refine ⟨A, c, h1, h2, h3, RdX.of h4 (Nat.le_refl _) fun g' e => by injection e with e; omega⟩
      intro k x hx
      obtain ⟨A, c, h1, h2, h3, h4, h5⟩ := hJ k x hx
      obtain ⟨A', c', h1', h2', h3', h4', h5'⟩ := this k x hx
      obtain ⟨h6, _⟩ := RdX.gr (row := v.ownBlock) ⟨h4, h5⟩ r2
      have e1 : Value.slice A x.2.length c = Value.slice A' x.2.length c' := by rw [h2] at h2'; injection h2'
      injection e1 with e1 _ e2
      subst e1; subst e2
      exact ⟨A, c, h1, h2, h3, h6, h5'⟩

theorem wpList_ownT {W : World} {ops : Array Oper} {rest : List Oper} {o : Oper} {a : Act} {Q : Exit → Act → World → Prop} (hgd : o.guard = none) (s x : Operand)
    (ho : o.op = .call { callee := .builtin .append, args := #[s, x], argTypes := #[33, 33] })
    (base m c : Nat) (v : Value) (A : Option Addr) (t u : TR) (ys : List Value) (hs : a.eval s = v) (hx : a.eval x = .slice A m c) (h : OwnT W base v t) (hu : FCells W v.ownBlock u ys) (hyl : ys.length = u.length * 2) (hsrc : ys = [] ∨ ∃ a, A = some a ∧ ∀ j x, ys[j]? = some x → W.cell? (a.add j) = some x)
    (hm : u.length = m) (hn : t.length + m ≤ 100000) (hbase : base ≤ W.heap.size)
    (hK : ∀ v' W', OwnT W' base v' (t ++ u) → W.grownBy W' v.ownBlock → wpList Try.prog ops Q rest (a.put o.dst v') W') : wpList Try.prog ops Q (o :: rest) a W := by
  refine wpList_plain hgd fun K hK' => ?_
  obtain ⟨v', W', hrun, h2, h3⟩ := run_ownT (ty := o.type) (c := c) h hu hyl hsrc hm hn hbase
  unfold Oper.wp execOp
  simp only [ho, resolve, invoke, builtin, Sem.run_bind, Sem.run_pure, Result.andThen_ok, List.map_toArray, List.map_cons, List.map_nil, hs, hx, hrun]
  exact hK' _ _ (hK v' W' h2 h3)

theorem ownT_nil (W : World) (base : Nat) : OwnT W base (.slice none 0 0) [] := ⟨[], World.ownsRow_nil _ _ _ _, FCells.nil _ _ _⟩
theorem ownT_ge {W : World} {base : Nat} {v : Value} {t : TR} (h : OwnT W base v t) : ∀ k, v.ownBlock = some k → base ≤ k := fun k hk => (h.elim fun xs h => own_ge h.1 k hk)
theorem OwnT.below {W W' : World} {base : Nat} {v : Value} {t : TR} (h : OwnT W base v t) (hb : Below W.heap.size W W') : OwnT W' base v t := by
  obtain ⟨xs, h1, h2⟩ := h
  exact ⟨xs, own_gr h1 (below_gr_row hb), h2.gr (gr_none (below_gr_row hb))⟩

end Tr
end Go.Proofs.Ytfjllohhjpiphaa
