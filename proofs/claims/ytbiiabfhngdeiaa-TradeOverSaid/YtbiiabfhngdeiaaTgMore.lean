/-
  Words for the statement TradeOver: patches of a list of whatever length appended; what a reading of an argument tells of its size. No function of the program is walked here.
-/
import Derived.Test.YtbiiabfhngdeiaaTgList
import Derived.SizedLaws
set_option maxRecDepth 100000
namespace Go.Proofs.Ytbiiabfhngdeiaa
open Go.ChangeShapes Go.WideShapes Go.ChangeAt Go.RowKit Go.Deep
set_option linter.unusedVariables false
namespace Tg
open Tx Df Sq Hk Tr Pr Fl Pn

theorem bytes_named : Try.prog.bytesOf 28 = 80 := by kernel_rfl
section
variable {H : Type} {enc : TypeId × Value → H} {W : World} {base : Nat} {spare : Nat → Bool} {held : Bool}
theorem nms_wide {fuel : Nat} {cs : List Value} {x : DataW H × List MemPlace} {A : Option Addr} {n c : Nat} (h : DataW.trod enc Try.prog W base spare held fuel 22 cs = some x) (hcs : cs = [.slice A n c]) (hz : ∀ k ∈ x.1.weights Try.prog 22, k ≤ reachBytes) : ∃ t : List Nm, NmsArg W A n c t ∧ n ≤ 1759218604390 := by
  obtain ⟨t, ht⟩ := nms_in h hcs
  subst hcs
  refine ⟨t, ht, ?_⟩
  rcases open_slice Try.underlying22 h with ⟨h', _⟩ | ⟨a, len, cap, m, nn, D, Pl, h', _, hl, _, hmm, rfl, _⟩
  · simp at h'
    obtain ⟨_, rfl, _⟩ := h'
    omega
  · simp at h'
    obtain ⟨_, rfl, _⟩ := h'
    have := hz ((n + (m - n)) * 80) (by simp [DataW.weights, Try.underlying22, bytes_named])
    unfold reachBytes at this
    omega
end

section
variable {W W' : World} {N base : Nat} {v : Value} {l u : List Nm}
/-- Patches appended onto a row of one's own, of whatever length. -/
theorem run_ownMW {ty : TypeId} {m c : Nat} {A : Option Addr} (h : OwnM W N base v l) (hu : RdN W N A u) (hm : u.length = m) (hn : l.length + m ≤ 1759218604440) (hN : N ≤ base) (hbase : base ≤ W.heap.size) :
    ∃ v' W', (Builtin.append_ #[22, 22] ty #[v, .slice A m c]).run Try.prog W = .ok v' W' ∧ OwnM W' N base v' (l ++ u) ∧ W.grownBy W' v.ownBlock := by
  obtain ⟨i0, hi0, hz0, hz1, hz2⟩ := info_parts info_named
  obtain ⟨ys, hyl, hU, hsrc⟩ := flatN hu
  have h0 := h
  obtain ⟨xs, hrow, hF⟩ := h
  have h1 := one5 hU hyl
  by_cases hm0 : m = 0
  · have hu0 : u = [] := List.eq_nil_of_length_eq_zero (by omega)
    subst hu0
    obtain ⟨A0, c0, rfl, hc0, _⟩ := rdN_own h0 (Nat.le_trans hN hbase)
    subst hm0
    exact ⟨_, W, run_append_none Try.underlying22 hi0 hc0, by rw [List.append_nil]; exact ⟨xs, hrow, hF⟩, ⟨rfl, rfl, rfl, Nat.le_refl _, fun _ _ _ => rfl⟩⟩
  · obtain ⟨a, rfl, hcell⟩ : ∃ a, A = some a ∧ ∀ (j : Nat) x, ys[j]? = some x → W.cell? (a.add j) = some x := by
      rcases hsrc with hy | h
      · rw [hy] at hyl; simp at hyl; omega
      · exact h
    obtain ⟨g, cap, W', hr, r1, r2, r3, r4⟩ := run_append_lies (P := Try.prog) (w := W) 22 ty base 28 i0 _ 5 80 Try.underlying22 hi0 hz0 hz1 hz2 rfl (by decide) v l.length xs hrow a m c ys (by rw [hyl, hm]) hcell h1 (by omega) (by unfold maxLen; omega) (by omega) hbase W.heap.size rfl
    refine ⟨_, W', hr, ⟨xs ++ ys, by rw [List.length_append, hm]; exact r1, ?_⟩, r2⟩
    have hb : Below N W W' := (Below.refl N W).grown r2 (Nat.le_trans hN hbase) (fun k e => Nat.le_trans hN (own_ge hrow k e))
    exact (hF.append hrow.1 hU).below hb
/-- Patches whose cells lie anywhere appended onto a row of one's own. -/
theorem run_ownMC {ty : TypeId} {m c : Nat} {A : Option Addr} {ys : List Value} (h : OwnM W N base v l) (hU : NCells W N u ys) (hyl : ys.length = u.length * 5) (hsrc : ∃ a, A = some a ∧ ∀ (j : Nat) x, ys[j]? = some x → W.cell? (a.add j) = some x) (hm : u.length = m) (h0 : 0 < m) (hn : l.length + m ≤ 1759218604440) (hN : N ≤ base) (hbase : base ≤ W.heap.size) :
    ∃ v' W', (Builtin.append_ #[22, 22] ty #[v, .slice A m c]).run Try.prog W = .ok v' W' ∧ OwnM W' N base v' (l ++ u) ∧ W.grownBy W' v.ownBlock := by
  obtain ⟨i0, hi0, hz0, hz1, hz2⟩ := info_parts info_named
  obtain ⟨xs, hrow, hF⟩ := h
  have h1 := one5 hU hyl
  obtain ⟨a, rfl, hcell⟩ := hsrc
  obtain ⟨g, cap, W', hr, r1, r2, r3, r4⟩ := run_append_lies (P := Try.prog) (w := W) 22 ty base 28 i0 _ 5 80 Try.underlying22 hi0 hz0 hz1 hz2 rfl (by decide) v l.length xs hrow a m c ys (by rw [hyl, hm]) hcell h1 (by omega) (by unfold maxLen; omega) (by omega) hbase W.heap.size rfl
  refine ⟨_, W', hr, ⟨xs ++ ys, by rw [List.length_append, hm]; exact r1, ?_⟩, r2⟩
  have hb : Below N W W' := (Below.refl N W).grown r2 (Nat.le_trans hN hbase) (fun k e => Nat.le_trans hN (own_ge hrow k e))
  exact (hF.append hrow.1 hU).below hb
theorem step_ownMC {m c : Nat} {A : Option Addr} {ys : List Value} {ops : Array Oper} {o : Oper} {a : Act} {K : Act → World → Prop} {Q : Exit → Act → World → Prop} {E : Prop} (hgd : o.guard = none) (s x : Operand)
    (ho : o.op = .call { callee := .builtin .append, args := #[s, x], argTypes := #[22, 22] }) (hs : a.eval s = v) (hx : a.eval x = .slice A m c)
    (h : OwnM W N base v l) (hU : NCells W N u ys) (hyl : ys.length = u.length * 5) (hsrc : ∃ a, A = some a ∧ ∀ (j : Nat) x, ys[j]? = some x → W.cell? (a.add j) = some x) (hm : u.length = m) (h0 : 0 < m) (hn : l.length + m ≤ 1759218604440) (hN : N ≤ base) (hbase : base ≤ W.heap.size)
    (hK : ∀ v' W', OwnM W' N base v' (l ++ u) → W.grownBy W' v.ownBlock → K (a.put o.dst v') W') : if Region.wanted o (yielded ops a.tmps) = true then Oper.wp Try.prog o a W K Q else E := by
  have hw : Region.wanted o (yielded ops a.tmps) = true := by simp [Region.wanted, hgd]
  rw [if_pos hw]
  obtain ⟨v', W', hrun, h4, h5⟩ := run_ownMC (ty := o.type) (c := c) h hU hyl hsrc hm h0 hn hN hbase
  unfold Oper.wp execOp
  simp only [ho, resolve, invoke, builtin, Sem.run_bind, Sem.run_pure, Result.andThen_ok, List.map_toArray, List.map_cons, List.map_nil, hs, hx, hrun]
  exact hK v' W' h4 h5
/-- The cells of one patch in a block of its own. -/
theorem one_srcN {b : Nat} {x : Nm} {D A : Option Addr} {dn dc n c : Nat} (h : Blk W b 28 #[.int .i64 x.id.1, .int .i64 x.id.2, .slice D dn dc, strV x.txt, .slice A n c]) : ∃ a, some (⟨b, 0, none⟩ : Addr) = some a ∧ ∀ (j : Nat) u, [Value.int .i64 x.id.1, .int .i64 x.id.2, .slice D dn dc, strV x.txt, .slice A n c][j]? = some u → W.cell? (a.add j) = some u :=
  ⟨_, rfl, fun j u hu => by
    have e : ∀ k, (⟨b, 0, none⟩ : Addr).add k = ⟨b, k, none⟩ := fun k => by unfold Addr.add; split <;> simp_all
    rw [e]
    match j, hu with
    | 0, hu => exact h.cell 0 hu
    | 1, hu => exact h.cell 1 hu
    | 2, hu => exact h.cell 2 hu
    | 3, hu => exact h.cell 3 hu
    | 4, hu => exact h.cell 4 hu
    | j + 5, hu => simp at hu⟩
/-- The same as a step of a drawn region. -/
theorem step_ownMW {m c : Nat} {A : Option Addr} {ops : Array Oper} {o : Oper} {a : Act} {K : Act → World → Prop} {Q : Exit → Act → World → Prop} {E : Prop} (hgd : o.guard = none) (s x : Operand)
    (ho : o.op = .call { callee := .builtin .append, args := #[s, x], argTypes := #[22, 22] }) (hs : a.eval s = v) (hx : a.eval x = .slice A m c)
    (h : OwnM W N base v l) (hu : RdN W N A u) (hm : u.length = m) (hn : l.length + m ≤ 1759218604440) (hN : N ≤ base) (hbase : base ≤ W.heap.size)
    (hK : ∀ v' W', OwnM W' N base v' (l ++ u) → W.grownBy W' v.ownBlock → K (a.put o.dst v') W') : if Region.wanted o (yielded ops a.tmps) = true then Oper.wp Try.prog o a W K Q else E := by
  have hw : Region.wanted o (yielded ops a.tmps) = true := by simp [Region.wanted, hgd]
  rw [if_pos hw]
  obtain ⟨v', W', hrun, h4, h5⟩ := run_ownMW (ty := o.type) (c := c) h hu hm hn hN hbase
  unfold Oper.wp execOp
  simp only [ho, resolve, invoke, builtin, Sem.run_bind, Sem.run_pure, Result.andThen_ok, List.map_toArray, List.map_cons, List.map_nil, hs, hx, hrun]
  exact hK v' W' h4 h5
theorem ownM_set (h : OwnM W N base v l) {b : Nat} (hb : N ≤ b) (hB : b < base) (j : Nat) (x : Value) : OwnM (W.setCell ⟨b, j, none⟩ x) N base v l := by
  obtain ⟨xs, h1, h2⟩ := h
  exact ⟨xs, own_set h1 hB j x, h2.below ((Below.refl _ _).setCell (p := ⟨b, j, none⟩) hb x)⟩
end

theorem joint_le {l : List Nm} {q : Nm} {n n_l : Nat} (h : List.length ([] ++ l ++ [q]) = n) (hl : l.length = n_l) (hz : n_l ≤ 1759218604390) : n ≤ maxLen := by
  rw [List.nil_append, List.length_append, List.length_singleton] at h
  unfold maxLen
  omega

theorem joint_len {l : List Nm} {q : Nm} {n n_l : Nat} (h : List.length ([] ++ l ++ [q]) = n) (hl : l.length = n_l) (hz : n_l ≤ 8) : n ≤ 1000 := by
  rw [List.nil_append, List.length_append, List.length_singleton] at h
  omega
theorem lit_all : ∀ {l : List Nm}, (∀ p ∈ l, Lit p) → (allN l).length ≤ l.length * 10 ∧ Lt (allN l)
  | [], _ => ⟨Nat.le_refl _, fun x hx => by cases hx⟩
  | p :: l, h => by
    obtain ⟨h1, h2⟩ := lit_all fun x hx => h x (.tail _ hx)
    have hp := h p (.head _)
    have hl := hp.2.1
    rw [allN_cons]
    exact ⟨by rw [List.length_append, List.length_cons]; omega, hp.1.app h2⟩
/-- All changes of at most nine patches. -/
theorem joint_all {l : List Nm} {q : Nm} (hl : ∀ p ∈ l, Lit p) (hq : Lit q) (hn : l.length ≤ 8) : (allN ([] ++ l ++ [q])).length ≤ 200 ∧ Lt (allN ([] ++ l ++ [q])) := by
  obtain ⟨h1, h2⟩ := lit_all (l := [] ++ l ++ [q]) (fun p hp => by
    rw [List.nil_append] at hp
    rcases List.mem_append.1 hp with h | h
    · exact hl p h
    · rw [List.mem_singleton.1 h]; exact hq)
  refine ⟨Nat.le_trans h1 ?_, h2⟩
  rw [List.nil_append, List.length_append, List.length_singleton]
  omega
theorem front_len {x : Nm} {l : List Nm} {n n_l : Nat} (h : List.length ([x] ++ l) = n) (hl : l.length = n_l) (hz : n_l ≤ 8) : n ≤ 1000 := by
  rw [List.length_append, List.length_singleton] at h
  omega
/-- The same of one ahead of at most eight. -/
theorem front_all {x : Nm} {l : List Nm} (hx : Lit x) (hl : ∀ p ∈ l, Lit p) (hn : l.length ≤ 8) : (allN ([x] ++ l)).length ≤ 200 ∧ Lt (allN ([x] ++ l)) := by
  obtain ⟨h1, h2⟩ := lit_all (l := [x] ++ l) (fun p hp => by
    rcases List.mem_append.1 hp with h | h
    · rw [List.mem_singleton.1 h]; exact hx
    · exact hl p h)
  refine ⟨Nat.le_trans h1 ?_, h2⟩
  rw [List.length_append, List.length_singleton]
  omega

end Tg
end Go.Proofs.Ytbiiabfhngdeiaa
