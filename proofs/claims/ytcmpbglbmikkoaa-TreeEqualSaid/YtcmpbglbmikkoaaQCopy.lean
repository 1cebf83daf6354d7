/-
  copy, of elements of any size, into a row of one's own: as a run, in a list of operations, and as a step of a drawn region. No function of the program is walked here.
-/
import Derived.Test.YtcmpbglbmikkoaaQBlk
import Derived.Laws.CopyOwn
import Derived.Deep.RegionLaw
namespace Go.Proofs.Ytcmpbglbmikkoaa
open Go.RowKit
set_option linter.unusedVariables false
namespace Tx

section
variable {P : Program} {w : World}
theorem run_copy_own {dT sT ty e : TypeId} {i : TypeInfo} {base size g f n cap dLen dCap sLen sCap : Nat} {A : Option Addr} {xs cs : List Value} (hu : P.underlying dT = some (.slice e)) (hi : P.info? e = some i) (hsz : i.size = size)
    (hrow : w.ownsRow base e size (.slice (some ⟨g, 0, none⟩) n cap) n xs) (hn : cs.length = Nat.min sLen dLen * size) (hr : cs = [] ∨ ∃ a, A = some a ∧ ∀ j u, cs[j]? = some u → w.cell? (a.add j) = some u) (hfit : f + cs.length ≤ n * size) (h1 : ∀ u ∈ cs, u.oneCell' = true) :
    ∃ w', (Builtin.copy_ #[dT, sT] ty #[.slice (some ⟨g, f, none⟩) dLen dCap, .slice A sLen sCap]).run P w = .ok (goInt (Nat.min sLen dLen)) w' ∧ w'.ownsRow base e size (.slice (some ⟨g, 0, none⟩) n cap) n (splice xs f cs) ∧ w.grownBy w' (some g) := by
  subst hsz
  have hxl := hrow.1
  rcases hrow.2 with ⟨h', _⟩ | ⟨g', cap', cur, h', hb, hg, hc1, hc2, hc3, ht⟩
  · simp at h'
  simp only [Value.slice.injEq, Option.some.injEq, Addr.mk.injEq, and_true, true_and] at h'
  obtain ⟨rfl, rfl⟩ := h'
  have hcn : n * i.size ≤ cap * i.size := Nat.mul_le_mul_right _ hc1
  have hst := run_storeCells_at P g f e cs 0 cur w hg (by omega) h1
  rw [Nat.add_zero] at hst
  have hl : (Builtin.firstCells i.size (Nat.min sLen dLen) (.slice A sLen sCap)).run P w = .ok cs.toArray w := by
    rcases hr with rfl | ⟨a, rfl, hcell⟩
    · cases A with
      | none => simp [Builtin.firstCells]
      | some a =>
        have h0 : Nat.min sLen dLen * i.size = 0 := by rw [← hn]; rfl
        have := run_loadCells_list (P := P) w a [] (by simp)
        simp only [Builtin.firstCells, h0]
        exact this
    · have := run_loadCells_list (P := P) w a cs hcell
      simp only [Builtin.firstCells, ← hn]
      exact this
  refine ⟨w.setRow g (cur.toList.take f ++ cs ++ cur.toList.drop (f + cs.length)).toArray, ?_, ⟨?_, .inr ⟨g, cap, _, rfl, hb, setRow_heap w g cur _ e _ hg, hc1, hc2, ?_, ?_⟩⟩, ⟨rfl, rfl, rfl, by simp [World.setRow], fun k hk hne => setRow_other w g k _ (fun e => hne (by rw [e]))⟩⟩
  · simp [Builtin.copy_, run_underlying hu, Builtin.lenOf, sizeOf, typeInfo, hi, hl, hst]
  · rw [length_splice _ _ _ (by omega)]; exact hxl
  · simp only [List.size_toArray, List.length_append, List.length_take, List.length_drop, Array.length_toList]; omega
  · rw [← ht]
    unfold splice
    rw [List.take_take, Nat.min_eq_left (by omega), List.append_assoc, List.take_append, List.take_take, List.take_append, List.length_take, Array.length_toList, Nat.min_eq_right (by omega), Nat.min_eq_left (by omega), List.take_of_length_le (show cs.length ≤ n * i.size - f by omega), List.drop_take, Nat.sub_sub]

theorem wp_copy_own {o : Oper} {a : Act} {K : Act → World → Prop} {Q : Exit → Act → World → Prop} (d s : Operand) (dT sT : TypeId)
    (ho : o.op = .call { callee := .builtin .copy, args := #[d, s], argTypes := #[dT, sT] }) (e : TypeId) (i : TypeInfo) (base size g f n cap dLen dCap sLen sCap : Nat) (A : Option Addr) (xs cs : List Value) (hu : P.underlying dT = some (.slice e)) (hi : P.info? e = some i) (hsz : i.size = size)
    (hd : a.eval d = .slice (some ⟨g, f, none⟩) dLen dCap) (hs : a.eval s = .slice A sLen sCap)
    (hrow : w.ownsRow base e size (.slice (some ⟨g, 0, none⟩) n cap) n xs) (hn : cs.length = Nat.min sLen dLen * size) (hr : cs = [] ∨ ∃ a, A = some a ∧ ∀ j u, cs[j]? = some u → w.cell? (a.add j) = some u) (hfit : f + cs.length ≤ n * size) (h1 : ∀ u ∈ cs, u.oneCell' = true)
    (h : ∀ w', w'.ownsRow base e size (.slice (some ⟨g, 0, none⟩) n cap) n (splice xs f cs) → w.grownBy w' (some g) → K (a.put o.dst (goInt (Nat.min sLen dLen))) w') : o.wp P a w K Q := by
  obtain ⟨w', hrun, h2, h3⟩ := run_copy_own (P := P) (ty := o.type) (sT := sT) (dCap := dCap) (sCap := sCap) hu hi hsz hrow hn hr hfit h1
  unfold Oper.wp execOp
  simp only [ho, resolve, invoke, builtin, Sem.run_bind, Sem.run_pure, Result.andThen_ok, List.map_toArray, List.map_cons, List.map_nil, hd, hs, hrun]
  exact h w' h2 h3
theorem wpList_copy_own' {ops : Array Oper} {rest : List Oper} {o : Oper} {a : Act} {Q : Exit → Act → World → Prop} (hgd : o.guard = none) (d s : Operand) (dT sT : TypeId)
    (ho : o.op = .call { callee := .builtin .copy, args := #[d, s], argTypes := #[dT, sT] }) (e : TypeId) (i : TypeInfo) (base size g f n cap dLen dCap sLen sCap : Nat) (A : Option Addr) (xs cs : List Value) (hu : P.underlying dT = some (.slice e)) (hi : P.info? e = some i) (hsz : i.size = size)
    (hd : a.eval d = .slice (some ⟨g, f, none⟩) dLen dCap) (hs : a.eval s = .slice A sLen sCap)
    (hrow : w.ownsRow base e size (.slice (some ⟨g, 0, none⟩) n cap) n xs) (hn : cs.length = Nat.min sLen dLen * size) (hr : cs = [] ∨ ∃ a, A = some a ∧ ∀ j u, cs[j]? = some u → w.cell? (a.add j) = some u) (hfit : f + cs.length ≤ n * size) (h1 : ∀ u ∈ cs, u.oneCell' = true)
    (h : ∀ w', w'.ownsRow base e size (.slice (some ⟨g, 0, none⟩) n cap) n (splice xs f cs) → w.grownBy w' (some g) → wpList P ops Q rest (a.put o.dst (goInt (Nat.min sLen dLen))) w') : wpList P ops Q (o :: rest) a w :=
  wpList_plain hgd fun _ hK => wp_copy_own d s dT sT ho e i base size g f n cap dLen dCap sLen sCap A xs cs hu hi hsz hd hs hrow hn hr hfit h1 fun w' h2 h3 => hK _ _ (h w' h2 h3)
theorem step_copy_own {ops : Array Oper} {o : Oper} {a : Act} {K : Act → World → Prop} {Q : Exit → Act → World → Prop} {E : Prop} (hgd : o.guard = none) (d s : Operand) (dT sT : TypeId)
    (ho : o.op = .call { callee := .builtin .copy, args := #[d, s], argTypes := #[dT, sT] }) (e : TypeId) (i : TypeInfo) (base size g f n cap dLen dCap sLen sCap : Nat) (A : Option Addr) (xs cs : List Value) (hu : P.underlying dT = some (.slice e)) (hi : P.info? e = some i) (hsz : i.size = size)
    (hd : a.eval d = .slice (some ⟨g, f, none⟩) dLen dCap) (hs : a.eval s = .slice A sLen sCap)
    (hrow : w.ownsRow base e size (.slice (some ⟨g, 0, none⟩) n cap) n xs) (hn : cs.length = Nat.min sLen dLen * size) (hr : cs = [] ∨ ∃ a, A = some a ∧ ∀ j u, cs[j]? = some u → w.cell? (a.add j) = some u) (hfit : f + cs.length ≤ n * size) (h1 : ∀ u ∈ cs, u.oneCell' = true)
    (h : ∀ w', w'.ownsRow base e size (.slice (some ⟨g, 0, none⟩) n cap) n (splice xs f cs) → w.grownBy w' (some g) → K (a.put o.dst (goInt (Nat.min sLen dLen))) w') :
    if Region.wanted o (yielded ops a.tmps) = true then Oper.wp P o a w K Q else E := by
  have hw : Region.wanted o (yielded ops a.tmps) = true := by simp [Region.wanted, hgd]
  rw [if_pos hw]
  exact wp_copy_own d s dT sT ho e i base size g f n cap dLen dCap sLen sCap A xs cs hu hi hsz hd hs hrow hn hr hfit h1 h
end

end Tx
end Go.Proofs.Ytcmpbglbmikkoaa
