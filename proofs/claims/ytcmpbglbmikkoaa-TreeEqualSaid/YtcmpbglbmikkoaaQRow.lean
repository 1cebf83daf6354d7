/-
  A row of one's own: cells laid over it; append within its room, and clear, of elements of any size: as runs, in a list of operations, and as steps of a drawn region. No function of the program is walked here.
-/
import Derived.Test.YtcmpbglbmikkoaaQCopy
namespace Go.Proofs.Ytcmpbglbmikkoaa
open Go.RowKit
set_option linter.unusedVariables false
namespace Tx

section
variable {P : Program} {w : World}
theorem own_splice {e : TypeId} {base size g n cap : Nat} {xs : List Value} (hrow : w.ownsRow base e size (.slice (some ⟨g, 0, none⟩) n cap) n xs) :
    ∃ cur, w.heap[g]? = some (.cells cur e (0, 0)) ∧ cur.size = cap * size ∧ n * size ≤ cap * size ∧ ∀ f cs, f + cs.length ≤ n * size →
      (w.setRow g (cur.toList.take f ++ cs ++ cur.toList.drop (f + cs.length)).toArray).ownsRow base e size (.slice (some ⟨g, 0, none⟩) n cap) n (splice xs f cs) ∧ w.grownBy (w.setRow g (cur.toList.take f ++ cs ++ cur.toList.drop (f + cs.length)).toArray) (some g) := by
  have hxl := hrow.1
  rcases hrow.2 with ⟨h', _⟩ | ⟨g', cap', cur, h', hb, hg, hc1, hc2, hc3, ht⟩
  · simp at h'
  simp only [Value.slice.injEq, Option.some.injEq, Addr.mk.injEq, and_true, true_and] at h'
  obtain ⟨rfl, rfl⟩ := h'
  have hcn : n * size ≤ cap * size := Nat.mul_le_mul_right _ hc1
  refine ⟨cur, hg, hc3, hcn, fun f cs hfit => ?_⟩
  refine ⟨⟨?_, .inr ⟨g, cap, _, rfl, hb, setRow_heap w g cur _ e _ hg, hc1, hc2, ?_, ?_⟩⟩, ⟨rfl, rfl, rfl, by simp [World.setRow], fun k hk hne => setRow_other w g k _ (fun e => hne (by rw [e]))⟩⟩
  · rw [length_splice _ _ _ (by omega)]; exact hxl
  · simp only [List.size_toArray, List.length_append, List.length_take, List.length_drop, Array.length_toList]; omega
  · rw [← ht]
    unfold splice
    rw [List.take_take, Nat.min_eq_left (by omega), List.append_assoc, List.take_append, List.take_take, List.take_append, List.length_take, Array.length_toList, Nat.min_eq_right (by omega), Nat.min_eq_left (by omega), List.take_of_length_le (show cs.length ≤ n * size - f by omega), List.drop_take, Nat.sub_sub]
/-- Fewer of its elements. -/
theorem own_less {e : TypeId} {base size g n k cap : Nat} {xs : List Value} (hrow : w.ownsRow base e size (.slice (some ⟨g, 0, none⟩) n cap) n xs) (hk : k ≤ n) : w.ownsRow base e size (.slice (some ⟨g, 0, none⟩) k cap) k (xs.take (k * size)) := by
  have hkn : k * size ≤ n * size := Nat.mul_le_mul_right _ hk
  refine ⟨by rw [List.length_take, hrow.1, Nat.min_eq_left hkn], ?_⟩
  rcases hrow.2 with ⟨h', _⟩ | ⟨g', cap', cur, h', hb, hg, hc1, hc2, hc3, ht⟩
  · simp at h'
  simp only [Value.slice.injEq, Option.some.injEq, Addr.mk.injEq, and_true, true_and] at h'
  obtain ⟨rfl, rfl⟩ := h'
  exact .inr ⟨g, cap, cur, rfl, hb, hg, Nat.le_trans hk hc1, hc2, hc3, by rw [← ht, List.take_take, Nat.min_eq_left hkn]⟩

/-- append within the room of a row of one's own. -/
theorem run_append_own_room {t ty e : TypeId} {i : TypeInfo} {base size g n cap k m c : Nat} {a : Addr} {xs news : List Value} (hu : P.underlying t = some (.slice e)) (hi : P.info? e = some i) (hsz : i.size = size)
    (hrow : w.ownsRow base e size (.slice (some ⟨g, 0, none⟩) n cap) n xs) (hl : news.length = m * size) (hr : ∀ j u, news[j]? = some u → w.cell? (a.add j) = some u) (h1 : ∀ u ∈ news, u.oneCell' = true) (hkm : k + m ≤ n) (hn : n ≤ cap) :
    ∃ w', (Builtin.append_ #[t, t] ty #[.slice (some ⟨g, 0, none⟩) k cap, .slice (some a) m c]).run P w = .ok (.slice (some ⟨g, 0, none⟩) (k + m) cap) w' ∧ w'.ownsRow base e size (.slice (some ⟨g, 0, none⟩) n cap) n (splice xs (k * size) news) ∧ w.grownBy w' (some g) := by
  subst hsz
  obtain ⟨cur, hg, hcs, hnc, hs⟩ := own_splice hrow
  have hfit : k * i.size + news.length ≤ n * i.size := by rw [hl, ← Nat.add_mul]; exact Nat.mul_le_mul_right _ hkm
  obtain ⟨h2, h3⟩ := hs (k * i.size) news hfit
  exact ⟨_, run_append_room w t ty e i hu hi g k cap cur hg a m c news hl hr h1 (by omega) (by omega), h2, h3⟩
theorem step_append_own_room {ops : Array Oper} {o : Oper} {a : Act} {K : Act → World → Prop} {Q : Exit → Act → World → Prop} {E : Prop} (hgd : o.guard = none) (s x : Operand) (t : TypeId)
    (ho : o.op = .call { callee := .builtin .append, args := #[s, x], argTypes := #[t, t] }) (e : TypeId) (i : TypeInfo) (base size g n cap k m c : Nat) (ad : Addr) (xs news : List Value) (hu : P.underlying t = some (.slice e)) (hi : P.info? e = some i) (hsz : i.size = size)
    (hs : a.eval s = .slice (some ⟨g, 0, none⟩) k cap) (hx : a.eval x = .slice (some ad) m c)
    (hrow : w.ownsRow base e size (.slice (some ⟨g, 0, none⟩) n cap) n xs) (hl : news.length = m * size) (hr : ∀ j u, news[j]? = some u → w.cell? (ad.add j) = some u) (h1 : ∀ u ∈ news, u.oneCell' = true) (hkm : k + m ≤ n) (hn : n ≤ cap)
    (h : ∀ w', w'.ownsRow base e size (.slice (some ⟨g, 0, none⟩) n cap) n (splice xs (k * size) news) → w.grownBy w' (some g) → K (a.put o.dst (.slice (some ⟨g, 0, none⟩) (k + m) cap)) w') :
    if Region.wanted o (yielded ops a.tmps) = true then Oper.wp P o a w K Q else E := by
  have hw : Region.wanted o (yielded ops a.tmps) = true := by simp [Region.wanted, hgd]
  rw [if_pos hw]
  obtain ⟨w', hrun, h2, h3⟩ := run_append_own_room (P := P) (ty := o.type) (c := c) hu hi hsz hrow hl hr h1 hkm hn
  unfold Oper.wp execOp
  simp only [ho, resolve, invoke, builtin, Sem.run_bind, Sem.run_pure, Result.andThen_ok, List.map_toArray, List.map_cons, List.map_nil, hs, hx, hrun]
  exact h w' h2 h3

/-- clear, within a row of one's own: the cells ahead stay. -/
theorem run_clear_own {t ty e : TypeId} {i : TypeInfo} {z : Value} {base size g f n cap m c : Nat} {xs : List Value} (hu : P.underlying t = some (.slice e)) (hi : P.info? e = some i) (hz : i.zero = some z) (hsz : z.cells.size = size) (hz1 : ∀ j : Nat, Value.oneCell' (z.cells[j % z.cells.size]!) = true) (hm0 : 0 < m)
    (hrow : w.ownsRow base e size (.slice (some ⟨g, 0, none⟩) n cap) n xs) (hfit : f + m * size ≤ n * size) :
    ∃ w', (Builtin.clear_ #[t] ty #[.slice (some ⟨g, f, none⟩) m c]).run P w = .ok (.tuple #[]) w' ∧ (∃ ys, w'.ownsRow base e size (.slice (some ⟨g, 0, none⟩) n cap) n ys ∧ ys.take f = xs.take f) ∧ w.grownBy w' (some g) := by
  obtain ⟨cur, hg, hcs, hnc, hs⟩ := own_splice hrow
  have hl : (Builtin.zeroCells z.cells m).toList.length = m * size := by rw [Array.length_toList, size_zeroCells, hsz]
  obtain ⟨h2, h3⟩ := hs f (Builtin.zeroCells z.cells m).toList (by rw [hl]; exact hfit)
  have hst := run_storeCells_at P g f e (Builtin.zeroCells z.cells m).toList 0 cur w hg (by rw [hl]; omega) (fun v hv => by
    rw [Array.mem_toList_iff] at hv
    simp only [Builtin.zeroCells, Array.mem_map] at hv
    obtain ⟨j, _, rfl⟩ := hv
    exact hz1 _)
  rw [Nat.add_zero] at hst
  obtain ⟨m, rfl⟩ : ∃ m', m = m' + 1 := ⟨m - 1, by omega⟩
  refine ⟨_, ?_, ⟨_, h2, ?_⟩, h3⟩
  · simp [Builtin.clear_, run_underlying hu, zeroValue, typeInfo, hi, hz, hst]
  · unfold splice
    have hxl : f ≤ xs.length := by rw [hrow.1]; omega
    rw [List.take_append_of_le_length (by rw [List.length_take]; omega), List.take_take, Nat.min_self]
theorem wpList_clear_own {ops : Array Oper} {rest : List Oper} {o : Oper} {a : Act} {Q : Exit → Act → World → Prop} (hgd : o.guard = none) (s : Operand) (t : TypeId)
    (ho : o.op = .call { callee := .builtin .clear, args := #[s], argTypes := #[t] }) (e : TypeId) (i : TypeInfo) (z : Value) (base size g f n cap m c : Nat) (xs : List Value) (hu : P.underlying t = some (.slice e)) (hi : P.info? e = some i) (hz : i.zero = some z) (hsz : z.cells.size = size) (hz1 : ∀ j : Nat, Value.oneCell' (z.cells[j % z.cells.size]!) = true) (hm0 : 0 < m)
    (hs : a.eval s = .slice (some ⟨g, f, none⟩) m c) (hrow : w.ownsRow base e size (.slice (some ⟨g, 0, none⟩) n cap) n xs) (hfit : f + m * size ≤ n * size)
    (h : ∀ w' ys, w'.ownsRow base e size (.slice (some ⟨g, 0, none⟩) n cap) n ys → ys.take f = xs.take f → w.grownBy w' (some g) → wpList P ops Q rest (a.put o.dst (.tuple #[])) w') : wpList P ops Q (o :: rest) a w := by
  refine wpList_plain hgd fun K hK => ?_
  obtain ⟨w', hrun, ⟨ys, h2, h4⟩, h3⟩ := run_clear_own (P := P) (ty := o.type) (c := c) hu hi hz hsz hz1 hm0 hrow hfit
  unfold Oper.wp execOp
  simp only [ho, resolve, invoke, builtin, Sem.run_bind, Sem.run_pure, Result.andThen_ok, List.map_toArray, List.map_cons, List.map_nil, hs, hrun]
  exact hK _ _ (h w' ys h2 h4 h3)
end

end Tx
end Go.Proofs.Ytcmpbglbmikkoaa
