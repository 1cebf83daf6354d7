/-
  Words for memory, layer 10: changes in a row of one's own, their lines below a block that was there ahead of it: appended, told, stored. No function of the program is walked here.
-/
import Derived.Test.YtfihjgnafipblaaGreatDoorFlMem
import Derived.Test.YtfihjgnafipblaaGreatDoorGZ
set_option maxRecDepth 100000
namespace Go.Proofs.YtfihjgnafipblaaGreatDoor
open Go.RowKit
set_option linter.unusedVariables false
namespace Fl
open Tx Df Sq Hk Tr Pr

/-- Changes in a row of one's own, their lines in blocks that S names. -/
def OwnS (W : World) (S : Nat → Prop) (base : Nat) (v : Value) (l : List Ch) : Prop := ∃ xs, W.ownsRow base 41 6 v l.length xs ∧ PCells W S l xs
/-- The same, their lines below block N. -/
abbrev OwnN (W : World) (N base : Nat) (v : Value) (l : List Ch) : Prop := OwnS W (· < N) base v l
section
variable {W W' : World} {N base : Nat} {v : Value} {l u : List Ch}
theorem ownN_nil (W : World) (N base : Nat) : OwnN W N base (.slice none 0 0) [] := ⟨[], World.ownsRow_nil _ _ _ _, PCells.nil _ _ _⟩
theorem ownN_ge (h : OwnN W N base v l) : ∀ k, v.ownBlock = some k → base ≤ k := fun k hk => (h.elim fun xs h => own_ge h.1 k hk)
theorem OwnS.below {S : Nat → Prop} (h : OwnS W S base v l) (hb : Below W.heap.size W W') : OwnS W' S base v l := by
  obtain ⟨xs, h1, h2⟩ := h
  exact ⟨xs, own_gr h1 (below_gr_row hb), h2.to (fun b _ hl => hb.block b hl)⟩
theorem OwnS.mono {S T : Nat → Prop} (h : OwnS W S base v l) (hs : ∀ b, S b → T b) : OwnS W T base v l := by
  obtain ⟨xs, h1, h2⟩ := h
  exact ⟨xs, h1, h2.mono hs⟩
theorem OwnS.set {S : Nat → Prop} (h : OwnS W S base v l) {b : Nat} (hb : some b ≠ v.ownBlock) (hN : ¬ S b) (j : Nat) (x : Value) : OwnS (W.setCell ⟨b, j, none⟩ x) S base v l := by
  obtain ⟨xs, h1, h2⟩ := h
  refine ⟨xs, h1.kept (grownBy_set W b j x) ?_, h2.to ((alike_set W b j x).mono fun k hk e => hN (e ▸ hk))⟩
  rcases h1.2 with ⟨rfl, _⟩ | ⟨g, cap, cur, rfl, _⟩
  · exact .inl rfl
  · exact .inr fun e => hb e.symm
theorem OwnS.set6 {S : Nat → Prop} (h : OwnS W S base v l) {b : Nat} (hb : some b ≠ v.ownBlock) (hN : ¬ S b) (v0 v1 v2 v3 v4 v5 : Value) :
    OwnS ((((((W.setCell ⟨b, 0, none⟩ v0).setCell ⟨b, 1, none⟩ v1).setCell ⟨b, 2, none⟩ v2).setCell ⟨b, 3, none⟩ v3).setCell ⟨b, 4, none⟩ v4).setCell ⟨b, 5, none⟩ v5) S base v l :=
  (((((h.set hb hN 0 v0).set hb hN 1 v1).set hb hN 2 v2).set hb hN 3 v3).set hb hN 4 v4).set hb hN 5 v5
theorem alike_set6 (W : World) (b : Nat) (v0 v1 v2 v3 v4 v5 : Value) : Alike (· ≠ b) W ((((((W.setCell ⟨b, 0, none⟩ v0).setCell ⟨b, 1, none⟩ v1).setCell ⟨b, 2, none⟩ v2).setCell ⟨b, 3, none⟩ v3).setCell ⟨b, 4, none⟩ v4).setCell ⟨b, 5, none⟩ v5) := fun k h hl => by
  have al : ∀ (X : World) (j : Nat) (v : Value), k < X.heap.size → (X.setCell ⟨b, j, none⟩ v).heap[k]? = X.heap[k]? := fun X j v hx => alike_set X b j v k h hx
  rw [al _ _ _ (by simp; exact hl), al _ _ _ (by simp; exact hl), al _ _ _ (by simp; exact hl), al _ _ _ (by simp; exact hl), al _ _ _ (by simp; exact hl), al _ _ _ hl]
theorem below_set6 {B : Nat} {w X : World} {b : Nat} (h : Below B w X) (hb : B ≤ b) (v0 v1 v2 v3 v4 v5 : Value) : Below B w ((((((X.setCell ⟨b, 0, none⟩ v0).setCell ⟨b, 1, none⟩ v1).setCell ⟨b, 2, none⟩ v2).setCell ⟨b, 3, none⟩ v3).setCell ⟨b, 4, none⟩ v4).setCell ⟨b, 5, none⟩ v5) :=
  (((((h.setCell (p := ⟨b, 0, none⟩) hb v0).setCell (p := ⟨b, 1, none⟩) hb v1).setCell (p := ⟨b, 2, none⟩) hb v2).setCell (p := ⟨b, 3, none⟩) hb v3).setCell (p := ⟨b, 4, none⟩) hb v4).setCell (p := ⟨b, 5, none⟩) hb v5
theorem OwnS.own (h : OwnN W N base v l) (hN : N ≤ base) (hb : base ≤ W.heap.size) : OwnP W base v l := by
  obtain ⟨xs, h1, h2⟩ := h
  exact ⟨xs, h1, h2.mono (out_lt (Nat.le_trans hN hb) fun g e => Nat.le_trans hN (own_ge h1 g e))⟩

/-- Changes appended onto a row of one's own. -/
theorem run_ownN {ty : TypeId} {m c : Nat} {A : Option Addr} {ys : List Value} (h : OwnN W N base v l) (hu : PCells W (· < N) u ys) (hyl : ys.length = u.length * 6) (hsrc : ys = [] ∨ ∃ a, A = some a ∧ ∀ (j : Nat) x, ys[j]? = some x → W.cell? (a.add j) = some x)
    (hm : u.length = m) (hn : l.length + m ≤ 100000) (hN : N ≤ base) (hbase : base ≤ W.heap.size) :
    ∃ v' W', (Builtin.append_ #[22, 22] ty #[v, .slice A m c]).run Tryz.prog W = .ok v' W' ∧ OwnN W' N base v' (l ++ u) ∧ W.grownBy W' v.ownBlock := by
  obtain ⟨i0, hi0, hz0, hz1, hz2⟩ := info_parts info_prim
  obtain ⟨xs, hrow, hF⟩ := h
  have h1 := one6 hu hyl
  by_cases h0 : m = 0
  · have hu0 : u = [] := List.eq_nil_of_length_eq_zero (by omega)
    subst hu0
    obtain ⟨A0, c0, rfl, hc0, _⟩ := rdP_own (OwnS.own ⟨xs, hrow, hF⟩ hN hbase)
    subst h0
    exact ⟨_, W, run_append_none Tryz.underlying22 hi0 hc0, by rw [List.append_nil]; exact ⟨xs, hrow, hF⟩, ⟨rfl, rfl, rfl, Nat.le_refl _, fun _ _ _ => rfl⟩⟩
  · obtain ⟨a, rfl, hcell⟩ : ∃ a, A = some a ∧ ∀ (j : Nat) x, ys[j]? = some x → W.cell? (a.add j) = some x := by
      rcases hsrc with hy | h
      · rw [hy] at hyl; simp at hyl; omega
      · exact h
    obtain ⟨g, cap, W', hr, r1, r2, r3, r4⟩ := run_append_lies (P := Tryz.prog) (w := W) 22 ty base 41 i0 _ 6 96 Tryz.underlying22 hi0 hz0 hz1 hz2 rfl (by decide) v l.length xs hrow a m c ys (by rw [hyl, hm]) hcell h1 (by omega) (by unfold maxLen; omega) (by omega) hbase W.heap.size rfl
    refine ⟨_, W', hr, ⟨xs ++ ys, by rw [List.length_append, hm]; exact r1, ?_⟩, r2⟩
    exact (hF.append hrow.1 hu).to ((alike_gr r2).mono fun b hb e => by have := own_ge hrow b e.symm; omega)

theorem wpList_ownN {ops : Array Oper} {rest : List Oper} {o : Oper} {a : Act} {Q : Exit → Act → World → Prop} (hgd : o.guard = none) (s x : Operand)
    (ho : o.op = .call { callee := .builtin .append, args := #[s, x], argTypes := #[22, 22] })
    (N base m c : Nat) (v : Value) (A : Option Addr) (l u : List Ch) (ys : List Value) (hs : a.eval s = v) (hx : a.eval x = .slice A m c) (h : OwnN W N base v l) (hu : PCells W (· < N) u ys) (hyl : ys.length = u.length * 6) (hsrc : ys = [] ∨ ∃ a, A = some a ∧ ∀ (j : Nat) x, ys[j]? = some x → W.cell? (a.add j) = some x)
    (hm : u.length = m) (hn : l.length + m ≤ 100000) (hN : N ≤ base) (hbase : base ≤ W.heap.size)
    (hK : ∀ v' W', OwnN W' N base v' (l ++ u) → W.grownBy W' v.ownBlock → wpList Tryz.prog ops Q rest (a.put o.dst v') W') : wpList Tryz.prog ops Q (o :: rest) a W := by
  refine wpList_plain hgd fun K hK' => ?_
  obtain ⟨v', W', hrun, h2, h3⟩ := run_ownN (ty := o.type) (c := c) h hu hyl hsrc hm hn hN hbase
  unfold Oper.wp execOp
  simp only [ho, resolve, invoke, builtin, Sem.run_bind, Sem.run_pure, Result.andThen_ok, List.map_toArray, List.map_cons, List.map_nil, hs, hx, hrun]
  exact hK' _ _ (hK v' W' h2 h3)
theorem wpList_ownNL {ops : Array Oper} {rest : List Oper} {o : Oper} {a : Act} {Q : Exit → Act → World → Prop} (hgd : o.guard = none) (s x : Operand)
    (ho : o.op = .call { callee := .builtin .append, args := #[s, x], argTypes := #[22, 22] })
    (N base m c : Nat) (v : Value) (A : Option Addr) (l u : List Ch) (hs : a.eval s = v) (hx : a.eval x = .slice A m c) (h : OwnN W N base v l) (hu : RdP W (· < N) A u)
    (hm : u.length = m) (hn : l.length + m ≤ 100000) (hN : N ≤ base) (hbase : base ≤ W.heap.size)
    (hK : ∀ v' W', OwnN W' N base v' (l ++ u) → W.grownBy W' v.ownBlock → wpList Tryz.prog ops Q rest (a.put o.dst v') W') : wpList Tryz.prog ops Q (o :: rest) a W := by
  obtain ⟨ys, h1, h2, h3⟩ := flatP hu
  exact wpList_ownN hgd s x ho N base m c v A l u ys hs hx h h2 h1 h3 hm hn hN hbase hK

/-- Where a row of one's own lies. -/
theorem ownN_addr (h : OwnN W N base v l) (h0 : 0 < l.length) : ∃ g cap, v = .slice (some ⟨g, 0, none⟩) l.length cap ∧ base ≤ g ∧ g < W.heap.size := by
  obtain ⟨xs, hr, hF⟩ := h
  rcases hr.2 with ⟨rfl, h1⟩ | ⟨g, cap, cur, rfl, hbg, hg, hc, _⟩
  · omega
  · exact ⟨g, cap, rfl, hbg, (Array.getElem?_eq_some_iff.1 hg).1⟩
theorem ownN_slice (h : OwnN W N base v l) : ∃ A c, v = .slice A l.length c ∧ l.length ≤ c := by
  obtain ⟨xs, hr, hF⟩ := h
  rcases hr.2 with ⟨rfl, h1⟩ | ⟨g, cap, cur, rfl, hbg, hg, hc, _⟩
  · exact ⟨none, 0, by rw [h1], by rw [h1]; exact Nat.le_refl _⟩
  · exact ⟨_, cap, rfl, hc⟩

/-- One of a row's changes. -/
theorem OwnS.elem {S : Nat → Prop} {g n cap k : Nat} {x : Ch} (h : OwnS W S base (.slice (some ⟨g, 0, none⟩) n cap) l) (hn : l.length = n) (hx : l[k]? = some x) :
    ∃ B i j D m d, W.cell? ⟨g, k * 6, none⟩ = some (.int .i64 x.k) ∧ W.cell? ⟨g, k * 6 + 1, none⟩ = some (strV x.nm) ∧ W.cell? ⟨g, k * 6 + 2, none⟩ = some (strV x.to) ∧ W.cell? ⟨g, k * 6 + 3, none⟩ = some (.int .i64 x.h.pos) ∧ W.cell? ⟨g, k * 6 + 4, none⟩ = some (.slice B i j) ∧ W.cell? ⟨g, k * 6 + 5, none⟩ = some (.slice D m d) ∧
      (∀ j, W.frozen? ⟨g, j, none⟩ = false) ∧ PG W S B i j D m d x := by
  subst hn
  obtain ⟨xs, hr, hF⟩ := h
  obtain ⟨B, i, j, D, m, d, h0, h1, h2, h3, h4, h5, h6⟩ := hF k x hx
  have hk : k < l.length := (List.getElem?_eq_some_iff.1 hx).1
  exact ⟨B, i, j, D, m, d, by rw [hr.cellAt (k * 6) (by omega)]; exact h0, by rw [hr.cellAt (k * 6 + 1) (by omega)]; exact h1, by rw [hr.cellAt (k * 6 + 2) (by omega)]; exact h2, by rw [hr.cellAt (k * 6 + 3) (by omega)]; exact h3, by rw [hr.cellAt (k * 6 + 4) (by omega)]; exact h4, by rw [hr.cellAt (k * 6 + 5) (by omega)]; exact h5, fun j => hr.frozenAt _, h6⟩

theorem PCells.set {S : Nat → Prop} {xs : List Value} {k : Nat} {B D : Option Addr} {i j m d : Nat} {y : Ch} (h : PCells W S l xs) (hl : xs.length = l.length * 6) (hy : PG W S B i j D m d y) :
    PCells W S (l.set k y) ((((((xs.set (k * 6) (.int .i64 y.k)).set (k * 6 + 1) (strV y.nm)).set (k * 6 + 2) (strV y.to)).set (k * 6 + 3) (.int .i64 y.h.pos)).set (k * 6 + 4) (.slice B i j)).set (k * 6 + 5) (.slice D m d)) := fun p x hx => by
  by_cases hp : p = k
  · subst hp
    have hk : p < l.length := by
      have := (List.getElem?_eq_some_iff.1 hx).1
      simpa using this
    rw [List.getElem?_set_self hk] at hx
    injection hx with hx
    subst hx
    refine ⟨B, i, j, D, m, d, ?_, ?_, ?_, ?_, ?_, ?_, hy⟩
    · rw [List.getElem?_set_ne (by omega), List.getElem?_set_ne (by omega), List.getElem?_set_ne (by omega), List.getElem?_set_ne (by omega), List.getElem?_set_ne (by omega), List.getElem?_set_self (by omega)]
    · rw [List.getElem?_set_ne (by omega), List.getElem?_set_ne (by omega), List.getElem?_set_ne (by omega), List.getElem?_set_ne (by omega), List.getElem?_set_self (by simp; omega)]
    · rw [List.getElem?_set_ne (by omega), List.getElem?_set_ne (by omega), List.getElem?_set_ne (by omega), List.getElem?_set_self (by simp; omega)]
    · rw [List.getElem?_set_ne (by omega), List.getElem?_set_ne (by omega), List.getElem?_set_self (by simp; omega)]
    · rw [List.getElem?_set_ne (by omega), List.getElem?_set_self (by simp; omega)]
    · rw [List.getElem?_set_self (by simp; omega)]
  · rw [List.getElem?_set_ne (fun e => hp e.symm)] at hx
    obtain ⟨B', i', j', D', m', d', h0, h1, h2, h3, h4, h5, h6⟩ := h p x hx
    have ne : ∀ a b, a < 6 → b < 6 → k * 6 + a ≠ p * 6 + b := fun a b ha hb => by omega
    have n0 : ∀ b, b < 6 → k * 6 ≠ p * 6 + b := fun b hb => by omega
    have key : ∀ b, b < 6 → ((((((xs.set (k * 6) (.int .i64 y.k)).set (k * 6 + 1) (strV y.nm)).set (k * 6 + 2) (strV y.to)).set (k * 6 + 3) (.int .i64 y.h.pos)).set (k * 6 + 4) (.slice B i j)).set (k * 6 + 5) (.slice D m d))[p * 6 + b]? = xs[p * 6 + b]? := fun b hb => by
      rw [List.getElem?_set_ne (ne 5 b (by decide) hb), List.getElem?_set_ne (ne 4 b (by decide) hb), List.getElem?_set_ne (ne 3 b (by decide) hb), List.getElem?_set_ne (ne 2 b (by decide) hb), List.getElem?_set_ne (ne 1 b (by decide) hb), List.getElem?_set_ne (n0 b hb)]
    exact ⟨B', i', j', D', m', d', (key 0 (by decide)).trans h0, (key 1 (by decide)).trans h1, (key 2 (by decide)).trans h2, (key 3 (by decide)).trans h3, (key 4 (by decide)).trans h4, (key 5 (by decide)).trans h5, h6⟩

/-- One of a row's changes stored anew. -/
theorem OwnS.store {S : Nat → Prop} {g n cap k : Nat} {B D : Option Addr} {i j m d : Nat} {y : Ch} (h : OwnS W S base (.slice (some ⟨g, 0, none⟩) n cap) l) (hn : l.length = n) (hN : ¬ S g) (hy : PG W S B i j D m d y) :
    OwnS ((((((W.setCell ⟨g, k * 6, none⟩ (.int .i64 y.k)).setCell ⟨g, k * 6 + 1, none⟩ (strV y.nm)).setCell ⟨g, k * 6 + 2, none⟩ (strV y.to)).setCell ⟨g, k * 6 + 3, none⟩ (.int .i64 y.h.pos)).setCell ⟨g, k * 6 + 4, none⟩ (.slice B i j)).setCell ⟨g, k * 6 + 5, none⟩ (.slice D m d)) S base (.slice (some ⟨g, 0, none⟩) n cap) (l.set k y) := by
  subst hn
  obtain ⟨xs, hr, hF⟩ := h
  obtain ⟨h0, _⟩ := hr.stored (k * 6) (.int .i64 y.k)
  obtain ⟨h1, _⟩ := h0.stored (k * 6 + 1) (strV y.nm)
  obtain ⟨h2, _⟩ := h1.stored (k * 6 + 2) (strV y.to)
  obtain ⟨h3, _⟩ := h2.stored (k * 6 + 3) (.int .i64 y.h.pos)
  obtain ⟨h4, _⟩ := h3.stored (k * 6 + 4) (.slice B i j)
  obtain ⟨h5, _⟩ := h4.stored (k * 6 + 5) (.slice D m d)
  refine ⟨_, by rw [List.length_set]; exact h5, ?_⟩
  have al : ∀ (X : World) (p : Nat) (v : Value), Alike S X (X.setCell ⟨g, p, none⟩ v) := fun X p v => (alike_set X g p v).mono fun b hb e => hN (e ▸ hb)
  exact ((((((hF.set hr.1 hy).to (al _ _ _)).to (al _ _ _)).to (al _ _ _)).to (al _ _ _)).to (al _ _ _)).to (al _ _ _)
end

/-- Six cells of a row are set. -/
theorem below_row6 {B g : Nat} {w X : World} (h : Below B w X) (hb : B ≤ g) (k : Nat) (v0 v1 v2 v3 v4 v5 : Value) : Below B w ((((((X.setCell ⟨g, k * 6, none⟩ v0).setCell ⟨g, k * 6 + 1, none⟩ v1).setCell ⟨g, k * 6 + 2, none⟩ v2).setCell ⟨g, k * 6 + 3, none⟩ v3).setCell ⟨g, k * 6 + 4, none⟩ v4).setCell ⟨g, k * 6 + 5, none⟩ v5) :=
  (((((h.setCell (p := ⟨g, k * 6, none⟩) hb v0).setCell (p := ⟨g, k * 6 + 1, none⟩) hb v1).setCell (p := ⟨g, k * 6 + 2, none⟩) hb v2).setCell (p := ⟨g, k * 6 + 3, none⟩) hb v3).setCell (p := ⟨g, k * 6 + 4, none⟩) hb v4).setCell (p := ⟨g, k * 6 + 5, none⟩) hb v5
theorem blk_row6 {X : World} {b g : Nat} {t : TypeId} {cs : Array Value} (h : Blk X b t cs) (hne : b ≠ g) (k : Nat) (v0 v1 v2 v3 v4 v5 : Value) : Blk ((((((X.setCell ⟨g, k * 6, none⟩ v0).setCell ⟨g, k * 6 + 1, none⟩ v1).setCell ⟨g, k * 6 + 2, none⟩ v2).setCell ⟨g, k * 6 + 3, none⟩ v3).setCell ⟨g, k * 6 + 4, none⟩ v4).setCell ⟨g, k * 6 + 5, none⟩ v5) b t cs :=
  (((((h.set_ne hne (k * 6) v0).set_ne hne (k * 6 + 1) v1).set_ne hne (k * 6 + 2) v2).set_ne hne (k * 6 + 3) v3).set_ne hne (k * 6 + 4) v4).set_ne hne (k * 6 + 5) v5
theorem blk_set6 {X : World} {b g : Nat} {t : TypeId} {cs : Array Value} (h : Blk X b t cs) (hne : b ≠ g) (v0 v1 v2 v3 v4 v5 : Value) : Blk ((((((X.setCell ⟨g, 0, none⟩ v0).setCell ⟨g, 1, none⟩ v1).setCell ⟨g, 2, none⟩ v2).setCell ⟨g, 3, none⟩ v3).setCell ⟨g, 4, none⟩ v4).setCell ⟨g, 5, none⟩ v5) b t cs :=
  (((((h.set_ne hne 0 v0).set_ne hne 1 v1).set_ne hne 2 v2).set_ne hne 3 v3).set_ne hne 4 v4).set_ne hne 5 v5
theorem alike_row6 (X : World) (g k : Nat) (v0 v1 v2 v3 v4 v5 : Value) : Alike (· ≠ g) X ((((((X.setCell ⟨g, k * 6, none⟩ v0).setCell ⟨g, k * 6 + 1, none⟩ v1).setCell ⟨g, k * 6 + 2, none⟩ v2).setCell ⟨g, k * 6 + 3, none⟩ v3).setCell ⟨g, k * 6 + 4, none⟩ v4).setCell ⟨g, k * 6 + 5, none⟩ v5) := fun i h hl => by
  have al : ∀ (X : World) (j : Nat) (v : Value), i < X.heap.size → (X.setCell ⟨g, j, none⟩ v).heap[i]? = X.heap[i]? := fun X j v hx => alike_set X g j v i h hx
  rw [al _ _ _ (by simp; exact hl), al _ _ _ (by simp; exact hl), al _ _ _ (by simp; exact hl), al _ _ _ (by simp; exact hl), al _ _ _ (by simp; exact hl), al _ _ _ hl]
theorem Alike.trans_ {S : Nat → Prop} {W W1 W2 : World} (h : Alike S W W1) (h' : Alike S W1 W2) (hs : W.heap.size ≤ W1.heap.size) : Alike S W W2 := fun b hb hl => (h' b hb (Nat.lt_of_lt_of_le hl hs)).trans (h b hb hl)

/-- What two that pass read as. -/
theorem way_pg1 {W : World} {S : Nat → Prop} {p q x y : Ch} {D E : Option Addr} {m k m' k' : Nat} (h : Pr.Way p q x y) (gv : PG W S D m k E m' k' q) (hn : p.nm.length ≤ maxLen) : PG W S D m k E m' k' x := by
  cases h with
  | apart h => exact gv
  | out kp kq hn' => exact ⟨gv.l, gv.l', gv.k, gv.k', gv.mm, gv.mm', gv.r, gv.r', gv.pp, gv.kk, hn, gv.to, gv.s, gv.s'⟩
  | into kq kp hn' => exact gv
  | both kp kq hn' u v h =>
    obtain ⟨m1, m2⟩ := Sw.passH_mays h
    obtain ⟨_, b1, b2, b3, b4⟩ := Sw.pass_moves (x := u) (y := v) (Sw.passH_may h).2.2.1
    have g1 := Sw.mayH_pos m1
    exact ⟨by dsimp only; rw [b1]; exact gv.l, by dsimp only; rw [b2]; exact gv.l', gv.k, gv.k', gv.mm, gv.mm', by dsimp only; rw [b1]; exact gv.r, by dsimp only; rw [b2]; exact gv.r', by unfold I64; dsimp only; omega, gv.kk, gv.nm, gv.to, by dsimp only; rw [b1]; exact gv.s, by dsimp only; rw [b2]; exact gv.s'⟩
theorem way_pg2 {W : World} {S : Nat → Prop} {p q x y : Ch} {A B : Option Addr} {n c n' c' : Nat} (h : Pr.Way p q x y) (hv : PG W S A n c B n' c' p) (ht : q.to.length ≤ maxLen) : PG W S A n c B n' c' y := by
  cases h with
  | apart h => exact hv
  | out kp kq hn' => exact hv
  | into kq kp hn' => exact ⟨hv.l, hv.l', hv.k, hv.k', hv.mm, hv.mm', hv.r, hv.r', hv.pp, hv.kk, ht, hv.to, hv.s, hv.s'⟩
  | both kp kq hn' u v h =>
    obtain ⟨m1, m2⟩ := Sw.passH_mays h
    obtain ⟨_, b1, b2, b3, b4⟩ := Sw.pass_moves (x := u) (y := v) (Sw.passH_may h).2.2.1
    have g1 := Sw.mayH_pos m2
    exact ⟨by dsimp only; rw [b3]; exact hv.l, by dsimp only; rw [b4]; exact hv.l', hv.k, hv.k', hv.mm, hv.mm', by dsimp only; rw [b3]; exact hv.r, by dsimp only; rw [b4]; exact hv.r', by unfold I64; dsimp only; omega, hv.kk, hv.nm, hv.to, by dsimp only; rw [b3]; exact hv.s, by dsimp only; rw [b4]; exact hv.s'⟩

/-- Hunks of at most 1000 lines. -/
def Short (l : List Ch) : Prop := ∀ x ∈ l, x.h.old.length ≤ 1000 ∧ x.h.new.length ≤ 1000

end Fl
end Go.Proofs.YtfihjgnafipblaaGreatDoor
