/-
  Words for memory, layer 10: lists of changes: read, in a row of one's own, appended. No function of the program is walked here.
-/
import Derived.Test.YtfihjgnafipblaaGreatDoorGZ
import Derived.Test.YtfihjgnafipblaaGreatDoorGT
set_option maxRecDepth 100000
namespace Go.Proofs.YtfihjgnafipblaaGreatDoor
open Go.RowKit
set_option linter.unusedVariables false
namespace Fl
open Tx Df Sq Hk Tr Pr

/-- Two memories are alike in the blocks that S names. -/
def Alike (S : Nat → Prop) (W W' : World) : Prop := ∀ b, S b → b < W.heap.size → W'.heap[b]? = W.heap[b]?
section
variable {W W' W1 : World} {S T : Nat → Prop} {B b : Nat}
theorem Alike.mono (h : Alike T W W') (hs : ∀ b, S b → T b) : Alike S W W' := fun b hb hl => h b (hs b hb) hl
theorem alike_below (hb : Below B W W') : Alike (· < B) W W' := fun b h _ => hb.block b h
theorem alike_gr {row : Option Nat} (hg : W.grownBy W' row) : Alike (fun b => some b ≠ row) W W' := fun b h hl => hg.block b hl h
theorem alike_set (W : World) (b j : Nat) (v : Value) : Alike (· ≠ b) W (W.setCell ⟨b, j, none⟩ v) := fun k h hl => (grownBy_set W b j v).block k hl (by simpa using h)
theorem alike_drewN (S : Nat → Prop) (W : World) (d : Nat) : Alike S W (W.drewN d) := fun _ _ _ => rfl
end

/-- The address A leads, in a block that S names, to the cells xs; or there are none. -/
def RdG (w : World) (S : Nat → Prop) (A : Option Addr) (xs : List Value) : Prop := xs = [] ∨ ∃ a, A = some a ∧ S a.block ∧ ∀ (j : Nat) u, xs[j]? = some u → w.cell? (a.add j) = some u
section
variable {W W' : World} {S T : Nat → Prop} {A : Option Addr} {xs : List Value} {B : Nat} {ls : List (List UInt8)}
theorem RdG.mono (h : RdG W S A xs) (hs : ∀ b, S b → T b) : RdG W T A xs := h.imp id fun ⟨a, e, h1, h2⟩ => ⟨a, e, hs _ h1, h2⟩
theorem RdG.to (h : RdG W S A xs) (ha : Alike S W W') : RdG W' S A xs := h.imp id fun ⟨a, e, h1, h2⟩ => ⟨a, e, h1, fun j u hu => by
  have hc := h2 j u hu
  exact (World.cell?_of_block (ha _ (by rw [add_block]; exact h1) (World.block_lt_of_cell? W _ hc))).trans hc⟩
theorem RdG.rd (h : RdG W (· < B) A (ls.map strV)) : RdS W B A ls := h
theorem rdG_of (h : RdS W B A ls) : RdG W (· < B) A (ls.map strV) := h
end

/-- Two slice values that read, in blocks that S names, as a change's lines. -/
structure PG (w : World) (S : Nat → Prop) (A : Option Addr) (n c : Nat) (B : Option Addr) (m d : Nat) (p : Ch) : Prop where
  l : p.h.old.length = n
  l' : p.h.new.length = m
  k : n ≤ c
  k' : m ≤ d
  mm : n ≤ maxLen
  mm' : m ≤ maxLen
  r : RdG w S A (p.h.old.map strV)
  r' : RdG w S B (p.h.new.map strV)
  pp : I64 p.h.pos
  kk : I64 p.k
  nm : p.nm.length ≤ maxLen
  to : p.to.length ≤ maxLen
  s : ∀ x ∈ p.h.old, x.length ≤ maxLen
  s' : ∀ x ∈ p.h.new, x.length ≤ maxLen
section
variable {W W' : World} {S T : Nat → Prop} {A B : Option Addr} {n c m d N : Nat} {p : Ch}
theorem PG.mono (h : PG W S A n c B m d p) (hs : ∀ b, S b → T b) : PG W T A n c B m d p := ⟨h.l, h.l', h.k, h.k', h.mm, h.mm', h.r.mono hs, h.r'.mono hs, h.pp, h.kk, h.nm, h.to, h.s, h.s'⟩
theorem PG.to_ (h : PG W S A n c B m d p) (ha : Alike S W W') : PG W' S A n c B m d p := ⟨h.l, h.l', h.k, h.k', h.mm, h.mm', h.r.to ha, h.r'.to ha, h.pp, h.kk, h.nm, h.to, h.s, h.s'⟩
theorem PG.pv (h : PG W (· < N) A n c B m d p) : PV W N A n c B m d p := ⟨⟨h.l, h.l', h.k, h.k', h.mm, h.mm', h.r, h.r', h.pp⟩, h.kk, h.nm, h.to, h.s, h.s'⟩
theorem pg_of (h : PV W N A n c B m d p) : PG W (· < N) A n c B m d p := ⟨h.h.l, h.h.l', h.h.k, h.h.k', h.h.m, h.h.m', h.h.r, h.h.r', h.h.p, h.k, h.nm, h.to, h.s, h.s'⟩
/-- A change whose lines are in memory that is new. -/
theorem rdG_hi {ls : List (List UInt8)} {lo : Nat} (h : RdS W N A ls) (hi : Hi lo A) : RdG W (fun b => lo ≤ b ∧ b < N) A (ls.map strV) := by
  rcases h with h | ⟨a, e, h1, h2⟩
  · exact .inl h
  · exact .inr ⟨a, e, ⟨hi a e, h1⟩, h2⟩
theorem pg_hi {lo : Nat} (h : PV W N A n c B m d p) (hi : Hi lo A) (hi' : Hi lo B) : PG W (fun b => lo ≤ b ∧ b < N) A n c B m d p :=
  ⟨h.h.l, h.h.l', h.h.k, h.h.k', h.h.m, h.h.m', rdG_hi h.h.r hi, rdG_hi h.h.r' hi', h.h.p, h.k, h.nm, h.to, h.s, h.s'⟩
end

/-- The cells of a change, the k-th of a row at the address a. -/
structure PrAt (w : World) (S : Nat → Prop) (a : Addr) (k : Nat) (x : Ch) : Prop where
  c0 : w.cell? (a.add (k * 6)) = some (.int .i64 x.k)
  c1 : w.cell? ⟨(a.add (k * 6)).block, (a.add (k * 6)).off + 1, none⟩ = some (strV x.nm)
  c2 : w.cell? ⟨(a.add (k * 6)).block, (a.add (k * 6)).off + 2, none⟩ = some (strV x.to)
  c3 : w.cell? ⟨(a.add (k * 6)).block, (a.add (k * 6)).off + 3, none⟩ = some (.int .i64 x.h.pos)
  c4 : ∃ A n c B m d, w.cell? ⟨(a.add (k * 6)).block, (a.add (k * 6)).off + 4, none⟩ = some (.slice A n c) ∧ w.cell? ⟨(a.add (k * 6)).block, (a.add (k * 6)).off + 5, none⟩ = some (.slice B m d) ∧ PG w S A n c B m d x

/-- The address A leads, in blocks that S names, to changes; or there are none. -/
def RdP (w : World) (S : Nat → Prop) (A : Option Addr) (l : List Ch) : Prop :=
  l = [] ∨ ∃ a, A = some a ∧ S a.block ∧ ∀ (k : Nat) x, l[k]? = some x → PrAt w S a k x
section
variable {W W' : World} {S T : Nat → Prop} {A : Option Addr} {l : List Ch} {N : Nat}
theorem PrAt.mono {a : Addr} {k : Nat} {x : Ch} (h : PrAt W S a k x) (hs : ∀ b, S b → T b) : PrAt W T a k x := by
  obtain ⟨c0, c1, c2, c3, A, n, c, B, m, d, c4, c5, c6⟩ := h
  exact ⟨c0, c1, c2, c3, A, n, c, B, m, d, c4, c5, c6.mono hs⟩
theorem cell_to {p : Addr} {u : Value} (ha : Alike S W W') (hp : S p.block) (hc : W.cell? p = some u) : W'.cell? p = some u := (World.cell?_of_block (ha _ hp (World.block_lt_of_cell? W _ hc))).trans hc
theorem PrAt.to {a : Addr} {k : Nat} {x : Ch} (h : PrAt W S a k x) (hS : S a.block) (ha : Alike S W W') : PrAt W' S a k x := by
  obtain ⟨c0, c1, c2, c3, A, n, c, B, m, d, c4, c5, c6⟩ := h
  have hb : S (a.add (k * 6)).block := by rw [add_block]; exact hS
  exact ⟨cell_to ha hb c0, cell_to ha hb c1, cell_to ha hb c2, cell_to ha hb c3, A, n, c, B, m, d, cell_to ha hb c4, cell_to ha hb c5, c6.to_ ha⟩
theorem RdP.mono (h : RdP W S A l) (hs : ∀ b, S b → T b) : RdP W T A l := h.imp id fun ⟨a, e, h1, h2⟩ => ⟨a, e, hs _ h1, fun k x hx => (h2 k x hx).mono hs⟩
theorem RdP.to (h : RdP W S A l) (ha : Alike S W W') : RdP W' S A l := h.imp id fun ⟨a, e, h1, h2⟩ => ⟨a, e, h1, fun k x hx => (h2 k x hx).to h1 ha⟩
theorem RdP.below {B : Nat} (h : RdP W (· < B) A l) (hb : Below B W W') : RdP W' (· < B) A l := h.to (alike_below hb)
theorem RdP.mv (h : RdP W (· < W.heap.size) A l) (hb : Below W.heap.size W W') : RdP W' (· < W'.heap.size) A l := (h.below hb).mono fun b hb' => Nat.lt_of_lt_of_le hb' hb.size
theorem RdP.drewN (h : RdP W S A l) (d : Nat) : RdP (W.drewN d) S A l := h.to (alike_drewN S W d)
theorem RdP.nil (W : World) (S : Nat → Prop) (A : Option Addr) : RdP W S A [] := .inl rfl
theorem RdP.at_ (h : RdP W S A l) {k : Nat} (hk : k < l.length) : ∃ a, A = some a ∧ S a.block ∧ PrAt W S a k l[k] := by
  rcases h with rfl | ⟨a, e, hlt, hc⟩
  · exact absurd hk (by simp)
  · exact ⟨a, e, hlt, hc k _ (List.getElem?_eq_getElem hk)⟩
/-- A part of a list. -/
theorem RdP.tail {x : Ch} {a : Addr} (h : RdP W S (some a) (x :: l)) : RdP W S (some (a.add 6)) l := by
  rcases h with h | ⟨a', e, h1, h2⟩
  · cases h
  · injection e with e
    subst e
    refine .inr ⟨_, rfl, by rw [add_block]; exact h1, fun k y hy => ?_⟩
    have := h2 (k + 1) y (by simpa using hy)
    have ea : (a.add 6).add (k * 6) = a.add ((k + 1) * 6) := by rw [add_add]; congr 1; omega
    obtain ⟨c0, c1, c2, c3, c4⟩ := this
    exact ⟨by rw [ea]; exact c0, by rw [ea]; exact c1, by rw [ea]; exact c2, by rw [ea]; exact c3, by rw [ea]; exact c4⟩
end

/-- The cells of changes, as far as they go; their lines lie in blocks that S names. -/
def PCells (W : World) (S : Nat → Prop) (l : List Ch) (xs : List Value) : Prop :=
  ∀ (k : Nat) x, l[k]? = some x → ∃ A n c B m d, xs[k * 6]? = some (.int .i64 x.k) ∧ xs[k * 6 + 1]? = some (strV x.nm) ∧ xs[k * 6 + 2]? = some (strV x.to) ∧ xs[k * 6 + 3]? = some (.int .i64 x.h.pos) ∧ xs[k * 6 + 4]? = some (.slice A n c) ∧ xs[k * 6 + 5]? = some (.slice B m d) ∧ PG W S A n c B m d x
section
variable {W W' : World} {S T : Nat → Prop} {l u : List Ch} {xs ys : List Value}
theorem PCells.mono (h : PCells W S l xs) (hs : ∀ b, S b → T b) : PCells W T l xs := fun k x hx => by
  obtain ⟨A, n, c, B, m, d, h0, h1, h2, h3, h4, h5, h6⟩ := h k x hx
  exact ⟨A, n, c, B, m, d, h0, h1, h2, h3, h4, h5, h6.mono hs⟩
theorem PCells.to (h : PCells W S l xs) (ha : Alike S W W') : PCells W' S l xs := fun k x hx => by
  obtain ⟨A, n, c, B, m, d, h0, h1, h2, h3, h4, h5, h6⟩ := h k x hx
  exact ⟨A, n, c, B, m, d, h0, h1, h2, h3, h4, h5, h6.to_ ha⟩
theorem PCells.nil (W : World) (S : Nat → Prop) (xs : List Value) : PCells W S [] xs := fun k x hx => by simp at hx
theorem PCells.one {A B : Option Addr} {n c m d : Nat} {x : Ch} (h : PG W S A n c B m d x) : PCells W S [x] [.int .i64 x.k, strV x.nm, strV x.to, .int .i64 x.h.pos, .slice A n c, .slice B m d] := fun k y hy => by
  cases k with
  | zero => cases hy; exact ⟨A, n, c, B, m, d, rfl, rfl, rfl, rfl, rfl, rfl, h⟩
  | succ k => simp at hy
theorem PCells.append (h : PCells W S l xs) (hl : xs.length = l.length * 6) (h' : PCells W S u ys) : PCells W S (l ++ u) (xs ++ ys) := fun k x hx => by
  by_cases hk : k < l.length
  · rw [List.getElem?_append_left hk] at hx
    obtain ⟨A, n, c, B, m, d, h0, h1, h2, h3, h4, h5, h6⟩ := h k x hx
    have hle : ∀ j, j < 6 → k * 6 + j < xs.length := fun j hj => by omega
    exact ⟨A, n, c, B, m, d, by rw [List.getElem?_append_left (by omega)]; exact h0, by rw [List.getElem?_append_left (by omega)]; exact h1, by rw [List.getElem?_append_left (by omega)]; exact h2, by rw [List.getElem?_append_left (by omega)]; exact h3, by rw [List.getElem?_append_left (by omega)]; exact h4, by rw [List.getElem?_append_left (by omega)]; exact h5, h6⟩
  · rw [List.getElem?_append_right (by omega)] at hx
    obtain ⟨A, n, c, B, m, d, h0, h1, h2, h3, h4, h5, h6⟩ := h' _ x hx
    have e : ∀ j, k * 6 + j - xs.length = (k - l.length) * 6 + j := fun j => by omega
    refine ⟨A, n, c, B, m, d, ?_, ?_, ?_, ?_, ?_, ?_, h6⟩
    · rw [List.getElem?_append_right (by omega), show k * 6 - xs.length = (k - l.length) * 6 by omega]; exact h0
    · rw [List.getElem?_append_right (by omega), e]; exact h1
    · rw [List.getElem?_append_right (by omega), e]; exact h2
    · rw [List.getElem?_append_right (by omega), e]; exact h3
    · rw [List.getElem?_append_right (by omega), e]; exact h4
    · rw [List.getElem?_append_right (by omega), e]; exact h5
theorem one6 : ∀ {u : List Ch} {ys : List Value}, PCells W S u ys → ys.length = u.length * 6 → ∀ y ∈ ys, Value.oneCell' y = true := fun {u ys} h hl y hy => by
  obtain ⟨j, hj, rfl⟩ := List.mem_iff_getElem.1 hy
  have hk : j / 6 < u.length := by omega
  obtain ⟨A, n, c, B, m, d, h0, h1, h2, h3, h4, h5, h6⟩ := h (j / 6) _ (List.getElem?_eq_getElem hk)
  obtain ⟨v, hv⟩ : ∃ v, ys[j] = v := ⟨_, rfl⟩
  have hj' : ys[j]? = some v := by rw [← hv]; exact List.getElem?_eq_getElem hj
  rw [hv]
  have hm : j % 6 < 6 := Nat.mod_lt _ (by decide)
  have hd : j / 6 * 6 + j % 6 = j := by omega
  rw [← hd] at hj'
  generalize j % 6 = r at *
  match r, hm with
  | 0, _ => rw [Nat.add_zero] at hj'; rw [h0] at hj'; injection hj' with e; rw [← e]; rfl
  | 1, _ => rw [h1] at hj'; injection hj' with e; rw [← e]; rfl
  | 2, _ => rw [h2] at hj'; injection hj' with e; rw [← e]; rfl
  | 3, _ => rw [h3] at hj'; injection hj' with e; rw [← e]; rfl
  | 4, _ => rw [h4] at hj'; injection hj' with e; rw [← e]; rfl
  | 5, _ => rw [h5] at hj'; injection hj' with e; rw [← e]; rfl
end

/-- The blocks that there are, but for one. -/
def Out (W : World) (row : Option Nat) : Nat → Prop := fun b => b < W.heap.size ∧ some b ≠ row
theorem out_gr {W W' : World} {row : Option Nat} (hg : W.grownBy W' row) : Alike (Out W row) W W' := fun b h hl => hg.block b hl h.2
theorem out_up {W W' : World} {row : Option Nat} (hs : W.heap.size ≤ W'.heap.size) : ∀ b, Out W row b → Out W' row b := fun b h => ⟨Nat.lt_of_lt_of_le h.1 hs, h.2⟩
theorem out_lt {W : World} {row : Option Nat} {B : Nat} (hB : B ≤ W.heap.size) (hr : ∀ g, row = some g → B ≤ g) : ∀ b, b < B → Out W row b := fun b hb => ⟨Nat.lt_of_lt_of_le hb hB, fun e => by have := hr b e.symm; omega⟩
theorem PCells.gr {W W' : World} {row : Option Nat} {l : List Ch} {xs : List Value} (h : PCells W (Out W row) l xs) (hg : W.grownBy W' row) : PCells W' (Out W' row) l xs := (h.to (out_gr hg)).mono (out_up hg.size)

/-- Changes in a row of one's own. -/
def OwnP (W : World) (base : Nat) (v : Value) (l : List Ch) : Prop := ∃ xs, W.ownsRow base 41 6 v l.length xs ∧ PCells W (Out W v.ownBlock) l xs
section
variable {W W' : World} {base : Nat} {v : Value} {l : List Ch}
theorem ownP_nil (W : World) (base : Nat) : OwnP W base (.slice none 0 0) [] := ⟨[], World.ownsRow_nil _ _ _ _, PCells.nil _ _ _⟩
theorem ownP_ge (h : OwnP W base v l) : ∀ k, v.ownBlock = some k → base ≤ k := fun k hk => (h.elim fun xs h => own_ge h.1 k hk)
theorem OwnP.below (h : OwnP W base v l) (hb : Below W.heap.size W W') : OwnP W' base v l := by
  obtain ⟨xs, h1, h2⟩ := h
  exact ⟨xs, own_gr h1 (below_gr_row hb), h2.gr (gr_none (below_gr_row hb))⟩
theorem OwnP.drewN (h : OwnP W base v l) (d : Nat) : OwnP (W.drewN d) base v l := h.below (below_drewN (Below.refl _ _) d)
/-- A row of changes of one's own is read as changes. -/
theorem rdP_own (h : OwnP W base v l) : ∃ A c, v = .slice A l.length c ∧ l.length ≤ c ∧ RdP W (· < W.heap.size) A l ∧ Hi base A := by
  obtain ⟨xs, hr, hF⟩ := h
  have hr0 := hr
  rcases hr.2 with ⟨rfl, h0⟩ | ⟨g, cap, cur, rfl, hbg, hg, hc, _⟩
  · have : l = [] := List.eq_nil_of_length_eq_zero h0
    subst this
    exact ⟨none, 0, rfl, Nat.le_refl _, .inl rfl, hi_none _⟩
  · refine ⟨_, cap, rfl, hc, .inr ⟨_, rfl, (Array.getElem?_eq_some_iff.1 hg).1, fun k x hx => ?_⟩, hi_own hr0⟩
    obtain ⟨A, n, c, B, m, d, h0, h1, h2, h3, h4, h5, h6⟩ := hF k x hx
    have hk : k < l.length := (List.getElem?_eq_some_iff.1 hx).1
    have ea : (⟨g, 0, none⟩ : Addr).add (k * 6) = ⟨g, k * 6, none⟩ := by unfold Addr.add; split <;> simp_all
    refine ⟨?_, ?_, ?_, ?_, A, n, c, B, m, d, ?_, ?_, h6.mono fun b hb => hb.1⟩
    · rw [ea, hr0.cellAt (k * 6) (by omega)]; exact h0
    · rw [ea]; show W.cell? ⟨g, k * 6 + 1, none⟩ = _; rw [hr0.cellAt (k * 6 + 1) (by omega)]; exact h1
    · rw [ea]; show W.cell? ⟨g, k * 6 + 2, none⟩ = _; rw [hr0.cellAt (k * 6 + 2) (by omega)]; exact h2
    · rw [ea]; show W.cell? ⟨g, k * 6 + 3, none⟩ = _; rw [hr0.cellAt (k * 6 + 3) (by omega)]; exact h3
    · rw [ea]; show W.cell? ⟨g, k * 6 + 4, none⟩ = _; rw [hr0.cellAt (k * 6 + 4) (by omega)]; exact h4
    · rw [ea]; show W.cell? ⟨g, k * 6 + 5, none⟩ = _; rw [hr0.cellAt (k * 6 + 5) (by omega)]; exact h5
end

theorem add_off (a : Addr) (k j : Nat) (hj : 0 < j) : (⟨(a.add k).block, (a.add k).off + j, none⟩ : Addr) = a.add (k + j) := by
  unfold Addr.add
  by_cases h : k = 0
  · subst h; simp [Nat.ne_of_gt hj]
  · simp [h, Nat.add_assoc]

/-- The cells of a list that is read. -/
theorem flatP {w : World} {S : Nat → Prop} {A : Option Addr} {l : List Ch} (h : RdP w S A l) :
    ∃ xs : List Value, xs.length = l.length * 6 ∧ PCells w S l xs ∧ (xs = [] ∨ ∃ a, A = some a ∧ ∀ (j : Nat) u, xs[j]? = some u → w.cell? (a.add j) = some u) := by
  rcases h with rfl | ⟨a, rfl, hlt, hc⟩
  · exact ⟨[], rfl, PCells.nil _ _ _, .inl rfl⟩
  · have key : ∀ (u : List Ch) (p : Nat), (∀ (k : Nat) x, u[k]? = some x → PrAt w S a (p + k) x) → ∃ xs : List Value, xs.length = u.length * 6 ∧ PCells w S u xs ∧ ∀ (j : Nat) v, xs[j]? = some v → w.cell? (a.add (p * 6 + j)) = some v := by
      intro u
      induction u with
      | nil => intro p _; exact ⟨[], rfl, PCells.nil _ _ _, fun j v hv => by simp at hv⟩
      | cons x u ih =>
        intro p hu
        obtain ⟨xs, h1, h2, h3⟩ := ih (p + 1) fun k y hy => by
          have := hu (k + 1) y (by simpa using hy)
          rw [show p + 1 + k = p + (k + 1) by omega]; exact this
        obtain ⟨c0, c1, c2, c3, A, n, c, B, m, d, c4, c5, c6⟩ := hu 0 x rfl
        rw [Nat.add_zero] at c0 c1 c2 c3 c4 c5
        rw [add_off _ _ _ (by decide)] at c1 c2 c3 c4 c5
        refine ⟨[.int .i64 x.k, strV x.nm, strV x.to, .int .i64 x.h.pos, .slice A n c, .slice B m d] ++ xs, by simp [h1]; omega, PCells.append (l := [x]) (PCells.one c6) rfl h2, fun j v hv => ?_⟩
        rcases j with _ | _ | _ | _ | _ | _ | j
        · cases hv; exact c0
        · cases hv; exact c1
        · cases hv; exact c2
        · cases hv; exact c3
        · cases hv; exact c4
        · cases hv; exact c5
        · have := h3 j v (by simpa using hv)
          rw [show p * 6 + (j + 6) = (p + 1) * 6 + j by omega]; exact this
    obtain ⟨xs, h1, h2, h3⟩ := key l 0 fun k x hx => by rw [Nat.zero_add]; exact hc k x hx
    exact ⟨xs, h1, h2, .inr ⟨a, rfl, fun j u hu => by have := h3 j u hu; rw [Nat.zero_mul, Nat.zero_add] at this; exact this⟩⟩

theorem info_prim : (Tryz.prog.info? 41).map (fun i => (i.zero, i.size, i.bytes)) = some (some (.agg #[.int .i64 0, .string ⟨#[]⟩, .string ⟨#[]⟩, .int .i64 0, .slice none 0 0, .slice none 0 0]), 6, 96) := by kernel_rfl

/-- Changes appended onto a row of one's own. -/
theorem run_ownP {W : World} {ty : TypeId} {base m c : Nat} {v : Value} {A : Option Addr} {l u : List Ch} {ys : List Value} (h : OwnP W base v l) (hu : PCells W (Out W v.ownBlock) u ys) (hyl : ys.length = u.length * 6) (hsrc : ys = [] ∨ ∃ a, A = some a ∧ ∀ (j : Nat) x, ys[j]? = some x → W.cell? (a.add j) = some x)
    (hm : u.length = m) (hn : l.length + m ≤ 100000) (hbase : base ≤ W.heap.size) :
    ∃ v' W', (Builtin.append_ #[22, 22] ty #[v, .slice A m c]).run Tryz.prog W = .ok v' W' ∧ OwnP W' base v' (l ++ u) ∧ W.grownBy W' v.ownBlock := by
  obtain ⟨i0, hi0, hz0, hz1, hz2⟩ := info_parts info_prim
  obtain ⟨xs, hrow, hF⟩ := h
  have h1 := one6 hu hyl
  by_cases h0 : m = 0
  · have hu0 : u = [] := List.eq_nil_of_length_eq_zero (by omega)
    subst hu0
    obtain ⟨A0, c0, rfl, hc0, _⟩ := rdP_own ⟨xs, hrow, hF⟩
    subst h0
    exact ⟨_, W, run_append_none Tryz.underlying22 hi0 hc0, by rw [List.append_nil]; exact ⟨xs, hrow, hF⟩, ⟨rfl, rfl, rfl, Nat.le_refl _, fun _ _ _ => rfl⟩⟩
  · obtain ⟨a, rfl, hcell⟩ : ∃ a, A = some a ∧ ∀ (j : Nat) x, ys[j]? = some x → W.cell? (a.add j) = some x := by
      rcases hsrc with hy | h
      · rw [hy] at hyl; simp at hyl; omega
      · exact h
    obtain ⟨g, cap, W', hr, r1, r2, r3, r4⟩ := run_append_lies (P := Tryz.prog) (w := W) 22 ty base 41 i0 _ 6 96 Tryz.underlying22 hi0 hz0 hz1 hz2 rfl (by decide) v l.length xs hrow a m c ys (by rw [hyl, hm]) hcell h1 (by omega) (by unfold maxLen; omega) (by omega) hbase W.heap.size rfl
    refine ⟨_, W', hr, ⟨xs ++ ys, by rw [List.length_append, hm]; exact r1, ?_⟩, r2⟩
    have hJ := (hF.append hrow.1 hu)
    rcases r3 with r3 | r3
    · rw [r3] at hJ r2
      exact hJ.gr r2
    · refine (hJ.to (out_gr r2)).mono fun b hb => ⟨Nat.lt_of_lt_of_le hb.1 r2.size, fun e => ?_⟩
      injection e with e
      have e' : b = g := e
      have := hb.1
      omega

theorem wpList_ownP {W : World} {ops : Array Oper} {rest : List Oper} {o : Oper} {a : Act} {Q : Exit → Act → World → Prop} (hgd : o.guard = none) (s x : Operand)
    (ho : o.op = .call { callee := .builtin .append, args := #[s, x], argTypes := #[22, 22] })
    (base m c : Nat) (v : Value) (A : Option Addr) (l u : List Ch) (ys : List Value) (hs : a.eval s = v) (hx : a.eval x = .slice A m c) (h : OwnP W base v l) (hu : PCells W (Out W v.ownBlock) u ys) (hyl : ys.length = u.length * 6) (hsrc : ys = [] ∨ ∃ a, A = some a ∧ ∀ (j : Nat) x, ys[j]? = some x → W.cell? (a.add j) = some x)
    (hm : u.length = m) (hn : l.length + m ≤ 100000) (hbase : base ≤ W.heap.size)
    (hK : ∀ v' W', OwnP W' base v' (l ++ u) → W.grownBy W' v.ownBlock → wpList Tryz.prog ops Q rest (a.put o.dst v') W') : wpList Tryz.prog ops Q (o :: rest) a W := by
  refine wpList_plain hgd fun K hK' => ?_
  obtain ⟨v', W', hrun, h2, h3⟩ := run_ownP (ty := o.type) (c := c) h hu hyl hsrc hm hn hbase
  unfold Oper.wp execOp
  simp only [ho, resolve, invoke, builtin, Sem.run_bind, Sem.run_pure, Result.andThen_ok, List.map_toArray, List.map_cons, List.map_nil, hs, hx, hrun]
  exact hK' _ _ (hK v' W' h2 h3)
/-- The same of a list that is read below a block that the row lies behind. -/
theorem wpList_ownPL {W : World} {ops : Array Oper} {rest : List Oper} {o : Oper} {a : Act} {Q : Exit → Act → World → Prop} (hgd : o.guard = none) (s x : Operand)
    (ho : o.op = .call { callee := .builtin .append, args := #[s, x], argTypes := #[22, 22] })
    (base N m c : Nat) (v : Value) (A : Option Addr) (l u : List Ch) (hs : a.eval s = v) (hx : a.eval x = .slice A m c) (h : OwnP W base v l) (hu : RdP W (· < N) A u) (hN : N ≤ base)
    (hm : u.length = m) (hn : l.length + m ≤ 100000) (hbase : base ≤ W.heap.size)
    (hK : ∀ v' W', OwnP W' base v' (l ++ u) → W.grownBy W' v.ownBlock → wpList Tryz.prog ops Q rest (a.put o.dst v') W') : wpList Tryz.prog ops Q (o :: rest) a W := by
  obtain ⟨ys, h1, h2, h3⟩ := flatP hu
  exact wpList_ownP hgd s x ho base m c v A l u ys hs hx h (h2.mono (out_lt (Nat.le_trans hN hbase) fun g e => Nat.le_trans hN (ownP_ge h g e))) h1 h3 hm hn hbase hK

end Fl
end Go.Proofs.YtfihjgnafipblaaGreatDoor
