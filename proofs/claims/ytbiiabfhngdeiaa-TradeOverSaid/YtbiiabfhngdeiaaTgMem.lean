/-
  Words for memory, layer 15: a patch whose Deps and changes lie in blocks that S names; a row of patches of one's own that is written anew. No function of the program is walked here.
-/
import Derived.Test.YtbiiabfhngdeiaaGN
import Derived.Test.YtbiiabfhngdeiaaFlKeep
set_option maxRecDepth 100000
namespace Go.Proofs.Ytbiiabfhngdeiaa
open Go.RowKit
set_option linter.unusedVariables false
namespace Tg
open Tx Df Sq Hk Tr Pr Fl Pn

/-- Two slice values that read, in blocks that S names, as a patch's Deps and changes. -/
structure NG (w : World) (S : Nat → Prop) (D : Option Addr) (dn dc : Nat) (A : Option Addr) (n c : Nat) (p : Nm) : Prop where
  dl : p.deps.length = dn
  dk : dn ≤ dc
  dm : dn ≤ maxLen
  dr : RdG w S D (idsV p.deps)
  tm : p.txt.length ≤ maxLen
  l : p.l.length = n
  k : n ≤ c
  m : n ≤ maxLen
  r : RdP w S A p.l
section
variable {W W' : World} {S T : Nat → Prop} {D A : Option Addr} {dn dc n c B base : Nat} {p : Nm} {l : List Ch} {xs : List Value}
theorem PrAt.kc {a : Addr} {k : Nat} {x : Ch} (h : PrAt W S a k x) (hS : S a.block) (hk : KeepC S W W') : PrAt W' S a k x := by
  obtain ⟨c0, c1, c2, c3, A, n, c, B, m, d, c4, c5, c6⟩ := h
  have hb : S (a.add (k * 6)).block := by rw [add_block]; exact hS
  exact ⟨hk.cell hb c0, hk.cell hb c1, hk.cell hb c2, hk.cell hb c3, A, n, c, B, m, d, hk.cell hb c4, hk.cell hb c5, c6.kc hk⟩
theorem RdP.kc_ (h : RdP W S A l) (hk : KeepC S W W') : RdP W' S A l := h.imp id fun ⟨a, e, h1, h2⟩ => ⟨a, e, h1, fun k x hx => PrAt.kc (h2 k x hx) h1 hk⟩
theorem NG.mono (h : NG W S D dn dc A n c p) (hs : ∀ b, S b → T b) : NG W T D dn dc A n c p := ⟨h.dl, h.dk, h.dm, h.dr.mono hs, h.tm, h.l, h.k, h.m, h.r.mono hs⟩
theorem NG.to_ (h : NG W S D dn dc A n c p) (ha : Fl.Alike S W W') : NG W' S D dn dc A n c p := ⟨h.dl, h.dk, h.dm, h.dr.to ha, h.tm, h.l, h.k, h.m, h.r.to ha⟩
theorem NG.kc (h : NG W S D dn dc A n c p) (hk : KeepC S W W') : NG W' S D dn dc A n c p := ⟨h.dl, h.dk, h.dm, h.dr.kc hk, h.tm, h.l, h.k, h.m, RdP.kc_ h.r hk⟩
theorem NG.nv (h : NG W (· < B) D dn dc A n c p) : NV W B D dn dc A n c p := ⟨h.dl, h.dk, h.dm, h.dr, h.tm, h.l, h.k, h.m, h.r⟩
theorem ng_of (h : NV W B D dn dc A n c p) : NG W (· < B) D dn dc A n c p := ⟨h.dl, h.dk, h.dm, h.dr, h.tm, h.l, h.k, h.m, h.r⟩
/-- Other changes in the place of a patch's. -/
theorem NG.with_ {A' : Option Addr} {n' c' : Nat} {l' : List Ch} (h : NG W S D dn dc A n c p) (hl : l'.length = n') (hk : n' ≤ c') (hm : n' ≤ maxLen) (hr : RdP W S A' l') : NG W S D dn dc A' n' c' ⟨p.id, p.deps, p.txt, l'⟩ := ⟨h.dl, h.dk, h.dm, h.dr, h.tm, hl, hk, hm, hr⟩
end

/-- The blocks made behind w. -/
def Since (w W : World) : Nat → Prop := fun b => w.heap.size ≤ b ∧ b < W.heap.size
theorem since_up {w W W' : World} (hs : W.heap.size ≤ W'.heap.size) : ∀ b, Since w W b → Since w W' b := fun b h => ⟨h.1, Nat.lt_of_lt_of_le h.2 hs⟩
theorem since_lt {w W : World} : ∀ b, Since w W b → b < W.heap.size := fun b h => h.2

/-- The cells of patches, as far as they go; what they hold lies in blocks that S names. -/
def NCellsS (W : World) (S : Nat → Prop) (l : List Nm) (xs : List Value) : Prop :=
  ∀ (k : Nat) x, l[k]? = some x → ∃ D dn dc A n c, xs[k * 5]? = some (.int .i64 x.id.1) ∧ xs[k * 5 + 1]? = some (.int .i64 x.id.2) ∧ xs[k * 5 + 2]? = some (.slice D dn dc) ∧ xs[k * 5 + 3]? = some (strV x.txt) ∧ xs[k * 5 + 4]? = some (.slice A n c) ∧ NG W S D dn dc A n c x
section
variable {W W' : World} {S T : Nat → Prop} {N base : Nat} {v : Value} {l u : List Nm} {xs ys : List Value}
theorem NCellsS.mono (h : NCellsS W S l xs) (hs : ∀ b, S b → T b) : NCellsS W T l xs := fun k x hx => by
  obtain ⟨D, dn, dc, A, n, c, h0, h1, h2, h3, h4, h5⟩ := h k x hx
  exact ⟨D, dn, dc, A, n, c, h0, h1, h2, h3, h4, h5.mono hs⟩
theorem NCellsS.to (h : NCellsS W S l xs) (ha : Fl.Alike S W W') : NCellsS W' S l xs := fun k x hx => by
  obtain ⟨D, dn, dc, A, n, c, h0, h1, h2, h3, h4, h5⟩ := h k x hx
  exact ⟨D, dn, dc, A, n, c, h0, h1, h2, h3, h4, h5.to_ ha⟩
theorem NCellsS.kc (h : NCellsS W S l xs) (hk : KeepC S W W') : NCellsS W' S l xs := fun k x hx => by
  obtain ⟨D, dn, dc, A, n, c, h0, h1, h2, h3, h4, h5⟩ := h k x hx
  exact ⟨D, dn, dc, A, n, c, h0, h1, h2, h3, h4, h5.kc hk⟩
theorem nCellsS_of (h : NCells W N l xs) : NCellsS W (· < N) l xs := fun k x hx => by
  obtain ⟨D, dn, dc, A, n, c, h0, h1, h2, h3, h4, h5⟩ := h k x hx
  exact ⟨D, dn, dc, A, n, c, h0, h1, h2, h3, h4, ng_of h5⟩
theorem NCellsS.cells (h : NCellsS W (· < N) l xs) : NCells W N l xs := fun k x hx => by
  obtain ⟨D, dn, dc, A, n, c, h0, h1, h2, h3, h4, h5⟩ := h k x hx
  exact ⟨D, dn, dc, A, n, c, h0, h1, h2, h3, h4, h5.nv⟩

/-- Patches in a row of one's own; what they hold lies in blocks that S names. -/
def OwnT (W : World) (S : Nat → Prop) (base : Nat) (v : Value) (l : List Nm) : Prop := ∃ xs, W.ownsRow base 28 5 v l.length xs ∧ NCellsS W S l xs
theorem ownT_of (h : OwnM W N base v l) : OwnT W (· < N) base v l := by
  obtain ⟨xs, h1, h2⟩ := h
  exact ⟨xs, h1, nCellsS_of h2⟩
theorem OwnT.own (h : OwnT W (· < N) base v l) : OwnM W N base v l := by
  obtain ⟨xs, h1, h2⟩ := h
  exact ⟨xs, h1, h2.cells⟩
theorem OwnT.mono (h : OwnT W S base v l) (hs : ∀ b, S b → T b) : OwnT W T base v l := by
  obtain ⟨xs, h1, h2⟩ := h
  exact ⟨xs, h1, h2.mono hs⟩
theorem OwnT.below (h : OwnT W S base v l) (hb : Below W.heap.size W W') : OwnT W' S base v l := by
  obtain ⟨xs, h1, h2⟩ := h
  exact ⟨xs, own_gr h1 (below_gr_row hb), h2.to (fun b _ hl => hb.block b hl)⟩
theorem OwnT.set (h : OwnT W S base v l) {b : Nat} (hb : some b ≠ v.ownBlock) (hN : ¬ S b) (j : Nat) (x : Value) : OwnT (W.setCell ⟨b, j, none⟩ x) S base v l := by
  obtain ⟨xs, h1, h2⟩ := h
  refine ⟨xs, h1.kept (grownBy_set W b j x) ?_, h2.to ((alike_set W b j x).mono fun k hk e => hN (e ▸ hk))⟩
  rcases h1.2 with ⟨rfl, _⟩ | ⟨g, cap, cur, rfl, _⟩
  · exact .inl rfl
  · exact .inr fun e => hb e.symm
theorem OwnT.set5 (h : OwnT W S base v l) {b : Nat} (hb : some b ≠ v.ownBlock) (hN : ¬ S b) (v0 v1 v2 v3 v4 : Value) :
    OwnT (((((W.setCell ⟨b, 0, none⟩ v0).setCell ⟨b, 1, none⟩ v1).setCell ⟨b, 2, none⟩ v2).setCell ⟨b, 3, none⟩ v3).setCell ⟨b, 4, none⟩ v4) S base v l :=
  ((((h.set hb hN 0 v0).set hb hN 1 v1).set hb hN 2 v2).set hb hN 3 v3).set hb hN 4 v4
theorem OwnT.plain {row : Option Nat} (h : OwnT W S base v l) (hg : W.grownBy W' row) (hr : ∀ r, row = some r → ∃ o : Obj, W.heap[r]? = some o ∧ o.isCells = false) : OwnT W' S base v l := by
  obtain ⟨xs, h1, h2⟩ := h
  refine ⟨xs, h1.kept hg ?_, h2.kc (keepC_plain hg hr)⟩
  rcases h1.2 with ⟨rfl, _⟩ | ⟨g, cap, cur, rfl, _, hgb, _⟩
  · exact .inl rfl
  · refine .inr fun e' => ?_
    obtain ⟨o, ho, hf⟩ := hr g (by simpa [Value.ownBlock] using e'.symm)
    rw [hgb] at ho; cases ho; cases hf
theorem ownT_ge (h : OwnT W S base v l) : ∀ g, v.ownBlock = some g → base ≤ g := fun g hg => (h.elim fun xs h => own_ge h.1 g hg)
theorem ownT_lt (h : OwnT W S base v l) : ∀ g, v.ownBlock = some g → g < W.heap.size := fun g hg => by
  obtain ⟨xs, hr, hF⟩ := h
  rcases hr.2 with ⟨rfl, _⟩ | ⟨g', cap, cur, rfl, hbg, hg', hc, _⟩
  · cases hg
  · injection hg with hg
    subst hg
    exact (Array.getElem?_eq_some_iff.1 hg').1
theorem ownT_slice (h : OwnT W S base v l) : ∃ A c, v = .slice A l.length c ∧ l.length ≤ c := by
  obtain ⟨xs, hr, hF⟩ := h
  rcases hr.2 with ⟨rfl, h1⟩ | ⟨g, cap, cur, rfl, hbg, hg, hc, _⟩
  · exact ⟨none, 0, by rw [h1], by rw [h1]; exact Nat.le_refl _⟩
  · exact ⟨_, cap, rfl, hc⟩
theorem ownT_addr (h : OwnT W S base v l) (h0 : 0 < l.length) : ∃ g cap, v = .slice (some ⟨g, 0, none⟩) l.length cap ∧ base ≤ g ∧ g < W.heap.size := by
  obtain ⟨xs, hr, hF⟩ := h
  rcases hr.2 with ⟨rfl, h1⟩ | ⟨g, cap, cur, rfl, hbg, hg, hc, _⟩
  · omega
  · exact ⟨g, cap, rfl, hbg, (Array.getElem?_eq_some_iff.1 hg).1⟩
/-- A row of patches of one's own is read as patches. -/
theorem rdN_ownT (h : OwnT W S base v l) (hS : ∀ b, S b → b < W.heap.size) : ∃ A c, v = .slice A l.length c ∧ l.length ≤ c ∧ RdN W W.heap.size A l := rdN_own (h.mono hS).own (Nat.le_refl _)

/-- One of a row's patches. -/
theorem OwnT.elem {g n cap k : Nat} {x : Nm} (h : OwnT W S base (.slice (some ⟨g, 0, none⟩) n cap) l) (hn : l.length = n) (hx : l[k]? = some x) :
    ∃ D dn dc A m c, W.cell? ⟨g, k * 5, none⟩ = some (.int .i64 x.id.1) ∧ W.cell? ⟨g, k * 5 + 1, none⟩ = some (.int .i64 x.id.2) ∧ W.cell? ⟨g, k * 5 + 2, none⟩ = some (.slice D dn dc) ∧ W.cell? ⟨g, k * 5 + 3, none⟩ = some (strV x.txt) ∧ W.cell? ⟨g, k * 5 + 4, none⟩ = some (.slice A m c) ∧
      (∀ j, W.frozen? ⟨g, j, none⟩ = false) ∧ NG W S D dn dc A m c x := by
  subst hn
  obtain ⟨xs, hr, hF⟩ := h
  obtain ⟨D, dn, dc, A, m, c, h0, h1, h2, h3, h4, h5⟩ := hF k x hx
  have hk : k < l.length := (List.getElem?_eq_some_iff.1 hx).1
  exact ⟨D, dn, dc, A, m, c, by rw [hr.cellAt (k * 5) (by omega)]; exact h0, by rw [hr.cellAt (k * 5 + 1) (by omega)]; exact h1, by rw [hr.cellAt (k * 5 + 2) (by omega)]; exact h2, by rw [hr.cellAt (k * 5 + 3) (by omega)]; exact h3, by rw [hr.cellAt (k * 5 + 4) (by omega)]; exact h4, fun j => hr.frozenAt _, h5⟩

theorem NCellsS.set {k : Nat} {D A : Option Addr} {dn dc n c : Nat} {y : Nm} (h : NCellsS W S l xs) (hl : xs.length = l.length * 5) (hy : NG W S D dn dc A n c y) :
    NCellsS W S (l.set k y) (((((xs.set (k * 5) (.int .i64 y.id.1)).set (k * 5 + 1) (.int .i64 y.id.2)).set (k * 5 + 2) (.slice D dn dc)).set (k * 5 + 3) (strV y.txt)).set (k * 5 + 4) (.slice A n c)) := fun p x hx => by
  by_cases hp : p = k
  · subst hp
    have hk : p < l.length := by
      have := (List.getElem?_eq_some_iff.1 hx).1
      simpa using this
    rw [List.getElem?_set_self hk] at hx
    injection hx with hx
    subst hx
    refine ⟨D, dn, dc, A, n, c, ?_, ?_, ?_, ?_, ?_, hy⟩
    · rw [List.getElem?_set_ne (by omega), List.getElem?_set_ne (by omega), List.getElem?_set_ne (by omega), List.getElem?_set_ne (by omega), List.getElem?_set_self (by omega)]
    · rw [List.getElem?_set_ne (by omega), List.getElem?_set_ne (by omega), List.getElem?_set_ne (by omega), List.getElem?_set_self (by simp; omega)]
    · rw [List.getElem?_set_ne (by omega), List.getElem?_set_ne (by omega), List.getElem?_set_self (by simp; omega)]
    · rw [List.getElem?_set_ne (by omega), List.getElem?_set_self (by simp; omega)]
    · rw [List.getElem?_set_self (by simp; omega)]
  · rw [List.getElem?_set_ne (fun e => hp e.symm)] at hx
    obtain ⟨D', dn', dc', A', n', c', h0, h1, h2, h3, h4, h5⟩ := h p x hx
    have ne : ∀ a b, a < 5 → b < 5 → k * 5 + a ≠ p * 5 + b := fun a b ha hb => by omega
    have n0 : ∀ b, b < 5 → k * 5 ≠ p * 5 + b := fun b hb => by omega
    have key : ∀ b, b < 5 → (((((xs.set (k * 5) (.int .i64 y.id.1)).set (k * 5 + 1) (.int .i64 y.id.2)).set (k * 5 + 2) (.slice D dn dc)).set (k * 5 + 3) (strV y.txt)).set (k * 5 + 4) (.slice A n c))[p * 5 + b]? = xs[p * 5 + b]? := fun b hb => by
      rw [List.getElem?_set_ne (ne 4 b (by decide) hb), List.getElem?_set_ne (ne 3 b (by decide) hb), List.getElem?_set_ne (ne 2 b (by decide) hb), List.getElem?_set_ne (ne 1 b (by decide) hb), List.getElem?_set_ne (n0 b hb)]
    exact ⟨D', dn', dc', A', n', c', (key 0 (by decide)).trans h0, (key 1 (by decide)).trans h1, (key 2 (by decide)).trans h2, (key 3 (by decide)).trans h3, (key 4 (by decide)).trans h4, h5⟩

/-- One of a row's patches stored anew. -/
theorem OwnT.store {g n cap k : Nat} {D A : Option Addr} {dn dc m c : Nat} {y : Nm} (h : OwnT W S base (.slice (some ⟨g, 0, none⟩) n cap) l) (hn : l.length = n) (hN : ¬ S g) (hy : NG W S D dn dc A m c y) :
    OwnT (((((W.setCell ⟨g, k * 5, none⟩ (.int .i64 y.id.1)).setCell ⟨g, k * 5 + 1, none⟩ (.int .i64 y.id.2)).setCell ⟨g, k * 5 + 2, none⟩ (.slice D dn dc)).setCell ⟨g, k * 5 + 3, none⟩ (strV y.txt)).setCell ⟨g, k * 5 + 4, none⟩ (.slice A m c)) S base (.slice (some ⟨g, 0, none⟩) n cap) (l.set k y) := by
  subst hn
  obtain ⟨xs, hr, hF⟩ := h
  obtain ⟨h0, _⟩ := hr.stored (k * 5) (.int .i64 y.id.1)
  obtain ⟨h1, _⟩ := h0.stored (k * 5 + 1) (.int .i64 y.id.2)
  obtain ⟨h2, _⟩ := h1.stored (k * 5 + 2) (.slice D dn dc)
  obtain ⟨h3, _⟩ := h2.stored (k * 5 + 3) (strV y.txt)
  obtain ⟨h4, _⟩ := h3.stored (k * 5 + 4) (.slice A m c)
  refine ⟨_, by rw [List.length_set]; exact h4, ?_⟩
  have al : ∀ (X : World) (p : Nat) (v : Value), Fl.Alike S X (X.setCell ⟨g, p, none⟩ v) := fun X p v => (alike_set X g p v).mono fun b hb e => hN (e ▸ hb)
  exact (((((hF.set hr.1 hy).to (al _ _ _)).to (al _ _ _)).to (al _ _ _)).to (al _ _ _)).to (al _ _ _)
end

/-! Five cells set: of a block of its own, of one of a row. -/
section
variable {X w : World} {B b g : Nat} {t : TypeId} {cs : Array Value} {r : Option Nat}
theorem below_set5 (h : Below B w X) (hb : B ≤ b) (v0 v1 v2 v3 v4 : Value) : Below B w (((((X.setCell ⟨b, 0, none⟩ v0).setCell ⟨b, 1, none⟩ v1).setCell ⟨b, 2, none⟩ v2).setCell ⟨b, 3, none⟩ v3).setCell ⟨b, 4, none⟩ v4) :=
  ((((h.setCell (p := ⟨b, 0, none⟩) hb v0).setCell (p := ⟨b, 1, none⟩) hb v1).setCell (p := ⟨b, 2, none⟩) hb v2).setCell (p := ⟨b, 3, none⟩) hb v3).setCell (p := ⟨b, 4, none⟩) hb v4
theorem below_row5 (h : Below B w X) (hb : B ≤ g) (k : Nat) (v0 v1 v2 v3 v4 : Value) : Below B w (((((X.setCell ⟨g, k * 5, none⟩ v0).setCell ⟨g, k * 5 + 1, none⟩ v1).setCell ⟨g, k * 5 + 2, none⟩ v2).setCell ⟨g, k * 5 + 3, none⟩ v3).setCell ⟨g, k * 5 + 4, none⟩ v4) :=
  ((((h.setCell (p := ⟨g, k * 5, none⟩) hb v0).setCell (p := ⟨g, k * 5 + 1, none⟩) hb v1).setCell (p := ⟨g, k * 5 + 2, none⟩) hb v2).setCell (p := ⟨g, k * 5 + 3, none⟩) hb v3).setCell (p := ⟨g, k * 5 + 4, none⟩) hb v4
theorem blk_row5 (h : Blk X b t cs) (hne : b ≠ g) (k : Nat) (v0 v1 v2 v3 v4 : Value) : Blk (((((X.setCell ⟨g, k * 5, none⟩ v0).setCell ⟨g, k * 5 + 1, none⟩ v1).setCell ⟨g, k * 5 + 2, none⟩ v2).setCell ⟨g, k * 5 + 3, none⟩ v3).setCell ⟨g, k * 5 + 4, none⟩ v4) b t cs :=
  ((((h.set_ne hne (k * 5) v0).set_ne hne (k * 5 + 1) v1).set_ne hne (k * 5 + 2) v2).set_ne hne (k * 5 + 3) v3).set_ne hne (k * 5 + 4) v4
theorem blk_set5 (h : Blk X b t cs) (hne : b ≠ g) (v0 v1 v2 v3 v4 : Value) : Blk (((((X.setCell ⟨g, 0, none⟩ v0).setCell ⟨g, 1, none⟩ v1).setCell ⟨g, 2, none⟩ v2).setCell ⟨g, 3, none⟩ v3).setCell ⟨g, 4, none⟩ v4) b t cs :=
  ((((h.set_ne hne 0 v0).set_ne hne 1 v1).set_ne hne 2 v2).set_ne hne 3 v3).set_ne hne 4 v4
theorem blk5 {u0 u1 u2 u3 u4 : Value} (h : Blk X b t #[u0, u1, u2, u3, u4]) (v0 v1 v2 v3 v4 : Value) : Blk (((((X.setCell ⟨b, 0, none⟩ v0).setCell ⟨b, 1, none⟩ v1).setCell ⟨b, 2, none⟩ v2).setCell ⟨b, 3, none⟩ v3).setCell ⟨b, 4, none⟩ v4) b t #[v0, v1, v2, v3, v4] := by
  have h0 : Blk (X.setCell ⟨b, 0, none⟩ v0) b t #[v0, u1, u2, u3, u4] := h.set 0 v0
  have h1 : Blk ((X.setCell ⟨b, 0, none⟩ v0).setCell ⟨b, 1, none⟩ v1) b t #[v0, v1, u2, u3, u4] := h0.set 1 v1
  have h2 : Blk (((X.setCell ⟨b, 0, none⟩ v0).setCell ⟨b, 1, none⟩ v1).setCell ⟨b, 2, none⟩ v2) b t #[v0, v1, v2, u3, u4] := h1.set 2 v2
  have h3 : Blk ((((X.setCell ⟨b, 0, none⟩ v0).setCell ⟨b, 1, none⟩ v1).setCell ⟨b, 2, none⟩ v2).setCell ⟨b, 3, none⟩ v3) b t #[v0, v1, v2, v3, u4] := h2.set 3 v3
  exact h3.set 4 v4
theorem alike_row5 (X : World) (g k : Nat) (v0 v1 v2 v3 v4 : Value) : Fl.Alike (· ≠ g) X (((((X.setCell ⟨g, k * 5, none⟩ v0).setCell ⟨g, k * 5 + 1, none⟩ v1).setCell ⟨g, k * 5 + 2, none⟩ v2).setCell ⟨g, k * 5 + 3, none⟩ v3).setCell ⟨g, k * 5 + 4, none⟩ v4) := fun i h hl => by
  have al : ∀ (X : World) (j : Nat) (v : Value), i < X.heap.size → (X.setCell ⟨g, j, none⟩ v).heap[i]? = X.heap[i]? := fun X j v hx => alike_set X g j v i h hx
  rw [al _ _ _ (by simp; exact hl), al _ _ _ (by simp; exact hl), al _ _ _ (by simp; exact hl), al _ _ _ (by simp; exact hl), al _ _ _ hl]
theorem alike_set5 (X : World) (g : Nat) (v0 v1 v2 v3 v4 : Value) : Fl.Alike (· ≠ g) X (((((X.setCell ⟨g, 0, none⟩ v0).setCell ⟨g, 1, none⟩ v1).setCell ⟨g, 2, none⟩ v2).setCell ⟨g, 3, none⟩ v3).setCell ⟨g, 4, none⟩ v4) := fun i h hl => by
  have al : ∀ (X : World) (j : Nat) (v : Value), i < X.heap.size → (X.setCell ⟨g, j, none⟩ v).heap[i]? = X.heap[i]? := fun X j v hx => alike_set X g j v i h hx
  rw [al _ _ _ (by simp; exact hl), al _ _ _ (by simp; exact hl), al _ _ _ (by simp; exact hl), al _ _ _ (by simp; exact hl), al _ _ _ hl]
end

/-- The cells of a patch. -/
abbrev nmC (x : Nm) (D : Option Addr) (dn dc : Nat) (A : Option Addr) (n c : Nat) : Array Value := #[.int .i64 x.id.1, .int .i64 x.id.2, .slice D dn dc, strV x.txt, .slice A n c]
/-- A patch that has nothing. -/
def noN : Nm := ⟨(0, 0), [], [], []⟩
theorem ng_no (W : World) (S : Nat → Prop) : NG W S none 0 0 none 0 0 noN := ⟨rfl, Nat.le_refl _, by decide, .inl rfl, by decide, rfl, Nat.le_refl _, by decide, .inl rfl⟩

/-- The cells of m patches can be read. -/
def Cells5 (W : World) (A : Option Addr) (m : Nat) : Prop := ∀ i, i < m → ∃ a v0 v1 v2 v3 v4, A = some a ∧ W.cell? (a.add (i * 5)) = some v0 ∧ W.cell? ⟨(a.add (i * 5)).block, (a.add (i * 5)).off + 1, none⟩ = some v1 ∧ W.cell? ⟨(a.add (i * 5)).block, (a.add (i * 5)).off + 2, none⟩ = some v2 ∧
  W.cell? ⟨(a.add (i * 5)).block, (a.add (i * 5)).off + 3, none⟩ = some v3 ∧ W.cell? ⟨(a.add (i * 5)).block, (a.add (i * 5)).off + 4, none⟩ = some v4
theorem Cells5.kc {W W' : World} {A : Option Addr} {m : Nat} (h : Cells5 W A m) (hk : KeepC (fun _ => True) W W') : Cells5 W' A m := fun i hi => by
  obtain ⟨a, v0, v1, v2, v3, v4, e, h0, h1, h2, h3, h4⟩ := h i hi
  exact ⟨a, v0, v1, v2, v3, v4, e, hk.cell trivial h0, hk.cell trivial h1, hk.cell trivial h2, hk.cell trivial h3, hk.cell trivial h4⟩
theorem cells5_below {W W' : World} {A : Option Addr} {m : Nat} (h : Cells5 W A m) (hb : Below W.heap.size W W') : Cells5 W' A m := h.kc (keepC_below hb)
theorem cells5_rd {W : World} {B : Nat} {A : Option Addr} {l : List Nm} {m : Nat} (h : RdN W B A l) (hm : l.length = m) : Cells5 W A m := fun i hi => by
  obtain ⟨a, x, D, dn, dc, E, n, c, e, _, _, c0, c1, c2, c3, c4, _⟩ := h.elem (k := i) (by omega)
  exact ⟨a, _, _, _, _, _, e, c0, c1, c2, c3, c4⟩

end Tg
end Go.Proofs.Ytbiiabfhngdeiaa
