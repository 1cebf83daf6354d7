/-
  What package flow's own returns (walk): the same changes, in a row of one's own, with lines of their own.
-/
import Derived.Test.YtjhjmfodpnipiaaGreatFlLeaf
import Derived.Test.YtjhjmfodpnipiaaGreatGF
import Derived.Test.YtjhjmfodpnipiaaGreatFlKeep
set_option maxRecDepth 100000
namespace Go.Proofs.YtjhjmfodpnipiaaGreat
open Go.RowKit
set_option linter.unusedVariables false
set_option linter.unusedSimpArgs false
namespace Fl
open Tx Df Sq Hk Tr Pr

/-- The cells of one change within a row's. -/
def CellsAt (W : World) (S : Nat → Prop) (xs : List Value) (k : Nat) (x : Ch) : Prop :=
  ∃ A n c B m d, xs[k * 6]? = some (.int .i64 x.k) ∧ xs[k * 6 + 1]? = some (strV x.nm) ∧ xs[k * 6 + 2]? = some (strV x.to) ∧ xs[k * 6 + 3]? = some (.int .i64 x.h.pos) ∧ xs[k * 6 + 4]? = some (.slice A n c) ∧ xs[k * 6 + 5]? = some (.slice B m d) ∧ PG W S A n c B m d x
section
variable {W : World} {S T : Nat → Prop} {xs : List Value} {k p : Nat} {x y : Ch}
theorem cellsAt_set (h : CellsAt W S xs p y) (hp : p ≠ k) (u u' : Value) : CellsAt W S ((xs.set (k * 6 + 4) u).set (k * 6 + 5) u') p y := by
  obtain ⟨A, n, c, B, m, d, h0, h1, h2, h3, h4, h5, h6⟩ := h
  have key : ∀ b, b < 6 → ((xs.set (k * 6 + 4) u).set (k * 6 + 5) u')[p * 6 + b]? = xs[p * 6 + b]? := fun b hb => by
    rw [List.getElem?_set_ne (by omega), List.getElem?_set_ne (by omega)]
  exact ⟨A, n, c, B, m, d, (key 0 (by decide)).trans h0, (key 1 (by decide)).trans h1, (key 2 (by decide)).trans h2, (key 3 (by decide)).trans h3, (key 4 (by decide)).trans h4, (key 5 (by decide)).trans h5, h6⟩
theorem cellsAt_new {A B : Option Addr} {n c m d : Nat} (h : CellsAt W T xs k x) (hl : k * 6 + 5 < xs.length) (hy : PG W S A n c B m d x) : CellsAt W S ((xs.set (k * 6 + 4) (.slice A n c)).set (k * 6 + 5) (.slice B m d)) k x := by
  obtain ⟨_, _, _, _, _, _, h0, h1, h2, h3, _, _, _⟩ := h
  refine ⟨A, n, c, B, m, d, ?_, ?_, ?_, ?_, ?_, ?_, hy⟩
  · rw [List.getElem?_set_ne (by omega), List.getElem?_set_ne (by omega)]; exact h0
  · rw [List.getElem?_set_ne (by omega), List.getElem?_set_ne (by omega)]; exact h1
  · rw [List.getElem?_set_ne (by omega), List.getElem?_set_ne (by omega)]; exact h2
  · rw [List.getElem?_set_ne (by omega), List.getElem?_set_ne (by omega)]; exact h3
  · rw [List.getElem?_set_ne (by omega), List.getElem?_set_self (by omega)]
  · rw [List.getElem?_set_self (by rw [List.length_set]; exact hl)]
end

/-- Blocks made behind w that are not the row. -/
def Fresh (w W : World) (row : Option Nat) : Nat → Prop := fun b => w.heap.size ≤ b ∧ b < W.heap.size ∧ some b ≠ row
theorem fresh_up {w W W' : World} {row : Option Nat} (hs : W.heap.size ≤ W'.heap.size) : ∀ b, Fresh w W row b → Fresh w W' row b := fun b h => ⟨h.1, Nat.lt_of_lt_of_le h.2.1 hs, h.2.2⟩
theorem fresh_out {w W : World} {row : Option Nat} : ∀ b, Fresh w W row b → Out W row b := fun b h => ⟨h.2.1, h.2.2⟩

/-- A row of changes, the first k of them with lines of their own. -/
def OwnK (w W : World) (v : Value) (l : List Ch) (k : Nat) : Prop := ∃ xs, W.ownsRow w.heap.size 42 6 v l.length xs ∧ PCells W (Fresh w W v.ownBlock) (l.take k) xs ∧ PCells W (Out W v.ownBlock) l xs
section
variable {w W W' : World} {v : Value} {l : List Ch} {k : Nat}
theorem ownK_start (h : OwnP W w.heap.size v l) : OwnK w W v l 0 := by
  obtain ⟨xs, h1, h2⟩ := h
  exact ⟨xs, h1, by rw [List.take_zero]; exact PCells.nil _ _ _, h2⟩
theorem OwnK.own (h : OwnK w W v l k) : OwnP W w.heap.size v l := by
  obtain ⟨xs, h1, h2, h3⟩ := h
  exact ⟨xs, h1, h3⟩
theorem OwnK.done (h : OwnK w W v l k) (hk : l.length ≤ k) : OwnS W (Fresh w W v.ownBlock) w.heap.size v l := by
  obtain ⟨xs, h1, h2, h3⟩ := h
  rw [List.take_of_length_le hk] at h2
  exact ⟨xs, h1, h2⟩
theorem OwnK.below (h : OwnK w W v l k) (hb : Below W.heap.size W W') : OwnK w W' v l k := by
  obtain ⟨xs, h1, h2, h3⟩ := h
  exact ⟨xs, own_gr h1 (below_gr_row hb), (h2.to (fun b _ hl => hb.block b hl)).mono (fresh_up hb.size), (h3.to (fun b _ hl => hb.block b hl)).mono (out_up hb.size)⟩
theorem OwnK.step {g n cap : Nat} {x : Ch} {D D' : Option Addr} {m d m' d' : Nat} (h : OwnK w W (.slice (some ⟨g, 0, none⟩) n cap) l k) (hx : l[k]? = some x) (hy : PG W (Fresh w W (some g)) D m d D' m' d' x) :
    OwnK w ((W.setCell ⟨g, k * 6 + 4, none⟩ (.slice D m d)).setCell ⟨g, k * 6 + 5, none⟩ (.slice D' m' d')) (.slice (some ⟨g, 0, none⟩) n cap) l (k + 1) := by
  obtain ⟨xs, hr, h2, h3⟩ := h
  have hn : l.length = n := by
    rcases hr.2 with ⟨h0, _⟩ | ⟨g', cap', cur, h0, _⟩
    · cases h0
    · injection h0 with _ h0; exact h0.symm
  subst hn
  have hk : k < l.length := (List.getElem?_eq_some_iff.1 hx).1
  have hxl := hr.1
  obtain ⟨r1, g1⟩ := hr.stored (k * 6 + 4) (.slice D m d)
  obtain ⟨r2, g2⟩ := r1.stored (k * 6 + 5) (.slice D' m' d')
  have al : ∀ (S : Nat → Prop), (∀ b, S b → b ≠ g) → Alike S W ((W.setCell ⟨g, k * 6 + 4, none⟩ (.slice D m d)).setCell ⟨g, k * 6 + 5, none⟩ (.slice D' m' d')) := fun S hS b hb hl =>
    (alike_set _ g _ _ b (hS b hb) (by simp; exact hl)).trans (alike_set W g _ _ b (hS b hb) hl)
  have sz : W.heap.size ≤ ((W.setCell ⟨g, k * 6 + 4, none⟩ (.slice D m d)).setCell ⟨g, k * 6 + 5, none⟩ (.slice D' m' d')).heap.size := by simp
  have c0 : CellsAt W (Out W (some g)) xs k x := h3 k x hx
  refine ⟨_, r2, ?_, ?_⟩
  · refine (PCells.to (W := W) (S := Fresh w W (some g)) ?_ (al _ fun b hb e => hb.2.2 (by rw [e]))).mono (fresh_up sz)
    intro p y hy'
    rw [List.getElem?_take] at hy'
    by_cases e : p = k
    · subst e
      rw [if_pos (by omega)] at hy'
      rw [hx] at hy'
      injection hy' with hy'
      subst hy'
      exact cellsAt_new c0 (by omega) hy
    · have hp : p < k := by
        by_cases hp : p < k + 1
        · omega
        · rw [if_neg hp] at hy'; cases hy'
      rw [if_pos (by omega)] at hy'
      exact cellsAt_set (h2 p y (by rw [List.getElem?_take, if_pos hp]; exact hy')) e _ _
  · refine (PCells.to (W := W) (S := Out W (some g)) ?_ (al _ fun b hb e => hb.2 (by rw [e]))).mono (out_up sz)
    intro p y hy'
    by_cases e : p = k
    · subst e
      rw [hx] at hy'
      injection hy' with hy'
      subst hy'
      exact cellsAt_new c0 (by omega) (hy.mono fresh_out)
    · exact cellsAt_set (h3 p y hy') e _ _
end

/-- How own ends. -/
def MineEnd (w : World) (n : Nat) (l : List Ch) (e : Ending) (w' : World) : Prop :=
  ∃ A c, e = .returned (.slice A n c) ∧ n ≤ c ∧ OwnS w' (Fresh w w' (Value.slice A n c).ownBlock) w.heap.size (.slice A n c) l ∧ Below w.heap.size w w'

theorem two_keep {W : World} {b g i j : Nat} {t : TypeId} {cs : Array Value} (h : Blk W b t cs) (hne : b ≠ g) (u u' : Value) : Blk ((W.setCell ⟨g, i, none⟩ u).setCell ⟨g, j, none⟩ u') b t cs := (h.set_ne hne i u).set_ne hne j u'

end Fl
end Go.Proofs.YtjhjmfodpnipiaaGreat
