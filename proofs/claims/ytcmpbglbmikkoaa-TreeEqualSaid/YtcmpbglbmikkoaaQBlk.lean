/-
  Words for memory: a block of cells that is known whole (a struct's variable). No function of the program is walked here.
-/
import Derived.Test.YtcmpbglbmikkoaaQMem
import Derived.RangeFuncBox
namespace Go.Proofs.Ytcmpbglbmikkoaa
open Go.RowKit
set_option linter.unusedVariables false
namespace Tx

/-- The block b holds the cells cs, of type t. -/
def Blk (W : World) (b : Nat) (t : TypeId) (cs : Array Value) : Prop := W.heap[b]? = some (.cells cs t (0, 0))

section
variable {W W' : World} {b : Nat} {t : TypeId} {cs : Array Value}
theorem Blk.lt (h : Blk W b t cs) : b < W.heap.size := (Array.getElem?_eq_some_iff.1 h).1
theorem Blk.new (W : World) (t : TypeId) (cs : Array Value) : Blk (W.alloc (.cells cs t)) W.heap.size t cs := World.alloc_heap_new W _
theorem Blk.gr {row : Option Nat} (h : Blk W b t cs) (hg : W.grownBy W' row) (hne : some b ≠ row) : Blk W' b t cs := (hg.block b h.lt hne).trans h
theorem Blk.alloc (h : Blk W b t cs) (o : Obj) : Blk (W.alloc o) b t cs := h.gr (World.grownBy_alloc W o none) (by simp)
theorem Blk.below {B : Nat} (h : Blk W b t cs) (hb : Below B W W') (hlt : b < B) : Blk W' b t cs := (hb.block b hlt).trans h
theorem Blk.drewN (h : Blk W b t cs) (d : Nat) : Blk (W.drewN d) b t cs := h
theorem Blk.cell (h : Blk W b t cs) (j : Nat) {u : Value} (hu : cs[j]? = some u) : W.cell? ⟨b, j, none⟩ = some u := by
  simp [World.cell?, show W.heap[b]? = _ from h, hu]
theorem Blk.frozen (h : Blk W b t cs) (j : Nat) : W.frozen? ⟨b, j, none⟩ = false := by simp [World.frozen?, show W.heap[b]? = _ from h]
theorem Blk.set (h : Blk W b t cs) (j : Nat) (v : Value) : Blk (W.setCell ⟨b, j, none⟩ v) b t (cs.setIfInBounds j v) := by
  obtain ⟨hlt, hk⟩ := Array.getElem?_eq_some_iff.1 h
  show (W.heap.modify b _)[b]? = _
  rw [Array.getElem?_eq_getElem (by rw [Array.size_modify]; exact hlt), Array.getElem_modify_self, hk]
  rfl
theorem grownBy_set (W : World) (b j : Nat) (v : Value) : W.grownBy (W.setCell ⟨b, j, none⟩ v) (some b) :=
  ⟨rfl, rfl, rfl, (KeepsWalks.setCell W _ v).size, fun k _ hk => Below.heap_setCell _ _ _ k (fun e => hk (by rw [e]))⟩
theorem Blk.set_ne {b' : Nat} (h : Blk W b t cs) (hne : b ≠ b') (j : Nat) (v : Value) : Blk (W.setCell ⟨b', j, none⟩ v) b t cs := h.gr (grownBy_set W b' j v) (by simpa using hne)
end

/-- A row of one's own, and a store to an elder block. -/
theorem own_set {W : World} {base e size n b : Nat} {v : Value} {xs : List Value} (h : W.ownsRow base e size v n xs) (hb : b < base) (j : Nat) (u : Value) : (W.setCell ⟨b, j, none⟩ u).ownsRow base e size v n xs :=
  h.kept (grownBy_set W b j u) (.inr fun e' => absurd (own_ge h b e') (by omega))
theorem own_gr {W W' : World} {base e size n : Nat} {v : Value} {xs : List Value} (h : W.ownsRow base e size v n xs) (hg : W.grownBy W' none) : W'.ownsRow base e size v n xs := h.kept hg (Classical.em _)
/-- A row of one's own is no block of another type. -/
theorem Blk.not_row {W : World} {b : Nat} {t e : TypeId} {cs : Array Value} (h : Blk W b t cs) (hte : t ≠ e) {base size k : Nat} {v : Value} {xs : List Value} (hr : W.ownsRow base e size v k xs) : some b ≠ v.ownBlock := by
  rcases hr.2 with ⟨rfl, _⟩ | ⟨g, cap, cur, rfl, _, hgb, _⟩
  · simp [Value.ownBlock]
  · intro e'
    obtain rfl : b = g := by simpa [Value.ownBlock] using e'
    have := (show W.heap[b]? = _ from h).symm.trans hgb
    simp at this
    exact hte this.2
theorem own_setT {W : World} {b base n size : Nat} {t e : TypeId} {v : Value} {cs : Array Value} {xs : List Value} (h : W.ownsRow base e size v n xs) (hb : Blk W b t cs) (ht : t ≠ e) (j : Nat) (u : Value) : (W.setCell ⟨b, j, none⟩ u).ownsRow base e size v n xs :=
  h.kept (grownBy_set W b j u) (.inr fun e' => hb.not_row ht h e'.symm)
theorem own_set3 {W : World} {b base n size : Nat} {t e : TypeId} {v : Value} {cs : Array Value} {xs : List Value} (h : W.ownsRow base e size v n xs) (hb : Blk W b t cs) (ht : t ≠ e) (v0 v1 v2 : Value) : (((W.setCell ⟨b, 0, none⟩ v0).setCell ⟨b, 1, none⟩ v1).setCell ⟨b, 2, none⟩ v2).ownsRow base e size v n xs :=
  own_setT (own_setT (own_setT h hb ht 0 v0) (hb.set 0 v0) ht 1 v1) ((hb.set 0 v0).set 1 v1) ht 2 v2
/-- What lies in another block lies there still. -/
theorem cell_gr {W w1 : World} {row : Option Nat} {p : Addr} {u : Value} (hg : W.grownBy w1 row) (hne : some p.block ≠ row) (hc : W.cell? p = some u) : w1.cell? p = some u :=
  (World.cell?_of_block (hg.block _ (World.block_lt_of_cell? W p hc) hne)).trans hc
theorem cell_set {W : World} {p : Addr} {b : Nat} {u : Value} (hc : W.cell? p = some u) (hne : p.block ≠ b) (j : Nat) (v : Value) : (W.setCell ⟨b, j, none⟩ v).cell? p = some u := cell_gr (grownBy_set W b j v) (fun e => hne (by injection e)) hc
theorem cell_set3 {W : World} {p : Addr} {b : Nat} {u : Value} (hc : W.cell? p = some u) (hne : p.block ≠ b) (v0 v1 v2 : Value) : (((W.setCell ⟨b, 0, none⟩ v0).setCell ⟨b, 1, none⟩ v1).setCell ⟨b, 2, none⟩ v2).cell? p = some u :=
  cell_set (cell_set (cell_set hc hne 0 v0) hne 1 v1) hne 2 v2
theorem gr_drewN {W W' : World} {row : Option Nat} (h : W.grownBy W' row) (d : Nat) : W.grownBy (W'.drewN d) row := ⟨h.os, h.tape, h.output, h.size, h.block⟩
theorem gr_of_drewN {W W' : World} {row : Option Nat} {d : Nat} (h : (W.drewN d).grownBy W' row) : W.grownBy W' row := ⟨h.os, h.tape, h.output, h.size, h.block⟩
theorem nn (b : Nat) : some b ≠ (none : Option Nat) := fun h => by cases h
theorem cell_alc {W : World} {p : Addr} {u : Value} (o : Obj) (hc : W.cell? p = some u) : (W.alloc o).cell? p = some u := cell_gr (World.grownBy_alloc W o none) (nn _) hc
theorem below_gr {W w1 : World} (hg : W.grownBy w1 none) : Below W.heap.size W w1 := (Below.refl _ W).grown hg (Nat.le_refl _) (fun k hk => by cases hk)

end Tx
end Go.Proofs.Ytcmpbglbmikkoaa
