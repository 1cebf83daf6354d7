/-
  Words for memory, layer 10: what stays where a block that is no row of cells is turned, and blocks but for some. No function of the program is walked here.
-/
import Derived.Test.YtbiiabfhngdeiaaGF
import Derived.Test.YtbiiabfhngdeiaaFlRef
import Derived.Test.YtbiiabfhngdeiaaQRange
set_option maxRecDepth 100000
namespace Go.Proofs.Ytbiiabfhngdeiaa
open Go.RowKit
set_option linter.unusedVariables false
namespace Fl
open Tx Df Sq Hk Tr Pr

/-- The blocks that there are, but for those of R. -/
def But (W : World) (R : Nat → Prop) : Nat → Prop := fun b => b < W.heap.size ∧ ¬ R b
theorem but_up {W W' : World} {R : Nat → Prop} (hs : W.heap.size ≤ W'.heap.size) : ∀ b, But W R b → But W' R b := fun b h => ⟨Nat.lt_of_lt_of_le h.1 hs, h.2⟩
theorem but_lt {W : World} {R : Nat → Prop} : ∀ b, But W R b → b < W.heap.size := fun b h => h.1
/-- Rows of cells in blocks that S names are as they were. -/
def KeepC (S : Nat → Prop) (W W' : World) : Prop := ∀ (b : Nat) (c : Array Value) (t : TypeId) (f : Nat × Nat), S b → W.heap[b]? = some (.cells c t f) → W'.heap[b]? = some (.cells c t f)
theorem cell_cells {W : World} {p : Addr} {u : Value} (h : W.cell? p = some u) : ∃ c t f, W.heap[p.block]? = some (.cells c t f) := by
  unfold World.cell? at h
  split at h
  · rename_i e; exact ⟨_, _, _, e⟩
  · cases h
section
variable {W W' : World} {S T : Nat → Prop} {A B : Option Addr} {xs : List Value} {n c m d base : Nat} {x : Ch} {l : List Ch} {v : Value} {row : Option Nat}
theorem KeepC.cell {p : Addr} {u : Value} (h : KeepC S W W') (hp : S p.block) (hc : W.cell? p = some u) : W'.cell? p = some u := by
  obtain ⟨c, t, f, e⟩ := cell_cells hc
  exact (World.cell?_of_block ((h _ c t f hp e).trans e.symm)).trans hc
theorem RdG.kc (h : RdG W S A xs) (hk : KeepC S W W') : RdG W' S A xs := h.imp id fun ⟨a, e, h1, h2⟩ => ⟨a, e, h1, fun j u hu => hk.cell (by rw [add_block]; exact h1) (h2 j u hu)⟩
theorem PG.kc (h : PG W S A n c B m d x) (hk : KeepC S W W') : PG W' S A n c B m d x := ⟨h.l, h.l', h.k, h.k', h.mm, h.mm', h.r.kc hk, h.r'.kc hk, h.pp, h.kk, h.nm, h.to, h.s, h.s'⟩
theorem PCells.kc (h : PCells W S l xs) (hk : KeepC S W W') : PCells W' S l xs := fun k x hx => by
  obtain ⟨A, n, c, B, m, d, h0, h1, h2, h3, h4, h5, h6⟩ := h k x hx
  exact ⟨A, n, c, B, m, d, h0, h1, h2, h3, h4, h5, h6.kc hk⟩
theorem keepC_plain (hg : W.grownBy W' row) (hr : ∀ r, row = some r → ∃ o : Obj, W.heap[r]? = some o ∧ o.isCells = false) : KeepC S W W' := fun b c t f _ hb => by
  refine (hg.block b (Array.getElem?_eq_some_iff.1 hb).1 fun e => ?_).trans hb
  obtain ⟨o, ho, hc⟩ := hr b e.symm
  rw [hb] at ho
  cases ho
  cases hc
theorem keepC_below (h : Below W.heap.size W W') : KeepC S W W' := fun b c t f _ hb => (h.block b (Array.getElem?_eq_some_iff.1 hb).1).trans hb
theorem OwnS.plain (h : OwnS W S base v l) (hg : W.grownBy W' row) (hr : ∀ r, row = some r → ∃ o : Obj, W.heap[r]? = some o ∧ o.isCells = false) : OwnS W' S base v l := by
  obtain ⟨xs, h1, h2⟩ := h
  refine ⟨xs, h1.kept hg ?_, h2.kc (keepC_plain hg hr)⟩
  rcases h1.2 with ⟨rfl, _⟩ | ⟨g, cap, cur, rfl, _, hgb, _⟩
  · exact .inl rfl
  · refine .inr fun e' => ?_
    obtain ⟨o, ho, hf⟩ := hr g (by simpa [Value.ownBlock] using e'.symm)
    rw [hgb] at ho; cases ho; cases hf
/-- .. where other blocks than its row and its lines' grow. -/
theorem OwnS.gr (h : OwnS W S base v l) (hg : W.grownBy W' row) (hne : ∀ g, v.ownBlock = some g → row ≠ some g) (hS : ∀ b, S b → row ≠ some b) : OwnS W' S base v l := by
  obtain ⟨xs, h1, h2⟩ := h
  refine ⟨xs, h1.kept hg ?_, h2.to ((alike_gr hg).mono fun b hb e => hS b hb e.symm)⟩
  rcases h1.2 with ⟨rfl, _⟩ | ⟨g, cap, cur, rfl, _, hgb, _⟩
  · exact .inl rfl
  · exact .inr fun e => hne g rfl e.symm
end

open Rg
section
variable {β : Type} {B : Nat}
theorem ab_blk {b : Nat} {t : TypeId} (f : β → Array Value) : Ab Plain B (fun s W => Blk W b t (f s)) := fun s W W' row hs hg hrow =>
  hs.gr hg (fun e => by obtain ⟨_, o, ho, hf⟩ := hrow b e.symm; rw [show W.heap[b]? = _ from hs] at ho; cases ho; cases hf)
theorem ab_ownS {R : Nat → Prop} {base : Nat} {v : Value} (f : β → List Ch) : Ab Plain B (fun s W => OwnS W (But W R) base v (f s)) := fun s W W' row hs hg hrow =>
  (hs.plain hg (fun r e => (hrow r e).2)).mono (but_up hg.size)
theorem ab_pg {R : Nat → Prop} {A D : Option Addr} {n c m d : Nat} (f : β → Ch) : Ab Plain B (fun s W => PG W (But W R) A n c D m d (f s)) := fun s W W' row hs hg hrow =>
  (hs.kc (keepC_plain hg (fun r e => (hrow r e).2))).mono (but_up hg.size)
theorem ab_pgS {S : Nat → Prop} {A D : Option Addr} {n c m d : Nat} (f : β → Ch) : Ab Plain B (fun s W => PG W S A n c D m d (f s)) := fun s W W' row hs hg hrow =>
  hs.kc (keepC_plain hg (fun r e => (hrow r e).2))
end

/-- The cells of m changes can be read. -/
def Cells6 (W : World) (A : Option Addr) (m : Nat) : Prop := ∀ i, i < m → ∃ a v0 v1 v2 v3 v4 v5, A = some a ∧ W.cell? (a.add (i * 6)) = some v0 ∧ W.cell? ⟨(a.add (i * 6)).block, (a.add (i * 6)).off + 1, none⟩ = some v1 ∧ W.cell? ⟨(a.add (i * 6)).block, (a.add (i * 6)).off + 2, none⟩ = some v2 ∧
  W.cell? ⟨(a.add (i * 6)).block, (a.add (i * 6)).off + 3, none⟩ = some v3 ∧ W.cell? ⟨(a.add (i * 6)).block, (a.add (i * 6)).off + 4, none⟩ = some v4 ∧ W.cell? ⟨(a.add (i * 6)).block, (a.add (i * 6)).off + 5, none⟩ = some v5
theorem Cells6.kc {W W' : World} {A : Option Addr} {m : Nat} (h : Cells6 W A m) (hk : KeepC (fun _ => True) W W') : Cells6 W' A m := fun i hi => by
  obtain ⟨a, v0, v1, v2, v3, v4, v5, e, h0, h1, h2, h3, h4, h5⟩ := h i hi
  exact ⟨a, v0, v1, v2, v3, v4, v5, e, hk.cell trivial h0, hk.cell trivial h1, hk.cell trivial h2, hk.cell trivial h3, hk.cell trivial h4, hk.cell trivial h5⟩
theorem cells6_below {W W' : World} {A : Option Addr} {m : Nat} (h : Cells6 W A m) (hb : Below W.heap.size W W') : Cells6 W' A m := h.kc (keepC_below hb)
theorem cells6_rd {W : World} {S : Nat → Prop} {A : Option Addr} {l : List Ch} {m : Nat} (h : RdP W S A l) (hm : l.length = m) : Cells6 W A m := fun i hi => by
  obtain ⟨a, x, B, n, c, D, m', d, e, _, _, c0, c1, c2, c3, c4, c5, _⟩ := h.elem (k := i) (by omega)
  exact ⟨a, _, _, _, _, _, _, e, c0, c1, c2, c3, c4, c5⟩
theorem cells6_own {W : World} {S : Nat → Prop} {A : Option Addr} {l : List Ch} {m n c base : Nat} (h : OwnS W S base (.slice A n c) l) (hm : l.length = m) : Cells6 W A m := fun i hi => by
  have hr0 := h
  obtain ⟨xs, hr, _⟩ := hr0
  rcases hr.2 with ⟨_, h0⟩ | ⟨g, cap, cur, e, _, hgb, hc, _⟩
  · omega
  · injection e with e1 e2 e3
    subst e1
    have e2' : n = l.length := e2
    subst e2'
    obtain ⟨B, i', j, D, m', d, c0, c1, c2, c3, c4, c5, _⟩ := h.elem rfl (List.getElem?_eq_getElem (show i < l.length by omega))
    have ea : (⟨g, 0, none⟩ : Addr).add (i * 6) = ⟨g, i * 6, none⟩ := by unfold Addr.add; split <;> simp_all
    exact ⟨_, _, _, _, _, _, _, rfl, by rw [ea]; exact c0, by rw [ea]; exact c1, by rw [ea]; exact c2, by rw [ea]; exact c3, by rw [ea]; exact c4, by rw [ea]; exact c5⟩

end Fl
end Go.Proofs.Ytbiiabfhngdeiaa
