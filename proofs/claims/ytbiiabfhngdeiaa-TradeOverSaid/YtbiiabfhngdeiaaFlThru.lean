/-
  What package flow's through returns (walk): a change that passes a list, from the last one on; the list is written anew where it lies.
-/
import Derived.Test.YtbiiabfhngdeiaaFlBack
import Derived.Test.YtbiiabfhngdeiaaFlSteps
import Derived.Test.YtbiiabfhngdeiaaFlMine
import Derived.Test.YtbiiabfhngdeiaaFlWords
set_option maxRecDepth 100000
namespace Go.Proofs.Ytbiiabfhngdeiaa
open Go.RowKit Go.Shelf
set_option linter.unusedVariables false
set_option linter.unusedSimpArgs false
namespace Fl
open Tx Df Sq Hk Tr Pr Rg
attribute [local go_sem] Oper.semAt_some

/-- The cells of a change. -/
abbrev cellsV (x : Ch) (A : Option Addr) (n c : Nat) (B : Option Addr) (m d : Nat) : Array Value := #[.int .i64 x.k, strV x.nm, strV x.to, .int .i64 x.h.pos, .slice A n c, .slice B m d]
abbrev zeroV : Array Value := #[.int .i64 0, .string ⟨#[]⟩, .string ⟨#[]⟩, .int .i64 0, .slice none 0 0, .slice none 0 0]

/-- How through ends. -/
def ThruEnd (w : World) (R : Nat → Prop) (base : Nat) (v : Value) (o : Option (Ch × List Ch)) (e : Ending) (w' : World) : Prop :=
  (∀ z, o = some z → ∃ D m k D' m' k', e = .returned (.tuple #[prV z.1.k z.1.nm z.1.to z.1.h.pos D m k D' m' k', .bool true]) ∧ OwnS w' (But w' R) base v z.2 ∧ PG w' (But w' R) D m k D' m' k' z.1) ∧
  (o = none → e = .returned (.tuple #[.agg zeroV, .bool false])) ∧ w.grownBy w' v.ownBlock

/-- The values that are handed over, with the cells they come from. -/
theorem ab_EL {β : Type} {n : Nat} {A : Option Addr} {i : Nat} {vals : Array Value} {B : Nat} : Ab (β := β) Plain B (fun _ W => EL n A i vals W) := fun s W W' row hs hg hr => by
  have hk : KeepC (fun _ => True) W W' := keepC_plain hg (fun r e => (hr r e).2)
  obtain ⟨hi, a, v0, v1, v2, v3, v4, v5, h1, h2, c0, c1, c2, c3, c4, c5⟩ := hs
  exact ⟨hi, a, v0, v1, v2, v3, v4, v5, h1, h2, hk.cell trivial c0, hk.cell trivial c1, hk.cell trivial c2, hk.cell trivial c3, hk.cell trivial c4, hk.cell trivial c5⟩
theorem EL.row {X : World} {S : Nat → Prop} {base n c i : Nat} {A : Option Addr} {L : List Ch} {vals : Array Value} (h : EL n A i vals X) (hr : OwnS X S base (.slice A n c) L) (hL : L.length = n) :
    ∃ p g B r s B' r' s', A = some ⟨g, 0, none⟩ ∧ L[i]? = some p ∧ vals = #[.int .i64 (i : Int), .agg (cellsV p B r s B' r' s')] ∧ PG X S B r s B' r' s' p ∧ base ≤ g ∧ g < X.heap.size := by
  obtain ⟨hi, a, v0, v1, v2, v3, v4, v5, rfl, rfl, c0, c1, c2, c3, c4, c5⟩ := h
  have hr0 := hr
  obtain ⟨xs, hrow, _⟩ := hr0
  rcases hrow.2 with ⟨e, _⟩ | ⟨g, cap, cur, e, hbg, hgb, hc, _⟩
  · cases e
  · injection e with e1 e2 e3
    injection e1 with e1
    subst e1
    obtain ⟨p, hp⟩ : ∃ p, L[i]? = some p := ⟨_, List.getElem?_eq_getElem (by omega)⟩
    obtain ⟨B, r, s, B', r', s', g0, g1, g2, g3, g4, g5, _, hpg⟩ := hr.elem hL hp
    have ea : (⟨g, 0, none⟩ : Addr).add (i * 6) = ⟨g, i * 6, none⟩ := by unfold Addr.add; split <;> simp_all
    rw [ea] at c0 c1 c2 c3 c4 c5
    have e0 := Option.some.inj (c0.symm.trans g0)
    have e1 := Option.some.inj (c1.symm.trans g1)
    have e2 := Option.some.inj (c2.symm.trans g2)
    have e3 := Option.some.inj (c3.symm.trans g3)
    have e4 := Option.some.inj (c4.symm.trans g4)
    have e5 := Option.some.inj (c5.symm.trans g5)
    subst e0 e1 e2 e3 e4 e5
    exact ⟨p, g, B, r, s, B', r', s', rfl, hp, rfl, hpg, hbg, (Array.getElem?_eq_some_iff.1 hgb).1⟩
theorem vals_eq {i : Int} {v0 v1 v2 v3 v4 v5 : Value} {p : Ch} {B B' : Option Addr} {r s r' s' : Nat} (h : #[Value.int .i64 i, .agg #[v0, v1, v2, v3, v4, v5]] = #[.int .i64 i, .agg (cellsV p B r s B' r' s')]) :
    v0 = .int .i64 p.k ∧ v1 = strV p.nm ∧ v2 = strV p.to ∧ v3 = .int .i64 p.h.pos ∧ v4 = .slice B r s ∧ v5 = .slice B' r' s' := by
  simpa using h

/-- Between two rounds. -/
structure ThI (w : World) (R : Nat → Prop) (base : Nat) (v : Value) (l : List Ch) (q : Ch) (j : Nat) (x : Ch) (post : List Ch) (D : Option Addr) (m k : Nat) (D' : Option Addr) (m' k' : Nat) (W : World) : Prop where
  eq : one passP (l.drop j) q = some (x, post)
  lx : lightP x = true
  row : OwnS W (But W R) base v (l.take j ++ post)
  pg : PG W (But W R) D m k D' m' k' x
  bl : Blk W w.heap.size 26 #[v]
  bq : Blk W (w.heap.size + 1) 51 (cellsV x D m k D' m' k')
  br : Blk W (w.heap.size + 1 + 1) 51 zeroV
  bb : Blk W (w.heap.size + 1 + 1 + 1) 4 #[.bool false]
  fr : w.grownBy W v.ownBlock
def ThJ (w : World) (R : Nat → Prop) (base : Nat) (v : Value) (l : List Ch) (q : Ch) (n : Nat) (pre : List Nat) (W : World) : Prop :=
  ∃ x post D m k D' m' k', ThI w R base v l q (n - pre.length) x post D m k D' m' k' W
def ThX (w : World) (v : Value) (l : List Ch) (q : Ch) (c : Code) (_ : List Nat) (W : World) : Prop :=
  c = .ret ∧ one passP l q = none ∧ Blk W (w.heap.size + 1 + 1) 51 zeroV ∧ Blk W (w.heap.size + 1 + 1 + 1) 4 #[.bool false] ∧ w.grownBy W v.ownBlock
section
variable {w : World} {R : Nat → Prop} {base B n : Nat} {v : Value} {l : List Ch} {q : Ch}
theorem thJ_ab (hB : w.heap.size ≤ B) : Ab Plain B (ThJ w R base v l q n) := fun s W W' row hs hg hr => by
  obtain ⟨x, post, D, m, k, D', m', k', h⟩ := hs
  have bl : ∀ {b : Nat} {t : TypeId} {cs : Array Value}, Blk W b t cs → Blk W' b t cs := fun h => ab_blk (β := Unit) (B := B) (fun _ => _) () W W' row h hg hr
  exact ⟨x, post, D, m, k, D', m', k', h.eq, h.lx, ab_ownS (β := Unit) (B := B) (fun _ => _) () W W' row h.row hg hr, ab_pg (β := Unit) (B := B) (fun _ => _) () W W' row h.pg hg hr, bl h.bl, bl h.bq, bl h.br, bl h.bb, ab_grown (β := Unit) (B := B) hB () W W' row h.fr hg hr⟩
theorem thX_ab (hB : w.heap.size ≤ B) (c : Code) : Ab Plain B (ThX w v l q c) := fun s W W' row hs hg hr => by
  obtain ⟨h1, h2, h3, h4, h5⟩ := hs
  have bl : ∀ {b : Nat} {t : TypeId} {cs : Array Value}, Blk W b t cs → Blk W' b t cs := fun h => ab_blk (β := Unit) (B := B) (fun _ => _) () W W' row h hg hr
  exact ⟨h1, h2, bl h3, bl h4, ab_grown (β := Unit) (B := B) hB () W W' row h5 hg hr⟩
end

theorem ThI.mv {w W W' : World} {R : Nat → Prop} {base j m k m' k' : Nat} {v : Value} {l post : List Ch} {q x : Ch} {D D' : Option Addr} (h : ThI w R base v l q j x post D m k D' m' k' W) (hb : Below W.heap.size W W') : ThI w R base v l q j x post D m k D' m' k' W' :=
  ⟨h.eq, h.lx, (h.row.below hb).mono (but_up hb.size), (h.pg.to_ (fun b _ hl => hb.block b hl)).mono (but_up hb.size), h.bl.below hb h.bl.lt, h.bq.below hb h.bq.lt, h.br.below hb h.br.lt, h.bb.below hb h.bb.lt, grow_trans h.fr (below_gr_row hb) (fun i e => by cases e)⟩
theorem ThI.rowlen {w X : World} {R : Nat → Prop} {base j n m k m' k' : Nat} {v : Value} {l post : List Ch} {q x : Ch} {D D' : Option Addr} (h : ThI w R base v l q j x post D m k D' m' k' X) (hl : l.length = n) (hj : j ≤ n) : (l.take j ++ post).length = n := by
  have := one_len passP h.eq
  rw [List.length_drop] at this
  rw [List.length_append, List.length_take, this]; omega
theorem mid_at {α : Type} {l post : List α} {k : Nat} {p : α} (hk : k < l.length) (h : (l.take (k + 1) ++ post)[k]? = some p) : l[k]? = some p := by
  rw [List.getElem?_append_left (by rw [List.length_take]; omega), List.getElem?_take, if_pos (by omega)] at h
  exact h

theorem keepsFrom_below {W W' : World} (B : Nat) (h : Below W.heap.size W W') : KeepsFrom B W W' := ⟨h.size, fun k o _ hk _ => (h.block k (Array.getElem?_eq_some_iff.1 hk).1).trans hk⟩

/-- What through needs of the memory that it is handed. -/
structure ThN (w : World) (R : Nat → Prop) (base n c : Nat) (A : Option Addr) (l : List Ch) (D : Option Addr) (m k : Nat) (D' : Option Addr) (m' k' : Nat) (q : Ch) : Prop where
  len : l.length = n
  lt : Lt l
  lq : lightP q = true
  r : ∀ g, (Value.slice A n c).ownBlock = some g → R g
  rl : ∀ b, R b → b < w.heap.size
  row : OwnS w (But w R) base (.slice A n c) l
  pg : PG w (But w R) D m k D' m' k' q

/-- R, and the boxes that through makes. -/
def RB (w : World) (R : Nat → Prop) : Nat → Prop := fun b => R b ∨ (w.heap.size ≤ b ∧ b < w.heap.size + 4)
theorem but_rb {w W : World} {R : Nat → Prop} : ∀ b, But W (RB w R) b → But W R b := fun b h => ⟨h.1, fun e => h.2 (.inl e)⟩

section
variable {w W W' : World} {r : Option Nat} {b : Nat}
theorem grow_set (h : w.grownBy W r) (hb : w.heap.size ≤ b) (j : Nat) (v : Value) : w.grownBy (W.setCell ⟨b, j, none⟩ v) r := grow_trans h (grownBy_set W b j v) (fun i e => .inl (by injection e with e; omega))
theorem grow_own (h : w.grownBy W (some b)) (j : Nat) (v : Value) : w.grownBy (W.setCell ⟨b, j, none⟩ v) (some b) := grow_trans h (grownBy_set W b j v) (fun i e => .inr (by injection e with e; rw [e]))
theorem grow_below (h : w.grownBy W r) (hb : Below W.heap.size W W') : w.grownBy W' r := grow_trans h (below_gr_row hb) (fun i e => by cases e)
theorem grow_set6 (h : w.grownBy W r) (hb : w.heap.size ≤ b) (v0 v1 v2 v3 v4 v5 : Value) : w.grownBy (World.setCell (World.setCell (World.setCell (World.setCell (World.setCell (World.setCell W ⟨b, 0, none⟩ (v0)) ⟨b, 1, none⟩ (v1)) ⟨b, 2, none⟩ (v2)) ⟨b, 3, none⟩ (v3)) ⟨b, 4, none⟩ (v4)) ⟨b, 5, none⟩ (v5)) r :=
  grow_set (grow_set (grow_set (grow_set (grow_set (grow_set h hb 0 v0) hb 1 v1) hb 2 v2) hb 3 v3) hb 4 v4) hb 5 v5
theorem grow_own6 (h : w.grownBy W (some b)) (k : Nat) (v0 v1 v2 v3 v4 v5 : Value) : w.grownBy (World.setCell (World.setCell (World.setCell (World.setCell (World.setCell (World.setCell W ⟨b, k * 6, none⟩ (v0)) ⟨b, k * 6 + 1, none⟩ (v1)) ⟨b, k * 6 + 2, none⟩ (v2)) ⟨b, k * 6 + 3, none⟩ (v3)) ⟨b, k * 6 + 4, none⟩ (v4)) ⟨b, k * 6 + 5, none⟩ (v5)) (some b) :=
  grow_own (grow_own (grow_own (grow_own (grow_own (grow_own h (k * 6) v0) (k * 6 + 1) v1) (k * 6 + 2) v2) (k * 6 + 3) v3) (k * 6 + 4) v4) (k * 6 + 5) v5
theorem keeps_set6 (W : World) (B b : Nat) (v0 v1 v2 v3 v4 v5 : Value) : KeepsFrom B W (World.setCell (World.setCell (World.setCell (World.setCell (World.setCell (World.setCell W ⟨b, 0, none⟩ (v0)) ⟨b, 1, none⟩ (v1)) ⟨b, 2, none⟩ (v2)) ⟨b, 3, none⟩ (v3)) ⟨b, 4, none⟩ (v4)) ⟨b, 5, none⟩ (v5)) :=
  ((((((KeepsOthers.setCell _ _ _).from B).trans ((KeepsOthers.setCell _ _ _).from B)).trans ((KeepsOthers.setCell _ _ _).from B)).trans ((KeepsOthers.setCell _ _ _).from B)).trans ((KeepsOthers.setCell _ _ _).from B)).trans ((KeepsOthers.setCell _ _ _).from B)
theorem keeps_row6 (W : World) (B b k : Nat) (v0 v1 v2 v3 v4 v5 : Value) : KeepsFrom B W (World.setCell (World.setCell (World.setCell (World.setCell (World.setCell (World.setCell W ⟨b, k * 6, none⟩ (v0)) ⟨b, k * 6 + 1, none⟩ (v1)) ⟨b, k * 6 + 2, none⟩ (v2)) ⟨b, k * 6 + 3, none⟩ (v3)) ⟨b, k * 6 + 4, none⟩ (v4)) ⟨b, k * 6 + 5, none⟩ (v5)) :=
  ((((((KeepsOthers.setCell _ _ _).from B).trans ((KeepsOthers.setCell _ _ _).from B)).trans ((KeepsOthers.setCell _ _ _).from B)).trans ((KeepsOthers.setCell _ _ _).from B)).trans ((KeepsOthers.setCell _ _ _).from B)).trans ((KeepsOthers.setCell _ _ _).from B)
end

/-- A round that tells that the change can't pass. -/
theorem thru_no {w X w2 : World} {R : Nat → Prop} {base i : Nat} {v : Value} {l : List Ch} {q x p : Ch} {post : List Ch} {D1 D2 : Option Addr} {m1 k1 m2 k2 B : Nat} {pre : List Nat} (hI : ThI w R base v l q (i + 1) x post D1 m1 k1 D2 m2 k2 X) (hb2 : Below X.heap.size X w2) (hx : l[i]? = some p) (hn : passP p x = none) (o o' : Obj) :
    KeepsFrom B X ((((World.setCell (World.setCell (World.setCell (World.setCell (World.setCell (World.setCell w2 ⟨w.heap.size + 1 + 1, 0, none⟩ (.int .i64 0)) ⟨w.heap.size + 1 + 1, 1, none⟩ (.string ⟨#[]⟩)) ⟨w.heap.size + 1 + 1, 2, none⟩ (.string ⟨#[]⟩)) ⟨w.heap.size + 1 + 1, 3, none⟩ (.int .i64 0)) ⟨w.heap.size + 1 + 1, 4, none⟩ (.slice none 0 0)) ⟨w.heap.size + 1 + 1, 5, none⟩ (.slice none 0 0)).setCell ⟨w.heap.size + 1 + 1 + 1, 0, none⟩ (.bool false)).alloc o).alloc o') ∧
    ThX w v l q .ret pre ((((World.setCell (World.setCell (World.setCell (World.setCell (World.setCell (World.setCell w2 ⟨w.heap.size + 1 + 1, 0, none⟩ (.int .i64 0)) ⟨w.heap.size + 1 + 1, 1, none⟩ (.string ⟨#[]⟩)) ⟨w.heap.size + 1 + 1, 2, none⟩ (.string ⟨#[]⟩)) ⟨w.heap.size + 1 + 1, 3, none⟩ (.int .i64 0)) ⟨w.heap.size + 1 + 1, 4, none⟩ (.slice none 0 0)) ⟨w.heap.size + 1 + 1, 5, none⟩ (.slice none 0 0)).setCell ⟨w.heap.size + 1 + 1 + 1, 0, none⟩ (.bool false)).alloc o).alloc o') := by
  have hbr := hI.br.below hb2 hI.br.lt
  have hbb := hI.bb.below hb2 hI.bb.lt
  refine ⟨(((((keepsFrom_below B hb2).trans (keeps_set6 w2 B (w.heap.size + 1 + 1) _ _ _ _ _ _)).trans ((KeepsOthers.setCell _ _ _).from B)).trans ((KeepsOthers.alloc _ o).from B)).trans ((KeepsOthers.alloc _ o').from B)), rfl, one_step_none passP hx hI.eq hn, ?_, ?_, ?_⟩
  · exact (((blk6 hbr (.int .i64 0) (.string ⟨#[]⟩) (.string ⟨#[]⟩) (.int .i64 0) (.slice none 0 0) (.slice none 0 0)).set_ne (by omega) 0 (.bool false)).alloc o).alloc o'
  · exact (((blk_set6 hbb (g := w.heap.size + 1 + 1) (by omega) (.int .i64 0) (.string ⟨#[]⟩) (.string ⟨#[]⟩) (.int .i64 0) (.slice none 0 0) (.slice none 0 0)).set 0 (.bool false)).alloc o).alloc o'
  · exact grow_trans (grow_trans (grow_set (grow_set6 (grow_below hI.fr hb2) (by omega) _ _ _ _ _ _) (by omega) 0 _) (World.grownBy_alloc _ o none) (by simp)) (World.grownBy_alloc _ o' none) (by simp)

/-- A round in which both pass: first the change is stored, then the one of the list. -/
theorem thru_mid {w X w2 w4 : World} {R : Nat → Prop} {base i g n c : Nat} {l : List Ch} {q x x1 y1 : Ch} {post : List Ch} {D1 D2 : Option Addr} {m1 k1 m2 k2 : Nat} {E1 E2 E3 E4 : Option Addr} {n1 c1 n2 c2 n3 c3 n4 c4 : Nat}
    (hI : ThI w (RB w R) base (.slice (some ⟨g, 0, none⟩) n c) l q (i + 1) x post D1 m1 k1 D2 m2 k2 X) (hR : R g) (hrl : ∀ b, R b → b < w.heap.size) (hb2 : Below X.heap.size X w2) (hb4 : Below w2.heap.size w2 w4)
    (hv : PV w2 w2.heap.size E1 n1 c1 E2 n2 c2 x1) (gv : PV w2 w2.heap.size E3 n3 c3 E4 n4 c4 y1) (hh : Hi X.heap.size E1 ∧ Hi X.heap.size E2 ∧ Hi X.heap.size E3 ∧ Hi X.heap.size E4) :
    let w6 := (World.setCell (World.setCell (World.setCell (World.setCell (World.setCell (World.setCell w4 ⟨w.heap.size + 1, 0, none⟩ (.int .i64 x1.k)) ⟨w.heap.size + 1, 1, none⟩ (strV x1.nm)) ⟨w.heap.size + 1, 2, none⟩ (strV x1.to)) ⟨w.heap.size + 1, 3, none⟩ (.int .i64 x1.h.pos)) ⟨w.heap.size + 1, 4, none⟩ (.slice E1 n1 c1)) ⟨w.heap.size + 1, 5, none⟩ (.slice E2 n2 c2))
    OwnS w6 (But w6 (RB w R)) base (.slice (some ⟨g, 0, none⟩) n c) (l.take (i + 1) ++ post) ∧ PG w6 (But w6 (RB w R)) E1 n1 c1 E2 n2 c2 x1 ∧ PG w6 (But w6 (RB w R)) E3 n3 c3 E4 n4 c4 y1 ∧
    Blk w6 w.heap.size 26 #[.slice (some ⟨g, 0, none⟩) n c] ∧ Blk w6 (w.heap.size + 1) 51 (cellsV x1 E1 n1 c1 E2 n2 c2) ∧ Blk w6 (w.heap.size + 1 + 1) 51 zeroV ∧ Blk w6 (w.heap.size + 1 + 1 + 1) 4 #[.bool false] ∧ w.grownBy w6 (some g) ∧
    (∀ B, KeepsFrom B X w6) ∧ (∀ Bs v, w.heap.size + 1 < Bs → Boxed X Bs 26 v → Boxed w6 Bs 26 v) := by
  intro w6
  have hX : w.heap.size + 4 ≤ X.heap.size := by have := hI.bb.lt; omega
  have hb : Below X.heap.size X w4 := hb2.trans (hb4.mono hb2.size)
  have hs4 : w4.heap.size = w6.heap.size := by simp [w6]
  have h2 : w2.heap.size ≤ w4.heap.size := hb4.size
  have hS : ∀ b, (X.heap.size ≤ b ∧ b < w2.heap.size) → But w4 (RB w R) b := fun b h => ⟨by omega, fun e => e.elim (fun e => by have := hrl b e; omega) (fun e => by omega)⟩
  have hq : RB w R (w.heap.size + 1) := .inr ⟨by omega, by omega⟩
  have hne : ∀ b, But w4 (RB w R) b → b ≠ w.heap.size + 1 := fun b h e => h.2 (e ▸ hq)
  have hgl := hrl g hR
  have al := (alike_set6 w4 (w.heap.size + 1) (.int .i64 x1.k) (strV x1.nm) (strV x1.to) (.int .i64 x1.h.pos) (.slice E1 n1 c1) (.slice E2 n2 c2)).mono hne
  have up := but_up (R := RB w R) (Nat.le_of_eq hs4)
  have l0 := hI.bl.lt; have l1 := hI.bq.lt; have l2 := hI.br.lt; have l3 := hI.bb.lt
  refine ⟨?_, ?_, ?_, ?_, ?_, ?_, ?_, ?_, ?_, ?_⟩
  · exact (((hI.row.below hb).mono (but_up hb.size)).set6 (b := w.heap.size + 1) (fun e => by injection e with e; have e : w.heap.size + 1 = g := e; omega) (fun h => hne _ h rfl) _ _ _ _ _ _).mono up
  · exact (((((pg_hi hv hh.1 hh.2.1).to_ (fun b h hl => hb4.block b hl)).mono hS).to_ al).mono up)
  · exact (((((pg_hi gv hh.2.2.1 hh.2.2.2).to_ (fun b h hl => hb4.block b hl)).mono hS).to_ al).mono up)
  · exact blk_set6 (hI.bl.below hb l0) (by omega) _ _ _ _ _ _
  · exact blk6 (hI.bq.below hb l1) _ _ _ _ _ _
  · exact blk_set6 (hI.br.below hb l2) (by omega) _ _ _ _ _ _
  · exact blk_set6 (hI.bb.below hb l3) (by omega) _ _ _ _ _ _
  · exact grow_set6 (grow_below hI.fr hb) (by omega) _ _ _ _ _ _
  · exact fun B => (keepsFrom_below B hb).trans (keeps_set6 _ _ _ _ _ _ _ _ _)
  · exact fun Bs v hB hv => blk_set6 (Blk.below (show Blk X Bs 26 #[v] from hv) hb hv.lt) (by omega) _ _ _ _ _ _

theorem thru_fin {w X w6 : World} {R : Nat → Prop} {base i g n c : Nat} {l : List Ch} {q x p x1 y1 : Ch} {post : List Ch} {D1 D2 : Option Addr} {m1 k1 m2 k2 : Nat} {E1 E2 E3 E4 : Option Addr} {n1 c1 n2 c2 n3 c3 n4 c4 : Nat}
    (hI : ThI w (RB w R) base (.slice (some ⟨g, 0, none⟩) n c) l q (i + 1) x post D1 m1 k1 D2 m2 k2 X) (hR : R g) (hgl : g < w.heap.size) (hx : l[i]? = some p) (hlp : lightP p = true) (hL : (l.take (i + 1) ++ post).length = n) (hs : passP p x = some (x1, y1))
    (h1 : OwnS w6 (But w6 (RB w R)) base (.slice (some ⟨g, 0, none⟩) n c) (l.take (i + 1) ++ post)) (h2 : PG w6 (But w6 (RB w R)) E1 n1 c1 E2 n2 c2 x1) (h3 : PG w6 (But w6 (RB w R)) E3 n3 c3 E4 n4 c4 y1)
    (h4 : Blk w6 w.heap.size 26 #[.slice (some ⟨g, 0, none⟩) n c]) (h5 : Blk w6 (w.heap.size + 1) 51 (cellsV x1 E1 n1 c1 E2 n2 c2)) (h6 : Blk w6 (w.heap.size + 1 + 1) 51 zeroV) (h7 : Blk w6 (w.heap.size + 1 + 1 + 1) 4 #[.bool false]) (h8 : w.grownBy w6 (some g)) :
    let w9 := (World.setCell (World.setCell (World.setCell (World.setCell (World.setCell (World.setCell w6 ⟨g, i * 6, none⟩ (.int .i64 y1.k)) ⟨g, i * 6 + 1, none⟩ (strV y1.nm)) ⟨g, i * 6 + 2, none⟩ (strV y1.to)) ⟨g, i * 6 + 3, none⟩ (.int .i64 y1.h.pos)) ⟨g, i * 6 + 4, none⟩ (.slice E3 n3 c3)) ⟨g, i * 6 + 5, none⟩ (.slice E4 n4 c4))
    ThI w (RB w R) base (.slice (some ⟨g, 0, none⟩) n c) l q i x1 (y1 :: post) E1 n1 c1 E2 n2 c2 w9 ∧ (∀ B, KeepsFrom B w6 w9) ∧ (∀ Bs v, Bs ≠ g → Boxed w6 Bs 26 v → Boxed w9 Bs 26 v) ∧ Cells6 w9 (some ⟨g, 0, none⟩) n := by
  intro w9
  have hs9 : w6.heap.size = w9.heap.size := by simp [w9]
  have hne : ∀ b, But w6 (RB w R) b → b ≠ g := fun b h e => h.2 (.inl (e ▸ hR))
  have up := but_up (R := RB w R) (Nat.le_of_eq hs9)
  have hrow : OwnS w9 (But w9 (RB w R)) base (.slice (some ⟨g, 0, none⟩) n c) (l.take i ++ y1 :: post) := by
    have := (h1.store (k := i) hL (fun h => hne _ h rfl) h3).mono up
    rw [set_mid hx] at this
    exact this
  refine ⟨⟨one_step passP hx hI.eq hs, (passP_lt hs hlp hI.lx).1, hrow, ?_, ?_, ?_, ?_, ?_, ?_⟩, fun B => keeps_row6 _ _ _ _ _ _ _ _ _ _, fun Bs v hB hv => ?_, cells6_own hrow ?_⟩
  · exact (h2.to_ ((alike_row6 w6 g i _ _ _ _ _ _).mono hne)).mono up
  · exact blk_row6 h4 (by omega) i _ _ _ _ _ _
  · exact blk_row6 h5 (by omega) i _ _ _ _ _ _
  · exact blk_row6 h6 (by omega) i _ _ _ _ _ _
  · exact blk_row6 h7 (by omega) i _ _ _ _ _ _
  · exact grow_own6 h8 i _ _ _ _ _ _
  · exact blk_row6 (show Blk w6 Bs 26 #[v] from hv) hB i _ _ _ _ _ _
  · rw [← hL, ← set_mid (y := y1) hx, List.length_set]

theorem thru_put {w W : World} {r : Option Nat} {E : Nat} (hE : w.heap.size + 4 ≤ E) (hK : W.heap[E]? = some (.deferred (some []))) (hg : w.grownBy W r) : w.grownBy (W.putObj E (.deferred none)) r ∧ (∀ b t cs, b < w.heap.size + 4 → Blk W b t cs → Blk (W.putObj E (.deferred none)) b t cs) ∧
    (∀ S base v l, OwnS W S base v l → OwnS (W.putObj E (.deferred none)) S base v l) ∧ (∀ S A n c B m d x, PG W S A n c B m d x → PG (W.putObj E (.deferred none)) S A n c B m d x) ∧ W.heap.size = (W.putObj E (.deferred none)).heap.size := by
  have hp := grownBy_putObj' W E (.deferred none)
  have hr : ∀ r, some E = some r → ∃ o : Obj, W.heap[r]? = some o ∧ o.isCells = false := fun r e => by injection e with e; subst e; exact ⟨_, hK, rfl⟩
  exact ⟨grow_trans hg hp (fun j e => .inl (by injection e with e; omega)), fun b t cs hb h => h.gr hp (fun e => by injection e with e; omega), fun S base v l h => h.plain hp hr, fun S A n c B m d x h => h.kc (keepC_plain hp hr), by simp⟩

theorem thru_done {w W : World} {R : Nat → Prop} {base n c E : Nat} {A : Option Addr} {l : List Ch} {q x : Ch} {post : List Ch} {D1 D2 : Option Addr} {m1 k1 m2 k2 : Nat}
    (hI : ThI w (RB w R) base (.slice A n c) l q 0 x post D1 m1 k1 D2 m2 k2 W) (hr : ∀ g, (Value.slice A n c).ownBlock = some g → R g) (hrl : ∀ b, R b → b < w.heap.size) (hE : w.heap.size + 4 ≤ E) (hK : W.heap[E]? = some (.deferred (some []))) :
    let W9 := (World.setCell (World.setCell (World.setCell (World.setCell (World.setCell (World.setCell W ⟨w.heap.size + 1 + 1, 0, none⟩ (.int .i64 x.k)) ⟨w.heap.size + 1 + 1, 1, none⟩ (strV x.nm)) ⟨w.heap.size + 1 + 1, 2, none⟩ (strV x.to)) ⟨w.heap.size + 1 + 1, 3, none⟩ (.int .i64 x.h.pos)) ⟨w.heap.size + 1 + 1, 4, none⟩ (.slice D1 m1 k1)) ⟨w.heap.size + 1 + 1, 5, none⟩ (.slice D2 m2 k2)).setCell ⟨w.heap.size + 1 + 1 + 1, 0, none⟩ (.bool true)
    W9.heap[E]? = some (.deferred (some [])) ∧ Blk (W9.putObj E (.deferred none)) (w.heap.size + 1 + 1) 51 (cellsV x D1 m1 k1 D2 m2 k2) ∧ Blk (W9.putObj E (.deferred none)) (w.heap.size + 1 + 1 + 1) 4 #[.bool true] ∧
      OwnS (W9.putObj E (.deferred none)) (But (W9.putObj E (.deferred none)) R) base (.slice A n c) post ∧ PG (W9.putObj E (.deferred none)) (But (W9.putObj E (.deferred none)) R) D1 m1 k1 D2 m2 k2 x ∧ w.grownBy (W9.putObj E (.deferred none)) (Value.slice A n c).ownBlock := by
  intro W9
  have hsz : W.heap.size = W9.heap.size := by simp [W9]
  have hne : ∀ b, But W (RB w R) b → b ≠ w.heap.size + 1 + 1 := fun b h e => h.2 (.inr (by omega))
  have hne' : ∀ b, But W (RB w R) b → b ≠ w.heap.size + 1 + 1 + 1 := fun b h e => h.2 (.inr (by omega))
  have hv : ∀ b, w.heap.size ≤ b → some b ≠ (Value.slice A n c).ownBlock := fun b hb e => by have := hrl b (hr b e.symm); omega
  have k9 : W9.heap[E]? = some (.deferred (some [])) := ((keeps_set6 W E (w.heap.size + 1 + 1) _ _ _ _ _ _).trans ((KeepsOthers.setCell _ _ _).from E)).same E _ (Nat.le_refl _) hK rfl
  have g9 : w.grownBy W9 (Value.slice A n c).ownBlock := grow_set (grow_set6 hI.fr (by omega) _ _ _ _ _ _) (by omega) 0 _
  obtain ⟨p1, p2, p3, p4, p5⟩ := thru_put hE k9 g9
  have up : ∀ b, But W (RB w R) b → But (W9.putObj E (.deferred none)) R b := fun b h => ⟨by have := h.1; omega, fun e => h.2 (.inl e)⟩
  have hrow := hI.row
  rw [List.take_zero, List.nil_append] at hrow
  refine ⟨k9, p2 _ _ _ (by omega) ?_, p2 _ _ _ (by omega) ?_, (p3 _ _ _ _ ?_).mono up, (p4 _ _ _ _ _ _ _ _ ?_).mono up, p1⟩
  · exact (blk6 hI.br _ _ _ _ _ _).set_ne (by omega) 0 _
  · exact (blk_set6 hI.bb (g := w.heap.size + 1 + 1) (by omega) _ _ _ _ _ _).set 0 (.bool true)
  · exact (hrow.set6 (hv _ (by omega)) (fun h => hne _ h rfl) _ _ _ _ _ _).set (hv _ (by omega)) (fun h => hne' _ h rfl) 0 _
  · exact (hI.pg.to_ ((alike_set6 W _ _ _ _ _ _ _).mono hne)).to_ ((alike_set _ _ _ _).mono hne')

/-- The memory in which the range begins. -/
theorem thru_start {w : World} {R : Nat → Prop} {base n c : Nat} {A : Option Addr} {l : List Ch} {D : Option Addr} {m k : Nat} {D' : Option Addr} {m' k' : Nat} {q : Ch} (h : ThN w R base n c A l D m k D' m' k' q) :
    let w5 := ((((w.alloc (.cells #[.slice A n c] 26)).alloc (.cells (cellsV q D m k D' m' k') 51)).alloc (.cells zeroV 51)).alloc (.cells #[.bool false] 4)).alloc (.cells #[.slice A n c] 26)
    ThJ w (RB w R) base (.slice A n c) l q n [] w5 ∧ Boxed w5 (w.heap.size + 1 + 1 + 1 + 1) 26 (.slice A n c) ∧ w5.heap.size = w.heap.size + 5 ∧ Cells6 w5 A n := by
  intro w5
  have hw : Below w.heap.size w w5 := (((((Below.refl _ _).alloc (Nat.le_refl _) _).alloc (by simp) _).alloc (by simp; omega) _).alloc (by simp; omega) _).alloc (by simp; omega) _
  have hsz : w5.heap.size = w.heap.size + 5 := by simp [w5]
  have hg : w.grownBy w5 none := grow_trans (grow_trans (grow_trans (grow_trans (World.grownBy_alloc w _ none) (World.grownBy_alloc _ _ none) (by simp)) (World.grownBy_alloc _ _ none) (by simp)) (World.grownBy_alloc _ _ none) (by simp)) (World.grownBy_alloc _ _ none) (by simp)
  have b0 := ((((Blk.new w 26 #[.slice A n c]).alloc (.cells (cellsV q D m k D' m' k') 51)).alloc (.cells zeroV 51)).alloc (.cells #[.bool false] 4)).alloc (.cells #[.slice A n c] 26)
  have b1 := (((Blk.new (w.alloc (.cells #[.slice A n c] 26)) 51 (cellsV q D m k D' m' k')).alloc (.cells zeroV 51)).alloc (.cells #[.bool false] 4)).alloc (.cells #[.slice A n c] 26)
  have b2 := ((Blk.new ((w.alloc (.cells #[.slice A n c] 26)).alloc (.cells (cellsV q D m k D' m' k') 51)) 51 zeroV).alloc (.cells #[.bool false] 4)).alloc (.cells #[.slice A n c] 26)
  have b3 := (Blk.new (((w.alloc (.cells #[.slice A n c] 26)).alloc (.cells (cellsV q D m k D' m' k') 51)).alloc (.cells zeroV 51)) 4 #[.bool false]).alloc (.cells #[.slice A n c] 26)
  have b4 := Boxed.new ((((w.alloc (.cells #[.slice A n c] 26)).alloc (.cells (cellsV q D m k D' m' k') 51)).alloc (.cells zeroV 51)).alloc (.cells #[.bool false] 4)) 26 (.slice A n c)
  simp only [World.size_alloc] at b1 b2 b3 b4
  have hs : ∀ b, But w R b → But w5 (RB w R) b := fun b hb => ⟨by have := hb.1; omega, fun e => e.elim hb.2 fun e => by have := hb.1; omega⟩
  have hrow : OwnS w5 (But w5 (RB w R)) base (.slice A n c) l := (h.row.below hw).mono hs
  refine ⟨⟨q, [], D, m, k, D', m', k', ?_, h.lq, ?_, (h.pg.to_ (fun b hb hl => hw.block b hl)).mono hs, b0, b1, b2, b3, ?_⟩, b4, hsz, cells6_own hrow h.len⟩
  · rw [List.length_nil, Nat.sub_zero, List.drop_of_length_le (by rw [h.len]; exact Nat.le_refl _)]; rfl
  · rw [List.length_nil, Nat.sub_zero, List.take_of_length_le (by rw [h.len]; exact Nat.le_refl _), List.append_nil]; exact hrow
  · exact ⟨hg.os, hg.tape, hg.output, hg.size, fun k hk _ => hg.block k hk (by simp)⟩

set_option maxRecDepth 100000 in
set_option maxHeartbeats 4000000 in
theorem throughL (R : Nat → Prop) (base n c : Nat) (A : Option Addr) (l : List Ch) (D : Option Addr) (m k : Nat) (D' : Option Addr) (m' k' : Nat) (q : Ch) (w : World) (hle : n ≤ 1000) (h : ThN w R base n c A l D m k D' m' k' q) :
    Calls Try.prog 40 #[.slice A n c, prV q.k q.nm q.to q.h.pos D m k D' m' k'] w (ThruEnd w R base (.slice A n c) (one passP l q)) := by
  have H := Lib.hid h
  clear h
  refine (callsIn_wide (n := 4)).1 ?_
  refine callsIn_of_wp_marks Try.func40 rfl trivial ?_ rfl
  simp only [Try.ntmps40, List.size_toArray, List.length_cons, List.length_nil, Nat.reduceAdd, Nat.reduceSub, Array.replicate_succ, Array.replicate_zero, List.push_toArray, List.append_toArray, List.nil_append, List.cons_append]
  gi_wp2_with fail
  refine ⟨trivial, ?_⟩
  refine (backL_in 3 A n c _).mono ?_
  rintro e w' ⟨rfl, rfl⟩
  gi_wp2
  have hst := thru_start H.out
  dsimp only [cellsV, zeroV] at hst
  generalize (((((w.alloc (.cells #[.slice A n c] 26)).alloc (.cells #[.int .i64 q.k, strV q.nm, strV q.to, .int .i64 q.h.pos, .slice D m k, .slice D' m' k'] 51)).alloc (.cells #[.int .i64 0, .string ⟨#[]⟩, .string ⟨#[]⟩, .int .i64 0, .slice none 0 0, .slice none 0 0] 51)).alloc (.cells #[.bool false] 4)).alloc (.cells #[.slice A n c] 26)) = w5 at hst ⊢
  obtain ⟨hst, hbs, hsz, hc6⟩ := hst
  refine range_law (n := 4) (gf := 63) (lb := #[.pointer (some ⟨w.heap.size + 1 + 1 + 1 + 1, 0, none⟩)]) rfl (enters_of Try.func63 (by kernel_rfl) rfl) (Free := Plain) (fun _ h => h)
    (backL_gives 3 (w.heap.size + 1 + 1 + 1 + 1) c n A (by omega) w5 hbs hc6) kpL_t (kpL_b (by rw [hsz]; omega)) (fun x vals W h => by obtain ⟨_, _, _, _, _, _, _, _, _, rfl, _⟩ := h; rfl)
    (ThJ w (RB w R) base (.slice A n c) l q n) (ThX w (.slice A n c) l q) (thJ_ab (by rw [hsz]; omega)) (thX_ab (by rw [hsz]; omega)) hst
    (fun i a' X => ∃ b v0 v1 v2 v3 v4 v5, a' = { tmps := #[.slice A n c, prV q.k q.nm q.to q.h.pos D m k D' m' k', .pointer (some ⟨w.heap.size, 0, none⟩), .pointer (some ⟨w.heap.size + 1, 0, none⟩), .pointer (some ⟨w.heap.size + 1 + 1, 0, none⟩), .pointer (some ⟨w.heap.size + 1 + 1 + 1, 0, none⟩), .int .i64 (i : Int), .pointer (some ⟨b, 0, none⟩), undef, undef, undef, .slice A n c, .func (.func 63) #[] #[.pointer (some ⟨w.heap.size + 1 + 1 + 1 + 1, 0, none⟩)], .int .i64 (i : Int), .agg #[v0, v1, v2, v3, v4, v5], undef, undef, undef, undef, undef, undef, undef, undef, undef, undef, undef, undef, undef, undef, undef, undef], defers := [] } ∧ EL n A i #[.int .i64 (i : Int), .agg #[v0, v1, v2, v3, v4, v5]] X ∧ Blk X b 51 #[v0, v1, v2, v3, v4, v5])
    (fun i a' => ab_ex fun b => ab_ex fun v0 => ab_ex fun v1 => ab_ex fun v2 => ab_ex fun v3 => ab_ex fun v4 => ab_ex fun v5 => Ab.and (ab_pure _ _ _) (Ab.and ab_EL (ab_blk fun _ => _))) ?assign ?body ?done ?stop
  case assign =>
    rintro y pre i vals X K hi hEL hK
    obtain ⟨x, post, D1, m1, k1, D2, m2, k2, hI⟩ := id hi
    obtain ⟨p, g, B, r, s, B', r', s', rfl, hp, rfl, hpg, hbg, hgl⟩ := hEL.row hI.row (hI.rowlen H.out.len (by omega))
    clear hI hp hpg hbg hgl
    gi_wp2
    exact hK _ _ ((KeepsOthers.alloc X _).from _) (kpL_new (World.grownBy_alloc X _ none)) ((thJ_ab (Nat.le_refl _)).alloc _ hi) ⟨_, _, _, _, _, _, _, rfl, ab_EL.alloc (s := ()) (B := 0) _ hEL, Blk.new _ _ _⟩
  case body =>
    rintro y pre pst i a' X hfull hI ⟨b, v0, v1, v2, v3, v4, v5, rfl, hEL, hb⟩
    have hi := dn_split hfull
    clear hfull
    obtain ⟨x, post, D1, m1, k1, D2, m2, k2, hI⟩ := hI
    rw [show n - pre.length = i + 1 by omega] at hI
    have hL := hI.rowlen H.out.len (by omega)
    obtain ⟨p, g, B, r, s, B', r', s', rfl, hp, hv, hpg, hbg, hgl⟩ := hEL.row hI.row hL
    obtain ⟨rfl, rfl, rfl, rfl, rfl, rfl⟩ := vals_eq hv
    have hpl := mid_at (by rw [H.out.len]; omega) hp
    have HLP := Lib.hid (H.out.lt p (List.mem_of_getElem? hpl))
    have HPL := Lib.hid hpl; have HI := Lib.hid hI; have HL := Lib.hid hL; have HPG := Lib.hid hpg; have HG := Lib.hid (And.intro hbg hgl); have HB := Lib.hid hb
    clear hpl hL hpg hp hv hEL hbg
    obtain ⟨x1, y1, ho⟩ : ∃ x1 y1, outP (passP p x) = (x1, y1) := ⟨_, _, rfl⟩
    obtain ⟨bo, hbo⟩ : ∃ bo, (passP p x).isSome = bo := ⟨_, rfl⟩
    have HO := Lib.hid ho; have HBO := Lib.hid hbo
    clear ho hbo
    have PC := Lib.hid (PassPH B r s B' r' s' D1 m1 k1 D2 m2 k2 p x x1 y1 X bo (lt_len HPG.out HLP.out) (lt_len HI.out.pg HI.out.lx) (HPG.out.mono but_lt).pv (HI.out.pg.mono but_lt).pv HO.out HBO.out)
    have x0 := hb.cell 0 rfl; have x1' := hb.cell 1 rfl; have x2 := hb.cell 2 rfl; have x3 := hb.cell 3 rfl; have x4 := hb.cell 4 rfl; have x5 := hb.cell 5 rfl
    have hbq := hI.bq
    have q0 := hbq.cell 0 (u := .int .i64 x.k) rfl; have q1 := hbq.cell 1 (u := strV x.nm) rfl; have q2 := hbq.cell 2 (u := strV x.to) rfl; have q3 := hbq.cell 3 (u := .int .i64 x.h.pos) rfl; have q4 := hbq.cell 4 (u := .slice D1 m1 k1) rfl; have q5 := hbq.cell 5 (u := .slice D2 m2 k2) rfl
    clear hI hb hbq
    gi_wp2_with fail
    refine ⟨trivial, CallsIn.inRound y (callsIn_wide.2 (PC.out.mono ?_))⟩
    rintro e w2 ⟨E1, n1, c1, E2, n2, c2, E3, n3, c3, E4, n4, c4, rfl, pv1, pv2, hl1, hl2, hh, hb2⟩
    clear x0 x1' x2 x3 x4 x5 q0 q1 q2 q3 q4 q5 PC
    have hbl := HI.out.bl; have hbq := HI.out.bq; have hbr := HI.out.br; have hbb := HI.out.bb
    replace hbl := hbl.below hb2 hbl.lt; replace hbq := hbq.below hb2 hbq.lt; replace hbr := hbr.below hb2 hbr.lt; replace hbb := hbb.below hb2 hbb.lt
    have HBL := Lib.hid hbl; have HBQ := Lib.hid hbq; have HBR := Lib.hid hbr; have HBB := Lib.hid hbb; have HB2 := Lib.hid hb2
    have HPV1 := Lib.hid pv1; have HPV2 := Lib.hid pv2; have HH := Lib.hid hh; have HL1 := Lib.hid hl1
    clear pv1 pv2 hh hl1 hl2 hb2
    cases bo with
    | false =>
      have r0 := hbr.cell 0 (u := .int .i64 0) rfl; have r1 := hbr.cell 1 (u := .string ⟨#[]⟩) rfl; have r2 := hbr.cell 2 (u := .string ⟨#[]⟩) rfl; have r3 := hbr.cell 3 (u := .int .i64 0) rfl; have r4 := hbr.cell 4 (u := .slice none 0 0) rfl; have r5 := hbr.cell 5 (u := .slice none 0 0) rfl
      have f0 := hbr.frozen 0; have f1 := hbr.frozen 1; have f2 := hbr.frozen 2; have f3 := hbr.frozen 3; have f4 := hbr.frozen 4; have f5 := hbr.frozen 5
      have s0 := hbb.cell 0 (u := .bool false) rfl; have g0 := hbb.frozen 0
      have hlt0 := hbl.lt; have hlt1 := hbq.lt; have hlt := hbr.lt; have hlt2 := hbb.lt
      clear hbl hbq hbr hbb
      gi_wp2_with fail
      have HNN := Lib.hid (none_ofP HBO.out)
      clear r0 r1 r2 r3 r4 r5 f0 f1 f2 f3 f4 f5 s0 g0 hlt0 hlt1 hlt hlt2
      exact thru_no HI.out HB2.out HPL.out HNN.out _ _
    | true =>
      clear hbl hbq hbr hbb
      gi_wp2_with fail
      have HSM := Lib.hid (outP_of HO.out HBO.out)
      have b3 := (Blk.new w2 51 (cellsV x1 E1 n1 c1 E2 n2 c2)).alloc (.cells (cellsV y1 E3 n3 c3 E4 n4 c4) 51)
      have b4 := Blk.new (w2.alloc (.cells (cellsV x1 E1 n1 c1 E2 n2 c2) 51)) 51 (cellsV y1 E3 n3 c3 E4 n4 c4)
      have hb4 : Below w2.heap.size w2 ((w2.alloc (.cells (cellsV x1 E1 n1 c1 E2 n2 c2) 51)).alloc (.cells (cellsV y1 E3 n3 c3 E4 n4 c4) 51)) := two_box _ _ _
      simp only [World.size_alloc] at b4
      dsimp only [cellsV] at b3 b4 hb4
      generalize ((w2.alloc (.cells #[.int .i64 x1.k, strV x1.nm, strV x1.to, .int .i64 x1.h.pos, .slice E1 n1 c1, .slice E2 n2 c2] 51)).alloc (.cells #[.int .i64 y1.k, strV y1.nm, strV y1.to, .int .i64 y1.h.pos, .slice E3 n3 c3, .slice E4 n4 c4] 51)) = w4 at b3 b4 hb4 ⊢
      have hw4 := hb4.size
      generalize hz2 : w2.heap.size = z2 at b3 b4 hw4 ⊢
      have hz0 : w.heap.size + 1 < z2 := by rw [← hz2]; exact HBQ.out.lt
      have HB4 := Lib.hid hb4
      have k4 := HBL.out.below hb4 HBL.out.lt; have qb := HBQ.out.below hb4 HBQ.out.lt
      have HSB : Hid (∀ Y, Blk Y w.heap.size 26 #[.slice (some ⟨g, 0, none⟩) n c] → Blk Y z2 51 (cellsV x1 E1 n1 c1 E2 n2 c2) → Blk Y (z2 + 1) 51 (cellsV y1 E3 n3 c3 E4 n4 c4) → Y.cell? ⟨w.heap.size, 0, none⟩ = some (.slice (some ⟨g, 0, none⟩) n c) ∧ Y.cell? ⟨z2, 0, none⟩ = some (.int .i64 x1.k) ∧ Y.cell? ⟨z2, 1, none⟩ = some (strV x1.nm) ∧ Y.cell? ⟨z2, 2, none⟩ = some (strV x1.to) ∧ Y.cell? ⟨z2, 3, none⟩ = some (.int .i64 x1.h.pos) ∧ Y.cell? ⟨z2, 4, none⟩ = some (.slice E1 n1 c1) ∧ Y.cell? ⟨z2, 5, none⟩ = some (.slice E2 n2 c2) ∧ Y.cell? ⟨z2 + 1, 0, none⟩ = some (.int .i64 y1.k) ∧ Y.cell? ⟨z2 + 1, 1, none⟩ = some (strV y1.nm) ∧ Y.cell? ⟨z2 + 1, 2, none⟩ = some (strV y1.to) ∧ Y.cell? ⟨z2 + 1, 3, none⟩ = some (.int .i64 y1.h.pos) ∧ Y.cell? ⟨z2 + 1, 4, none⟩ = some (.slice E3 n3 c3) ∧ Y.cell? ⟨z2 + 1, 5, none⟩ = some (.slice E4 n4 c4)) := Lib.hid (fun Y h1 h2 h3 => ⟨h1.cell 0 rfl, h2.cell 0 rfl, h2.cell 1 rfl, h2.cell 2 rfl, h2.cell 3 rfl, h2.cell 4 rfl, h2.cell 5 rfl, h3.cell 0 rfl, h3.cell 1 rfl, h3.cell 2 rfl, h3.cell 3 rfl, h3.cell 4 rfl, h3.cell 5 rfl⟩)
      have MID := Lib.hid (thru_mid (w4 := w4) HI.out (H.out.r g rfl) H.out.rl HB2.out hb4 HPV1.out HPV2.out HH.out)
      have HK6 := Lib.hid (blk_set6 k4 (g := w.heap.size + 1) (by omega) (.int .i64 x1.k) (strV x1.nm) (strV x1.to) (.int .i64 x1.h.pos) (.slice E1 n1 c1) (.slice E2 n2 c2))
      have HX6 := Lib.hid (blk_set6 b3 (g := w.heap.size + 1) (by omega) (.int .i64 x1.k) (strV x1.nm) (strV x1.to) (.int .i64 x1.h.pos) (.slice E1 n1 c1) (.slice E2 n2 c2))
      have HY6 := Lib.hid (blk_set6 b4 (g := w.heap.size + 1) (by omega) (.int .i64 x1.k) (strV x1.nm) (strV x1.to) (.int .i64 x1.h.pos) (.slice E1 n1 c1) (.slice E2 n2 c2))
      obtain ⟨k0, e0, e1, e2, e3, e4, e5, yy0, yy1, yy2, yy3, yy4, yy5⟩ := HSB.out w4 k4 b3 b4
      have q0 := qb.cell 0 (u := .int .i64 x.k) rfl; have q1 := qb.cell 1 (u := strV x.nm) rfl; have q2 := qb.cell 2 (u := strV x.to) rfl; have q3 := qb.cell 3 (u := .int .i64 x.h.pos) rfl; have q4 := qb.cell 4 (u := .slice D1 m1 k1) rfl; have q5 := qb.cell 5 (u := .slice D2 m2 k2) rfl
      have f0 := qb.frozen 0; have f1 := qb.frozen 1; have f2 := qb.frozen 2; have f3 := qb.frozen 3; have f4 := qb.frozen 4; have f5 := qb.frozen 5
      have hgz : g < w.heap.size := H.out.rl g (H.out.r g rfl)
      have HGZ := Lib.hid hgz
      have hin : (i : Int) < (n : Int) := by omega
      clear k4 b3 b4 hb4 qb
      refine round_held (S := fun Y : World => Y.cell? ⟨w.heap.size, 0, none⟩ = some (.slice (some ⟨g, 0, none⟩) n c) ∧ Y.cell? ⟨z2, 0, none⟩ = some (.int .i64 x1.k) ∧ Y.cell? ⟨z2, 1, none⟩ = some (strV x1.nm) ∧ Y.cell? ⟨z2, 2, none⟩ = some (strV x1.to) ∧ Y.cell? ⟨z2, 3, none⟩ = some (.int .i64 x1.h.pos) ∧ Y.cell? ⟨z2, 4, none⟩ = some (.slice E1 n1 c1) ∧ Y.cell? ⟨z2, 5, none⟩ = some (.slice E2 n2 c2) ∧ Y.cell? ⟨z2 + 1, 0, none⟩ = some (.int .i64 y1.k) ∧ Y.cell? ⟨z2 + 1, 1, none⟩ = some (strV y1.nm) ∧ Y.cell? ⟨z2 + 1, 2, none⟩ = some (strV y1.to) ∧ Y.cell? ⟨z2 + 1, 3, none⟩ = some (.int .i64 y1.h.pos) ∧ Y.cell? ⟨z2 + 1, 4, none⟩ = some (.slice E3 n3 c3) ∧ Y.cell? ⟨z2 + 1, 5, none⟩ = some (.slice E4 n4 c4)) (by kernel_rfl) (by kernel_rfl) ?hq ?hS (fun hS0 => ?_)
      case hq => rintro ⟨_, _, h⟩; exact h
      case hS => exact ⟨k0, e0, e1, e2, e3, e4, e5, yy0, yy1, yy2, yy3, yy4, yy5⟩
      refine wpAnyH_take (i := 0) (v := ?_) rfl (by kernel_rfl) (by kernel_rfl) (by kernel_rfl) (fun _ _ _ h => h) (Or.inl ⟨by rfl, ?_⟩) hS0 ?_
      rotate_left
      · intro Y hY
        obtain ⟨s0, s1, s2, s3, s4, s5, s6, s7, s8, s9, s10, s11, s12⟩ := hY
        go_simp
        try with_reducible rfl
      simp only [Act.put, List.getElem_toArray, List.getElem_cons_succ, List.getElem_cons_zero, List.setIfInBounds_toArray, List.set_cons_succ, List.set_cons_zero]
      refine wpAnyH_take (i := 1) (v := ?_) rfl (by kernel_rfl) (by kernel_rfl) (by kernel_rfl) (fun _ _ _ h => h) (Or.inl ⟨by rfl, ?_⟩) hS0 ?_
      rotate_left
      · intro Y hY
        obtain ⟨s0, s1, s2, s3, s4, s5, s6, s7, s8, s9, s10, s11, s12⟩ := hY
        go_simp
        try with_reducible rfl
      simp only [Act.put, List.getElem_toArray, List.getElem_cons_succ, List.getElem_cons_zero, List.setIfInBounds_toArray, List.set_cons_succ, List.set_cons_zero]
      refine wpAnyH_take (i := 2) (v := ?_) rfl (by kernel_rfl) (by kernel_rfl) (by kernel_rfl) (fun _ _ _ h => h) (Or.inl ⟨by rfl, ?_⟩) hS0 ?_
      rotate_left
      · intro Y hY
        obtain ⟨s0, s1, s2, s3, s4, s5, s6, s7, s8, s9, s10, s11, s12⟩ := hY
        go_simp
        try with_reducible rfl
      simp only [Act.put, List.getElem_toArray, List.getElem_cons_succ, List.getElem_cons_zero, List.setIfInBounds_toArray, List.set_cons_succ, List.set_cons_zero]
      refine wpAnyH_take (i := 3) (v := ?_) rfl (by kernel_rfl) (by kernel_rfl) (by kernel_rfl) (fun _ _ _ h => h) (Or.inl ⟨by rfl, ?_⟩) hS0 ?_
      rotate_left
      · intro Y hY
        obtain ⟨s0, s1, s2, s3, s4, s5, s6, s7, s8, s9, s10, s11, s12⟩ := hY
        go_simp
        try with_reducible rfl
      simp only [Act.put, List.getElem_toArray, List.getElem_cons_succ, List.getElem_cons_zero, List.setIfInBounds_toArray, List.set_cons_succ, List.set_cons_zero]
      refine wpAnyH_ready (rs := [4]) (by kernel_rfl) (by simp) ?_
      refine AllReadyH.cons rfl (fun K1 hK => ?_) AllReadyH.nil
      go_simp
      clear hS0 k0 e0 e1 e2 e3 e4 e5 yy0 yy1 yy2 yy3 yy4 yy5 q0 q1 q2 q3 q4 q5 f0 f1 f2 f3 f4 f5
      obtain ⟨a1, a2, a3, a4, a5, a6, a7, a8, a9, a10⟩ := MID.out
      clear MID
      generalize (World.setCell (World.setCell (World.setCell (World.setCell (World.setCell (World.setCell w4 ⟨w.heap.size + 1, 0, none⟩ (.int .i64 x1.k)) ⟨w.heap.size + 1, 1, none⟩ (strV x1.nm)) ⟨w.heap.size + 1, 2, none⟩ (strV x1.to)) ⟨w.heap.size + 1, 3, none⟩ (.int .i64 x1.h.pos)) ⟨w.heap.size + 1, 4, none⟩ (.slice E1 n1 c1)) ⟨w.heap.size + 1, 5, none⟩ (.slice E2 n2 c2)) = w6 at *
      refine hK.out _ _ (HSB.out w6.drew (HK6.out.drewN 1) (HX6.out.drewN 1) (HY6.out.drewN 1)) (fun hS1 => ?_)
      clear hK K1
      obtain ⟨_, _, _, _, _, _, c0, c1', c2', c3', c4', c5', cf, _⟩ := a1.elem HL.out (at_mid HPL.out)
      have f0 := cf (i * 6); have f1 := cf (i * 6 + 1); have f2 := cf (i * 6 + 2); have f3 := cf (i * 6 + 3); have f4 := cf (i * 6 + 4); have f5 := cf (i * 6 + 5)
      have HF := Lib.hid (thru_fin HI.out (H.out.r g rfl) HGZ.out HPL.out HLP.out HL.out HSM.out a1 a2 a3 a4 a5 a6 a7 a8)
      have HA := Lib.hid (And.intro a9 a10)
      have HZ := Lib.hid hz0
      clear a1 a2 a3 a4 a5 a6 a7 a8 a9 a10 cf
      refine wpAnyH_take (i := 5) (v := ?_) rfl (by kernel_rfl) (by kernel_rfl) (by kernel_rfl) (fun _ _ _ h => h) (Or.inl ⟨by rfl, ?_⟩) hS1 ?_
      rotate_left
      · intro Y hY
        obtain ⟨s0, s1, s2, s3, s4, s5, s6, s7, s8, s9, s10, s11, s12⟩ := hY
        go_simp
        try with_reducible rfl
      simp only [Act.put, List.getElem_toArray, List.getElem_cons_succ, List.getElem_cons_zero, List.setIfInBounds_toArray, List.set_cons_succ, List.set_cons_zero]
      refine wpAnyH_ready (rs := [6]) (by kernel_rfl) (by simp) ?_
      refine AllReadyH.cons rfl (fun K1 hK => ?_) AllReadyH.nil
      go_simp
      obtain ⟨t1, t2, t3, t4⟩ := HF.out
      have hk9 := blk_row6 HK6.out (g := g) (by omega) i (.int .i64 y1.k) (strV y1.nm) (strV y1.to) (.int .i64 y1.h.pos) (.slice E3 n3 c3) (.slice E4 n4 c4)
      have hx9 := blk_row6 HX6.out (g := g) (by omega) i (.int .i64 y1.k) (strV y1.nm) (strV y1.to) (.int .i64 y1.h.pos) (.slice E3 n3 c3) (.slice E4 n4 c4)
      have hy9 := blk_row6 HY6.out (g := g) (by omega) i (.int .i64 y1.k) (strV y1.nm) (strV y1.to) (.int .i64 y1.h.pos) (.slice E3 n3 c3) (.slice E4 n4 c4)
      clear HF c0 c1' c2' c3' c4' c5' f0 f1 f2 f3 f4 f5
      generalize (World.setCell (World.setCell (World.setCell (World.setCell (World.setCell (World.setCell w6 ⟨g, i * 6, none⟩ (.int .i64 y1.k)) ⟨g, i * 6 + 1, none⟩ (strV y1.nm)) ⟨g, i * 6 + 2, none⟩ (strV y1.to)) ⟨g, i * 6 + 3, none⟩ (.int .i64 y1.h.pos)) ⟨g, i * 6 + 4, none⟩ (.slice E3 n3 c3)) ⟨g, i * 6 + 5, none⟩ (.slice E4 n4 c4)) = w9 at *
      refine hK.out _ _ (HSB.out w9.drew (hk9.drewN 1) (hx9.drewN 1) (hy9.drewN 1)) (fun _ => wpAnyH_done (by kernel_rfl) ?_ _)
      clear hK K1 hS1
      have hj : n - (pre ++ [i]).length = i := by rw [List.length_append, List.length_singleton]; omega
      have hd : Below w9.heap.size w9 w9.drew := below_drewN (Below.refl _ _) 1
      refine ⟨((HA.out.1 _).trans (t2 _)).trans (keepsFrom_below _ hd), ⟨fun v hv => t3 _ v (by omega) (HA.out.2 _ v (by omega) hv), fun _ => cells6_below t4 hd⟩, x1, y1 :: post, E1, n1, c1, E2, n2, c2, ?_⟩
      rw [hj]
      exact t1.mv hd
  case done =>
    rintro E W hE hI hK
    obtain ⟨x, post, D1, m1, k1, D2, m2, k2, hI⟩ := hI
    rw [dn_length, Nat.sub_self] at hI
    have q0 := hI.bq.cell 0 (u := .int .i64 x.k) rfl; have q1 := hI.bq.cell 1 (u := strV x.nm) rfl; have q2 := hI.bq.cell 2 (u := strV x.to) rfl; have q3 := hI.bq.cell 3 (u := .int .i64 x.h.pos) rfl; have q4 := hI.bq.cell 4 (u := .slice D1 m1 k1) rfl; have q5 := hI.bq.cell 5 (u := .slice D2 m2 k2) rfl
    have r0 := hI.br.cell 0 (u := .int .i64 0) rfl; have r1 := hI.br.cell 1 (u := .string ⟨#[]⟩) rfl; have r2 := hI.br.cell 2 (u := .string ⟨#[]⟩) rfl; have r3 := hI.br.cell 3 (u := .int .i64 0) rfl; have r4 := hI.br.cell 4 (u := .slice none 0 0) rfl; have r5 := hI.br.cell 5 (u := .slice none 0 0) rfl
    have f0 := hI.br.frozen 0; have f1 := hI.br.frozen 1; have f2 := hI.br.frozen 2; have f3 := hI.br.frozen 3; have f4 := hI.br.frozen 4; have f5 := hI.br.frozen 5
    have s0 := hI.bb.cell 0 (u := .bool false) rfl; have g0 := hI.bb.frozen 0
    have HI := Lib.hid hI
    have HD := Lib.hid (thru_done hI H.out.r H.out.rl (by omega) hK)
    clear hI
    gi_wp2
    obtain ⟨d1, d2, d3, d4, d5, d6⟩ := HD.out
    refine ⟨by simp, .inl ⟨_, _, rfl, run_takeDeferred d1, ?_⟩⟩
    clear d1 hK q0 q1 q2 q3 q4 q5 r0 r1 r2 r3 r4 r5 f0 f1 f2 f3 f4 f5 s0 g0
    generalize (World.putObj ((World.setCell (World.setCell (World.setCell (World.setCell (World.setCell (World.setCell W ⟨w.heap.size + 1 + 1, 0, none⟩ (.int .i64 x.k)) ⟨w.heap.size + 1 + 1, 1, none⟩ (strV x.nm)) ⟨w.heap.size + 1 + 1, 2, none⟩ (strV x.to)) ⟨w.heap.size + 1 + 1, 3, none⟩ (.int .i64 x.h.pos)) ⟨w.heap.size + 1 + 1, 4, none⟩ (.slice D1 m1 k1)) ⟨w.heap.size + 1 + 1, 5, none⟩ (.slice D2 m2 k2)).setCell ⟨w.heap.size + 1 + 1 + 1, 0, none⟩ (.bool true)) E (.deferred none)) = W9 at *
    have z0 := d3.cell 0 (u := .bool true) rfl
    have u0 := d2.cell 0 (u := .int .i64 x.k) rfl; have u1 := d2.cell 1 (u := strV x.nm) rfl; have u2 := d2.cell 2 (u := strV x.to) rfl; have u3 := d2.cell 3 (u := .int .i64 x.h.pos) rfl; have u4 := d2.cell 4 (u := .slice D1 m1 k1) rfl; have u5 := d2.cell 5 (u := .slice D2 m2 k2) rfl
    refine ⟨.tuple #[.agg #[.int .i64 x.k, strV x.nm, strV x.to, .int .i64 x.h.pos, .slice D1 m1 k1, .slice D2 m2 k2], .bool true], by simp [results, Try.results40, go_sem, z0, u0, u1, u2, u3, u4, u5], fun z hz => ?_, fun hn => ?_, d6⟩
    · have he := HI.out.eq
      rw [List.drop_zero] at he
      have hz' := Option.some.inj (hz.symm.trans he)
      subst hz'
      exact ⟨D1, m1, k1, D2, m2, k2, rfl, d4, d5⟩
    · have he := HI.out.eq
      rw [List.drop_zero] at he
      rw [he] at hn
      cases hn
  case stop =>
    rintro E c' pre post W hE hpp ⟨rfl, ho, b2, b3, fr⟩ hK
    gi_wp2
    refine ⟨by simp, .inl ⟨_, _, rfl, run_takeDeferred hK, ?_⟩⟩
    obtain ⟨p1, p2, _, _, _⟩ := thru_put (by omega) hK fr
    have d2 := p2 _ _ _ (by omega) b2
    have d3 := p2 _ _ _ (by omega) b3
    clear hK b2 b3 fr p2
    generalize (World.putObj W E (.deferred none)) = W9 at *
    have z0 := d3.cell 0 (u := .bool false) rfl
    have u0 := d2.cell 0 (u := .int .i64 0) rfl; have u1 := d2.cell 1 (u := .string ⟨#[]⟩) rfl; have u2 := d2.cell 2 (u := .string ⟨#[]⟩) rfl; have u3 := d2.cell 3 (u := .int .i64 0) rfl; have u4 := d2.cell 4 (u := .slice none 0 0) rfl; have u5 := d2.cell 5 (u := .slice none 0 0) rfl
    refine ⟨.tuple #[.agg zeroV, .bool false], by simp [results, Try.results40, go_sem, z0, u0, u1, u2, u3, u4, u5], fun z hz => ?_, fun _ => rfl, p1⟩
    rw [ho] at hz
    cases hz

end Fl
end Go.Proofs.Ytbiiabfhngdeiaa
