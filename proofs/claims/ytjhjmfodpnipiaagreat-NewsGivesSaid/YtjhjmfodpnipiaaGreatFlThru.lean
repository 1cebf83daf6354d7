/-
  What package flow's through returns (walk): a change that passes a list, from the last one on; the list is written anew where it lies.
-/
import Derived.Test.YtjhjmfodpnipiaaGreatFlBack
import Derived.Test.YtjhjmfodpnipiaaGreatFlSteps
import Derived.Test.YtjhjmfodpnipiaaGreatFlMine
import Derived.Test.YtjhjmfodpnipiaaGreatFlWords
set_option maxRecDepth 100000
namespace Go.Proofs.YtjhjmfodpnipiaaGreat
open Go.RowKit Go.Shelf
set_option linter.unusedVariables false
set_option linter.unusedSimpArgs false
namespace Fl
open Tx Df Sq Hk Tr Pr Rg
attribute [local go_sem] Oper.semAt_some

/-- The cells of a change. -/
abbrev cellsV (x : Ch) (A : Option Addr) (n c : Nat) (B : Option Addr) (m d : Nat) : Array Value := #[.int .i64 x.k, strV x.nm, strV x.to, .int .i64 x.h.pos, .slice A n c, .slice B m d]
abbrev zeroV : Array Value := #[.int .i64 0, .string ⟨#[]⟩, .string ⟨#[]⟩, .int .i64 0, .slice none 0 0, .slice none 0 0]

/-- How through ends. -/
def ThruEnd (w : World) (R : Nat → Prop) (base : Nat) (v : Value) (o : Option (Ch × List Ch)) (e : Ending) (w' : World) : Prop :=
  (∀ z, o = some z → ∃ D m k D' m' k', e = .returned (.tuple #[prV z.1.k z.1.nm z.1.to z.1.h.pos D m k D' m' k', .bool true]) ∧ OwnS w' (But w' R) base v z.2 ∧ PG w' (But w' R) D m k D' m' k' z.1) ∧
  (o = none → e = .returned (.tuple #[.agg zeroV, .bool false])) ∧ w.grownBy w' v.ownBlock

/-- The values that are handed over, with the cells they come from. -/
theorem ab_EL {β : Type} {n : Nat} {A : Option Addr} {i : Nat} {vals : Array Value} {B : Nat} : Ab (β := β) Plain B (fun _ W => EL n A i vals W) := fun s W W' row hs hg hr => by
  have hk : KeepC (fun _ => True) W W' := keepC_plain hg (fun r e => (hr r e).2)
  obtain ⟨hi, a, v0, v1, v2, v3, v4, v5, h1, h2, c0, c1, c2, c3, c4, c5⟩ := hs
  exact ⟨hi, a, v0, v1, v2, v3, v4, v5, h1, h2, hk.cell trivial c0, hk.cell trivial c1, hk.cell trivial c2, hk.cell trivial c3, hk.cell trivial c4, hk.cell trivial c5⟩
theorem EL.row {X : World} {S : Nat → Prop} {base n c i : Nat} {A : Option Addr} {L : List Ch} {vals : Array Value} (h : EL n A i vals X) (hr : OwnS X S base (.slice A n c) L) (hL : L.length = n) :
    ∃ p g B r s B' r' s', A = some ⟨g, 0, none⟩ ∧ L[i]? = some p ∧ vals = #[.int .i64 (i : Int), .agg (cellsV p B r s B' r' s')] ∧ PG X S B r s B' r' s' p ∧ base ≤ g ∧ g < X.heap.size := by
  obtain ⟨hi, a, v0, v1, v2, v3, v4, v5, rfl, rfl, c0, c1, c2, c3, c4, c5⟩ := h
  have hr0 := hr
  obtain ⟨xs, hrow, _⟩ := hr0
  rcases hrow.2 with ⟨e, _⟩ | ⟨g, cap, cur, e, hbg, hgb, hc, _⟩
  · cases e
  · injection e with e1 e2 e3
    injection e1 with e1
    subst e1
    obtain ⟨p, hp⟩ : ∃ p, L[i]? = some p := ⟨_, List.getElem?_eq_getElem (by omega)⟩
    obtain ⟨B, r, s, B', r', s', g0, g1, g2, g3, g4, g5, _, hpg⟩ := hr.elem hL hp
    have ea : (⟨g, 0, none⟩ : Addr).add (i * 6) = ⟨g, i * 6, none⟩ := by unfold Addr.add; split <;> simp_all
    rw [ea] at c0 c1 c2 c3 c4 c5
    have e0 := Option.some.inj (c0.symm.trans g0)
    have e1 := Option.some.inj (c1.symm.trans g1)
    have e2 := Option.some.inj (c2.symm.trans g2)
    have e3 := Option.some.inj (c3.symm.trans g3)
    have e4 := Option.some.inj (c4.symm.trans g4)
    have e5 := Option.some.inj (c5.symm.trans g5)
    subst e0 e1 e2 e3 e4 e5
    exact ⟨p, g, B, r, s, B', r', s', rfl, hp, rfl, hpg, hbg, (Array.getElem?_eq_some_iff.1 hgb).1⟩
theorem vals_eq {i : Int} {v0 v1 v2 v3 v4 v5 : Value} {p : Ch} {B B' : Option Addr} {r s r' s' : Nat} (h : #[Value.int .i64 i, .agg #[v0, v1, v2, v3, v4, v5]] = #[.int .i64 i, .agg (cellsV p B r s B' r' s')]) :
    v0 = .int .i64 p.k ∧ v1 = strV p.nm ∧ v2 = strV p.to ∧ v3 = .int .i64 p.h.pos ∧ v4 = .slice B r s ∧ v5 = .slice B' r' s' := by
  simpa using h

/-- Between two rounds. -/
structure ThI (w : World) (R : Nat → Prop) (base : Nat) (v : Value) (l : List Ch) (q : Ch) (j : Nat) (x : Ch) (post : List Ch) (D : Option Addr) (m k : Nat) (D' : Option Addr) (m' k' : Nat) (W : World) : Prop where
  eq : one passP (l.drop j) q = some (x, post)
  lx : lightP x = true
  row : OwnS W (But W R) base v (l.take j ++ post)
  pg : PG W (But W R) D m k D' m' k' x
  bl : Blk W w.heap.size 26 #[v]
  bq : Blk W (w.heap.size + 1) 42 (cellsV x D m k D' m' k')
  br : Blk W (w.heap.size + 1 + 1) 42 zeroV
  bb : Blk W (w.heap.size + 1 + 1 + 1) 4 #[.bool false]
  fr : w.grownBy W v.ownBlock
def ThJ (w : World) (R : Nat → Prop) (base : Nat) (v : Value) (l : List Ch) (q : Ch) (n : Nat) (pre : List Nat) (W : World) : Prop :=
  ∃ x post D m k D' m' k', ThI w R base v l q (n - pre.length) x post D m k D' m' k' W
def ThX (w : World) (v : Value) (l : List Ch) (q : Ch) (c : Code) (_ : List Nat) (W : World) : Prop :=
  c = .ret ∧ one passP l q = none ∧ Blk W (w.heap.size + 1 + 1) 42 zeroV ∧ Blk W (w.heap.size + 1 + 1 + 1) 4 #[.bool false] ∧ w.grownBy W v.ownBlock
section
variable {w : World} {R : Nat → Prop} {base B n : Nat} {v : Value} {l : List Ch} {q : Ch}
theorem thJ_ab (hB : w.heap.size ≤ B) : Ab Plain B (ThJ w R base v l q n) := fun s W W' row hs hg hr => by
  obtain ⟨x, post, D, m, k, D', m', k', h⟩ := hs
  have bl : ∀ {b : Nat} {t : TypeId} {cs : Array Value}, Blk W b t cs → Blk W' b t cs := fun h => ab_blk (β := Unit) (B := B) (fun _ => _) () W W' row h hg hr
  exact ⟨x, post, D, m, k, D', m', k', h.eq, h.lx, ab_ownS (β := Unit) (B := B) (fun _ => _) () W W' row h.row hg hr, ab_pg (β := Unit) (B := B) (fun _ => _) () W W' row h.pg hg hr, bl h.bl, bl h.bq, bl h.br, bl h.bb, ab_grown (β := Unit) (B := B) hB () W W' row h.fr hg hr⟩
theorem thX_ab (hB : w.heap.size ≤ B) (c : Code) : Ab Plain B (ThX w v l q c) := fun s W W' row hs hg hr => by
  obtain ⟨h1, h2, h3, h4, h5⟩ := hs
  have bl : ∀ {b : Nat} {t : TypeId} {cs : Array Value}, Blk W b t cs → Blk W' b t cs := fun h => ab_blk (β := Unit) (B := B) (fun _ => _) () W W' row h hg hr
  exact ⟨h1, h2, bl h3, bl h4, ab_grown (β := Unit) (B := B) hB () W W' row h5 hg hr⟩
end

theorem ThI.mv {w W W' : World} {R : Nat → Prop} {base j m k m' k' : Nat} {v : Value} {l post : List Ch} {q x : Ch} {D D' : Option Addr} (h : ThI w R base v l q j x post D m k D' m' k' W) (hb : Below W.heap.size W W') : ThI w R base v l q j x post D m k D' m' k' W' :=
  ⟨h.eq, h.lx, (h.row.below hb).mono (but_up hb.size), (h.pg.to_ (fun b _ hl => hb.block b hl)).mono (but_up hb.size), h.bl.below hb h.bl.lt, h.bq.below hb h.bq.lt, h.br.below hb h.br.lt, h.bb.below hb h.bb.lt, grow_trans h.fr (below_gr_row hb) (fun i e => by cases e)⟩
theorem ThI.rowlen {w X : World} {R : Nat → Prop} {base j n m k m' k' : Nat} {v : Value} {l post : List Ch} {q x : Ch} {D D' : Option Addr} (h : ThI w R base v l q j x post D m k D' m' k' X) (hl : l.length = n) (hj : j ≤ n) : (l.take j ++ post).length = n := by
  have := one_len passP h.eq
  rw [List.length_drop] at this
  rw [List.length_append, List.length_take, this]; omega
theorem mid_at {α : Type} {l post : List α} {k : Nat} {p : α} (hk : k < l.length) (h : (l.take (k + 1) ++ post)[k]? = some p) : l[k]? = some p := by
  rw [List.getElem?_append_left (by rw [List.length_take]; omega), List.getElem?_take, if_pos (by omega)] at h
  exact h

theorem keepsFrom_below {W W' : World} (B : Nat) (h : Below W.heap.size W W') : KeepsFrom B W W' := ⟨h.size, fun k o _ hk _ => (h.block k (Array.getElem?_eq_some_iff.1 hk).1).trans hk⟩

/-- What through needs of the memory that it is handed. -/
structure ThN (w : World) (R : Nat → Prop) (base n c : Nat) (A : Option Addr) (l : List Ch) (D : Option Addr) (m k : Nat) (D' : Option Addr) (m' k' : Nat) (q : Ch) : Prop where
  len : l.length = n
  lt : Lt l
  lq : lightP q = true
  r : ∀ g, (Value.slice A n c).ownBlock = some g → R g
  rl : ∀ b, R b → b < w.heap.size
  row : OwnS w (But w R) base (.slice A n c) l
  pg : PG w (But w R) D m k D' m' k' q

/-- R, and the boxes that through makes. -/
def RB (w : World) (R : Nat → Prop) : Nat → Prop := fun b => R b ∨ (w.heap.size ≤ b ∧ b < w.heap.size + 4)
theorem but_rb {w W : World} {R : Nat → Prop} : ∀ b, But W (RB w R) b → But W R b := fun b h => ⟨h.1, fun e => h.2 (.inl e)⟩

section
variable {w W W' : World} {r : Option Nat} {b : Nat}
theorem grow_set (h : w.grownBy W r) (hb : w.heap.size ≤ b) (j : Nat) (v : Value) : w.grownBy (W.setCell ⟨b, j, none⟩ v) r := grow_trans h (grownBy_set W b j v) (fun i e => .inl (by injection e with e; omega))
theorem grow_own (h : w.grownBy W (some b)) (j : Nat) (v : Value) : w.grownBy (W.setCell ⟨b, j, none⟩ v) (some b) := grow_trans h (grownBy_set W b j v) (fun i e => .inr (by injection e with e; rw [e]))
theorem grow_below (h : w.grownBy W r) (hb : Below W.heap.size W W') : w.grownBy W' r := grow_trans h (below_gr_row hb) (fun i e => by cases e)
theorem grow_set6 (h : w.grownBy W r) (hb : w.heap.size ≤ b) (v0 v1 v2 v3 v4 v5 : Value) : w.grownBy (World.setCell (World.setCell (World.setCell (World.setCell (World.setCell (World.setCell W ⟨b, 0, none⟩ (v0)) ⟨b, 1, none⟩ (v1)) ⟨b, 2, none⟩ (v2)) ⟨b, 3, none⟩ (v3)) ⟨b, 4, none⟩ (v4)) ⟨b, 5, none⟩ (v5)) r :=
  grow_set (grow_set (grow_set (grow_set (grow_set (grow_set h hb 0 v0) hb 1 v1) hb 2 v2) hb 3 v3) hb 4 v4) hb 5 v5
theorem grow_own6 (h : w.grownBy W (some b)) (k : Nat) (v0 v1 v2 v3 v4 v5 : Value) : w.grownBy (World.setCell (World.setCell (World.setCell (World.setCell (World.setCell (World.setCell W ⟨b, k * 6, none⟩ (v0)) ⟨b, k * 6 + 1, none⟩ (v1)) ⟨b, k * 6 + 2, none⟩ (v2)) ⟨b, k * 6 + 3, none⟩ (v3)) ⟨b, k * 6 + 4, none⟩ (v4)) ⟨b, k * 6 + 5, none⟩ (v5)) (some b) :=
  grow_own (grow_own (grow_own (grow_own (grow_own (grow_own h (k * 6) v0) (k * 6 + 1) v1) (k * 6 + 2) v2) (k * 6 + 3) v3) (k * 6 + 4) v4) (k * 6 + 5) v5
theorem keeps_set6 (W : World) (B b : Nat) (v0 v1 v2 v3 v4 v5 : Value) : KeepsFrom B W (World.setCell (World.setCell (World.setCell (World.setCell (World.setCell (World.setCell W ⟨b, 0, none⟩ (v0)) ⟨b, 1, none⟩ (v1)) ⟨b, 2, none⟩ (v2)) ⟨b, 3, none⟩ (v3)) ⟨b, 4, none⟩ (v4)) ⟨b, 5, none⟩ (v5)) :=
  ((((((KeepsOthers.setCell _ _ _).from B).trans ((KeepsOthers.setCell _ _ _).from B)).trans ((KeepsOthers.setCell _ _ _).from B)).trans ((KeepsOthers.setCell _ _ _).from B)).trans ((KeepsOthers.setCell _ _ _).from B)).trans ((KeepsOthers.setCell _ _ _).from B)
theorem keeps_row6 (W : World) (B b k : Nat) (v0 v1 v2 v3 v4 v5 : Value) : KeepsFrom B W (World.setCell (World.setCell (World.setCell (World.setCell (World.setCell (World.setCell W ⟨b, k * 6, none⟩ (v0)) ⟨b, k * 6 + 1, none⟩ (v1)) ⟨b, k * 6 + 2, none⟩ (v2)) ⟨b, k * 6 + 3, none⟩ (v3)) ⟨b, k * 6 + 4, none⟩ (v4)) ⟨b, k * 6 + 5, none⟩ (v5)) :=
  ((((((KeepsOthers.setCell _ _ _).from B).trans ((KeepsOthers.setCell _ _ _).from B)).trans ((KeepsOthers.setCell _ _ _).from B)).trans ((KeepsOthers.setCell _ _ _).from B)).trans ((KeepsOthers.setCell _ _ _).from B)).trans ((KeepsOthers.setCell _ _ _).from B)
end

/-- A round that tells that the change can't pass. -/
theorem thru_no {w X w2 : World} {R : Nat → Prop} {base i : Nat} {v : Value} {l : List Ch} {q x p : Ch} {post : List Ch} {D1 D2 : Option Addr} {m1 k1 m2 k2 B : Nat} {pre : List Nat} (hI : ThI w R base v l q (i + 1) x post D1 m1 k1 D2 m2 k2 X) (hb2 : Below X.heap.size X w2) (hx : l[i]? = some p) (hn : passP p x = none) (o o' : Obj) :
    KeepsFrom B X ((((World.setCell (World.setCell (World.setCell (World.setCell (World.setCell (World.setCell w2 ⟨w.heap.size + 1 + 1, 0, none⟩ (.int .i64 0)) ⟨w.heap.size + 1 + 1, 1, none⟩ (.string ⟨#[]⟩)) ⟨w.heap.size + 1 + 1, 2, none⟩ (.string ⟨#[]⟩)) ⟨w.heap.size + 1 + 1, 3, none⟩ (.int .i64 0)) ⟨w.heap.size + 1 + 1, 4, none⟩ (.slice none 0 0)) ⟨w.heap.size + 1 + 1, 5, none⟩ (.slice none 0 0)).setCell ⟨w.heap.size + 1 + 1 + 1, 0, none⟩ (.bool false)).alloc o).alloc o') ∧
    ThX w v l q .ret pre ((((World.setCell (World.setCell (World.setCell (World.setCell (World.setCell (World.setCell w2 ⟨w.heap.size + 1 + 1, 0, none⟩ (.int .i64 0)) ⟨w.heap.size + 1 + 1, 1, none⟩ (.string ⟨#[]⟩)) ⟨w.heap.size + 1 + 1, 2, none⟩ (.string ⟨#[]⟩)) ⟨w.heap.size + 1 + 1, 3, none⟩ (.int .i64 0)) ⟨w.heap.size + 1 + 1, 4, none⟩ (.slice none 0 0)) ⟨w.heap.size + 1 + 1, 5, none⟩ (.slice none 0 0)).setCell ⟨w.heap.size + 1 + 1 + 1, 0, none⟩ (.bool false)).alloc o).alloc o') := by
  have hbr := hI.br.below hb2 hI.br.lt
  have hbb := hI.bb.below hb2 hI.bb.lt
  refine ⟨(((((keepsFrom_below B hb2).trans (keeps_set6 w2 B (w.heap.size + 1 + 1) _ _ _ _ _ _)).trans ((KeepsOthers.setCell _ _ _).from B)).trans ((KeepsOthers.alloc _ o).from B)).trans ((KeepsOthers.alloc _ o').from B)), rfl, one_step_none passP hx hI.eq hn, ?_, ?_, ?_⟩
  · exact (((blk6 hbr (.int .i64 0) (.string ⟨#[]⟩) (.string ⟨#[]⟩) (.int .i64 0) (.slice none 0 0) (.slice none 0 0)).set_ne (by omega) 0 (.bool false)).alloc o).alloc o'
  · exact (((blk_set6 hbb (g := w.heap.size + 1 + 1) (by omega) (.int .i64 0) (.string ⟨#[]⟩) (.string ⟨#[]⟩) (.int .i64 0) (.slice none 0 0) (.slice none 0 0)).set 0 (.bool false)).alloc o).alloc o'
  · exact grow_trans (grow_trans (grow_set (grow_set6 (grow_below hI.fr hb2) (by omega) _ _ _ _ _ _) (by omega) 0 _) (World.grownBy_alloc _ o none) (by simp)) (World.grownBy_alloc _ o' none) (by simp)

/-- A round in which both pass: first the change is stored, then the one of the list. -/
theorem thru_mid {w X w2 w4 : World} {R : Nat → Prop} {base i g n c : Nat} {l : List Ch} {q x x1 y1 : Ch} {post : List Ch} {D1 D2 : Option Addr} {m1 k1 m2 k2 : Nat} {E1 E2 E3 E4 : Option Addr} {n1 c1 n2 c2 n3 c3 n4 c4 : Nat}
    (hI : ThI w (RB w R) base (.slice (some ⟨g, 0, none⟩) n c) l q (i + 1) x post D1 m1 k1 D2 m2 k2 X) (hR : R g) (hrl : ∀ b, R b → b < w.heap.size) (hb2 : Below X.heap.size X w2) (hb4 : Below w2.heap.size w2 w4)
    (hv : PV w2 w2.heap.size E1 n1 c1 E2 n2 c2 x1) (gv : PV w2 w2.heap.size E3 n3 c3 E4 n4 c4 y1) (hh : Hi X.heap.size E1 ∧ Hi X.heap.size E2 ∧ Hi X.heap.size E3 ∧ Hi X.heap.size E4) :
    let w6 := (World.setCell (World.setCell (World.setCell (World.setCell (World.setCell (World.setCell w4 ⟨w.heap.size + 1, 0, none⟩ (.int .i64 x1.k)) ⟨w.heap.size + 1, 1, none⟩ (strV x1.nm)) ⟨w.heap.size + 1, 2, none⟩ (strV x1.to)) ⟨w.heap.size + 1, 3, none⟩ (.int .i64 x1.h.pos)) ⟨w.heap.size + 1, 4, none⟩ (.slice E1 n1 c1)) ⟨w.heap.size + 1, 5, none⟩ (.slice E2 n2 c2))
    OwnS w6 (But w6 (RB w R)) base (.slice (some ⟨g, 0, none⟩) n c) (l.take (i + 1) ++ post) ∧ PG w6 (But w6 (RB w R)) E1 n1 c1 E2 n2 c2 x1 ∧ PG w6 (But w6 (RB w R)) E3 n3 c3 E4 n4 c4 y1 ∧
    Blk w6 w.heap.size 26 #[.slice (some ⟨g, 0, none⟩) n c] ∧ Blk w6 (w.heap.size + 1) 42 (cellsV x1 E1 n1 c1 E2 n2 c2) ∧ Blk w6 (w.heap.size + 1 + 1) 42 zeroV ∧ Blk w6 (w.heap.size + 1 + 1 + 1) 4 #[.bool false] ∧ w.grownBy w6 (some g) ∧
    (∀ B, KeepsFrom B X w6) ∧ (∀ Bs v, w.heap.size + 1 < Bs → Boxed X Bs 26 v → Boxed w6 Bs 26 v) := by
  intro w6
  have hX : w.heap.size + 4 ≤ X.heap.size := by have := hI.bb.lt; omega
  have hb : Below X.heap.size X w4 := hb2.trans (hb4.mono hb2.size)
  have hs4 : w4.heap.size = w6.heap.size := by simp [w6]
  have h2 : w2.heap.size ≤ w4.heap.size := hb4.size
  have hS : ∀ b, (X.heap.size ≤ b ∧ b < w2.heap.size) → But w4 (RB w R) b := fun b h => ⟨by omega, fun e => e.elim (fun e => by have := hrl b e; omega) (fun e => by omega)⟩
  have hq : RB w R (w.heap.size + 1) := .inr ⟨by omega, by omega⟩
  have hne : ∀ b, But w4 (RB w R) b → b ≠ w.heap.size + 1 := fun b h e => h.2 (e ▸ hq)
  have hgl := hrl g hR
  have al := (alike_set6 w4 (w.heap.size + 1) (.int .i64 x1.k) (strV x1.nm) (strV x1.to) (.int .i64 x1.h.pos) (.slice E1 n1 c1) (.slice E2 n2 c2)).mono hne
  have up := but_up (R := RB w R) (Nat.le_of_eq hs4)
  have l0 := hI.bl.lt; have l1 := hI.bq.lt; have l2 := hI.br.lt; have l3 := hI.bb.lt
  refine ⟨?_, ?_, ?_, ?_, ?_, ?_, ?_, ?_, ?_, ?_⟩
  · exact (((hI.row.below hb).mono (but_up hb.size)).set6 (b := w.heap.size + 1) (fun e => by injection e with e; have e : w.heap.size + 1 = g := e; omega) (fun h => hne _ h rfl) _ _ _ _ _ _).mono up
  · exact (((((pg_hi hv hh.1 hh.2.1).to_ (fun b h hl => hb4.block b hl)).mono hS).to_ al).mono up)
  · exact (((((pg_hi gv hh.2.2.1 hh.2.2.2).to_ (fun b h hl => hb4.block b hl)).mono hS).to_ al).mono up)
  · exact blk_set6 (hI.bl.below hb l0) (by omega) _ _ _ _ _ _
  · exact blk6 (hI.bq.below hb l1) _ _ _ _ _ _
  · exact blk_set6 (hI.br.below hb l2) (by omega) _ _ _ _ _ _
  · exact blk_set6 (hI.bb.below hb l3) (by omega) _ _ _ _ _ _
  · exact grow_set6 (grow_below hI.fr hb) (by omega) _ _ _ _ _ _
  · exact fun B => (keepsFrom_below B hb).trans (keeps_set6 _ _ _ _ _ _ _ _ _)
  · exact fun Bs v hB hv => blk_set6 (Blk.below (show Blk X Bs 26 #[v] from hv) hb hv.lt) (by omega) _ _ _ _ _ _

theorem thru_fin {w X w6 : World} {R : Nat → Prop} {base i g n c : Nat} {l : List Ch} {q x p x1 y1 : Ch} {post : List Ch} {D1 D2 : Option Addr} {m1 k1 m2 k2 : Nat} {E1 E2 E3 E4 : Option Addr} {n1 c1 n2 c2 n3 c3 n4 c4 : Nat}
    (hI : ThI w (RB w R) base (.slice (some ⟨g, 0, none⟩) n c) l q (i + 1) x post D1 m1 k1 D2 m2 k2 X) (hR : R g) (hgl : g < w.heap.size) (hx : l[i]? = some p) (hlp : lightP p = true) (hL : (l.take (i + 1) ++ post).length = n) (hs : passP p x = some (x1, y1))
    (h1 : OwnS w6 (But w6 (RB w R)) base (.slice (some ⟨g, 0, none⟩) n c) (l.take (i + 1) ++ post)) (h2 : PG w6 (But w6 (RB w R)) E1 n1 c1 E2 n2 c2 x1) (h3 : PG w6 (But w6 (RB w R)) E3 n3 c3 E4 n4 c4 y1)
    (h4 : Blk w6 w.heap.size 26 #[.slice (some ⟨g, 0, none⟩) n c]) (h5 : Blk w6 (w.heap.size + 1) 42 (cellsV x1 E1 n1 c1 E2 n2 c2)) (h6 : Blk w6 (w.heap.size + 1 + 1) 42 zeroV) (h7 : Blk w6 (w.heap.size + 1 + 1 + 1) 4 #[.bool false]) (h8 : w.grownBy w6 (some g)) :
    let w9 := (World.setCell (World.setCell (World.setCell (World.setCell (World.setCell (World.setCell w6 ⟨g, i * 6, none⟩ (.int .i64 y1.k)) ⟨g, i * 6 + 1, none⟩ (strV y1.nm)) ⟨g, i * 6 + 2, none⟩ (strV y1.to)) ⟨g, i * 6 + 3, none⟩ (.int .i64 y1.h.pos)) ⟨g, i * 6 + 4, none⟩ (.slice E3 n3 c3)) ⟨g, i * 6 + 5, none⟩ (.slice E4 n4 c4))
    ThI w (RB w R) base (.slice (some ⟨g, 0, none⟩) n c) l q i x1 (y1 :: post) E1 n1 c1 E2 n2 c2 w9 ∧ (∀ B, KeepsFrom B w6 w9) ∧ (∀ Bs v, Bs ≠ g → Boxed w6 Bs 26 v → Boxed w9 Bs 26 v) ∧ Cells6 w9 (some ⟨g, 0, none⟩) n := by
  intro w9
  have hs9 : w6.heap.size = w9.heap.size := by simp [w9]
  have hne : ∀ b, But w6 (RB w R) b → b ≠ g := fun b h e => h.2 (.inl (e ▸ hR))
  have up := but_up (R := RB w R) (Nat.le_of_eq hs9)
  have hrow : OwnS w9 (But w9 (RB w R)) base (.slice (some ⟨g, 0, none⟩) n c) (l.take i ++ y1 :: post) := by
    have := (h1.store (k := i) hL (fun h => hne _ h rfl) h3).mono up
    rw [set_mid hx] at this
    exact this
  refine ⟨⟨one_step passP hx hI.eq hs, (passP_lt hs hlp hI.lx).1, hrow, ?_, ?_, ?_, ?_, ?_, ?_⟩, fun B => keeps_row6 _ _ _ _ _ _ _ _ _ _, fun Bs v hB hv => ?_, cells6_own hrow ?_⟩
  · exact (h2.to_ ((alike_row6 w6 g i _ _ _ _ _ _).mono hne)).mono up
  · exact blk_row6 h4 (by omega) i _ _ _ _ _ _
  · exact blk_row6 h5 (by omega) i _ _ _ _ _ _
  · exact blk_row6 h6 (by omega) i _ _ _ _ _ _
  · exact blk_row6 h7 (by omega) i _ _ _ _ _ _
  · exact grow_own6 h8 i _ _ _ _ _ _
  · exact blk_row6 (show Blk w6 Bs 26 #[v] from hv) hB i _ _ _ _ _ _
  · rw [← hL, ← set_mid (y := y1) hx, List.length_set]

theorem thru_put {w W : World} {r : Option Nat} {E : Nat} (hE : w.heap.size + 4 ≤ E) (hK : W.heap[E]? = some (.deferred (some []))) (hg : w.grownBy W r) : w.grownBy (W.putObj E (.deferred none)) r ∧ (∀ b t cs, b < w.heap.size + 4 → Blk W b t cs → Blk (W.putObj E (.deferred none)) b t cs) ∧
    (∀ S base v l, OwnS W S base v l → OwnS (W.putObj E (.deferred none)) S base v l) ∧ (∀ S A n c B m d x, PG W S A n c B m d x → PG (W.putObj E (.deferred none)) S A n c B m d x) ∧ W.heap.size = (W.putObj E (.deferred none)).heap.size := by
  have hp := grownBy_putObj' W E (.deferred none)
  have hr : ∀ r, some E = some r → ∃ o : Obj, W.heap[r]? = some o ∧ o.isCells = false := fun r e => by injection e with e; subst e; exact ⟨_, hK, rfl⟩
  exact ⟨grow_trans hg hp (fun j e => .inl (by injection e with e; omega)), fun b t cs hb h => h.gr hp (fun e => by injection e with e; omega), fun S base v l h => h.plain hp hr, fun S A n c B m d x h => h.kc (keepC_plain hp hr), by simp⟩

theorem thru_done {w W : World} {R : Nat → Prop} {base n c E : Nat} {A : Option Addr} {l : List Ch} {q x : Ch} {post : List Ch} {D1 D2 : Option Addr} {m1 k1 m2 k2 : Nat}
    (hI : ThI w (RB w R) base (.slice A n c) l q 0 x post D1 m1 k1 D2 m2 k2 W) (hr : ∀ g, (Value.slice A n c).ownBlock = some g → R g) (hrl : ∀ b, R b → b < w.heap.size) (hE : w.heap.size + 4 ≤ E) (hK : W.heap[E]? = some (.deferred (some []))) :
    let W9 := (World.setCell (World.setCell (World.setCell (World.setCell (World.setCell (World.setCell W ⟨w.heap.size + 1 + 1, 0, none⟩ (.int .i64 x.k)) ⟨w.heap.size + 1 + 1, 1, none⟩ (strV x.nm)) ⟨w.heap.size + 1 + 1, 2, none⟩ (strV x.to)) ⟨w.heap.size + 1 + 1, 3, none⟩ (.int .i64 x.h.pos)) ⟨w.heap.size + 1 + 1, 4, none⟩ (.slice D1 m1 k1)) ⟨w.heap.size + 1 + 1, 5, none⟩ (.slice D2 m2 k2)).setCell ⟨w.heap.size + 1 + 1 + 1, 0, none⟩ (.bool true)
    W9.heap[E]? = some (.deferred (some [])) ∧ Blk (W9.putObj E (.deferred none)) (w.heap.size + 1 + 1) 42 (cellsV x D1 m1 k1 D2 m2 k2) ∧ Blk (W9.putObj E (.deferred none)) (w.heap.size + 1 + 1 + 1) 4 #[.bool true] ∧
      OwnS (W9.putObj E (.deferred none)) (But (W9.putObj E (.deferred none)) R) base (.slice A n c) post ∧ PG (W9.putObj E (.deferred none)) (But (W9.putObj E (.deferred none)) R) D1 m1 k1 D2 m2 k2 x ∧ w.grownBy (W9.putObj E (.deferred none)) (Value.slice A n c).ownBlock := by
  intro W9
  have hsz : W.heap.size = W9.heap.size := by simp [W9]
  have hne : ∀ b, But W (RB w R) b → b ≠ w.heap.size + 1 + 1 := fun b h e => h.2 (.inr (by omega))
  have hne' : ∀ b, But W (RB w R) b → b ≠ w.heap.size + 1 + 1 + 1 := fun b h e => h.2 (.inr (by omega))
  have hv : ∀ b, w.heap.size ≤ b → some b ≠ (Value.slice A n c).ownBlock := fun b hb e => by have := hrl b (hr b e.symm); omega
  have k9 : W9.heap[E]? = some (.deferred (some [])) := ((keeps_set6 W E (w.heap.size + 1 + 1) _ _ _ _ _ _).trans ((KeepsOthers.setCell _ _ _).from E)).same E _ (Nat.le_refl _) hK rfl
  have g9 : w.grownBy W9 (Value.slice A n c).ownBlock := grow_set (grow_set6 hI.fr (by omega) _ _ _ _ _ _) (by omega) 0 _
  obtain ⟨p1, p2, p3, p4, p5⟩ := thru_put hE k9 g9
  have up : ∀ b, But W (RB w R) b → But (W9.putObj E (.deferred none)) R b := fun b h => ⟨by have := h.1; omega, fun e => h.2 (.inl e)⟩
  have hrow := hI.row
  rw [List.take_zero, List.nil_append] at hrow
  refine ⟨k9, p2 _ _ _ (by omega) ?_, p2 _ _ _ (by omega) ?_, (p3 _ _ _ _ ?_).mono up, (p4 _ _ _ _ _ _ _ _ ?_).mono up, p1⟩
  · exact (blk6 hI.br _ _ _ _ _ _).set_ne (by omega) 0 _
  · exact (blk_set6 hI.bb (g := w.heap.size + 1 + 1) (by omega) _ _ _ _ _ _).set 0 (.bool true)
  · exact (hrow.set6 (hv _ (by omega)) (fun h => hne _ h rfl) _ _ _ _ _ _).set (hv _ (by omega)) (fun h => hne' _ h rfl) 0 _
  · exact (hI.pg.to_ ((alike_set6 W _ _ _ _ _ _ _).mono hne)).to_ ((alike_set _ _ _ _).mono hne')

/-- The memory in which the range begins. -/
theorem thru_start {w : World} {R : Nat → Prop} {base n c : Nat} {A : Option Addr} {l : List Ch} {D : Option Addr} {m k : Nat} {D' : Option Addr} {m' k' : Nat} {q : Ch} (h : ThN w R base n c A l D m k D' m' k' q) :
    let w5 := ((((w.alloc (.cells #[.slice A n c] 26)).alloc (.cells (cellsV q D m k D' m' k') 42)).alloc (.cells zeroV 42)).alloc (.cells #[.bool false] 4)).alloc (.cells #[.slice A n c] 26)
    ThJ w (RB w R) base (.slice A n c) l q n [] w5 ∧ Boxed w5 (w.heap.size + 1 + 1 + 1 + 1) 26 (.slice A n c) ∧ w5.heap.size = w.heap.size + 5 ∧ Cells6 w5 A n := by
  intro w5
  have hw : Below w.heap.size w w5 := (((((Below.refl _ _).alloc (Nat.le_refl _) _).alloc (by simp) _).alloc (by simp; omega) _).alloc (by simp; omega) _).alloc (by simp; omega) _
  have hsz : w5.heap.size = w.heap.size + 5 := by simp [w5]
  have hg : w.grownBy w5 none := grow_trans (grow_trans (grow_trans (grow_trans (World.grownBy_alloc w _ none) (World.grownBy_alloc _ _ none) (by simp)) (World.grownBy_alloc _ _ none) (by simp)) (World.grownBy_alloc _ _ none) (by simp)) (World.grownBy_alloc _ _ none) (by simp)
  have b0 := ((((Blk.new w 26 #[.slice A n c]).alloc (.cells (cellsV q D m k D' m' k') 42)).alloc (.cells zeroV 42)).alloc (.cells #[.bool false] 4)).alloc (.cells #[.slice A n c] 26)
  have b1 := (((Blk.new (w.alloc (.cells #[.slice A n c] 26)) 42 (cellsV q D m k D' m' k')).alloc (.cells zeroV 42)).alloc (.cells #[.bool false] 4)).alloc (.cells #[.slice A n c] 26)
  have b2 := ((Blk.new ((w.alloc (.cells #[.slice A n c] 26)).alloc (.cells (cellsV q D m k D' m' k') 42)) 42 zeroV).alloc (.cells #[.bool false] 4)).alloc (.cells #[.slice A n c] 26)
  have b3 := (Blk.new (((w.alloc (.cells #[.slice A n c] 26)).alloc (.cells (cellsV q D m k D' m' k') 42)).alloc (.cells zeroV 42)) 4 #[.bool false]).alloc (.cells #[.slice A n c] 26)
  have b4 := Boxed.new ((((w.alloc (.cells #[.slice A n c] 26)).alloc (.cells (cellsV q D m k D' m' k') 42)).alloc (.cells zeroV 42)).alloc (.cells #[.bool false] 4)) 26 (.slice A n c)
  simp only [World.size_alloc] at b1 b2 b3 b4
  have hs : ∀ b, But w R b → But w5 (RB w R) b := fun b hb => ⟨by have := hb.1; omega, fun e => e.elim hb.2 fun e => by have := hb.1; omega⟩
  have hrow : OwnS w5 (But w5 (RB w R)) base (.slice A n c) l := (h.row.below hw).mono hs
  refine ⟨⟨q, [], D, m, k, D', m', k', ?_, h.lq, ?_, (h.pg.to_ (fun b hb hl => hw.block b hl)).mono hs, b0, b1, b2, b3, ?_⟩, b4, hsz, cells6_own hrow h.len⟩
  · rw [List.length_nil, Nat.sub_zero, List.drop_of_length_le (by rw [h.len]; exact Nat.le_refl _)]; rfl
  · rw [List.length_nil, Nat.sub_zero, List.take_of_length_le (by rw [h.len]; exact Nat.le_refl _), List.append_nil]; exact hrow
  · exact ⟨hg.os, hg.tape, hg.output, hg.size, fun k hk _ => hg.block k hk (by simp)⟩

end Fl
end Go.Proofs.YtjhjmfodpnipiaaGreat
