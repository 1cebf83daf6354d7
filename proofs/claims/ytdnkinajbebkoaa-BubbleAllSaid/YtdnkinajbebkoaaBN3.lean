/-
  Words and contracts, joined: FlThru FlHi FlPass TgPass FlCut FlRefPass TgBack TgWords PnEx PnAll TgOver GK BbRow BbKept BbOwn TgAwake TgLaw.
-/
import Derived.Deep.RegionWith
import Derived.Deep.RegionHeld3
import Derived.BigQuiet
import Derived.Deep.Cut
import Derived.Test.YtdnkinajbebkoaaRows
import Derived.RangeFuncBound
import Derived.Shelf.Abstract
import Derived.Shelf.RegionOpen
import Derived.WalkKit
import Derived.OwnWalkIn
import Derived.TacticsInMore
import Derived.LoopNIn
import Derived.LoopIn
import Derived.Maps.AppendAt
import Derived.WalkSpells
import Derived.WalkLawsBesides
import Derived.Lib.Hide
import Derived.Laws.StructEq
import Derived.Deep.RegionLaw
import Derived.Test.YtdnkinajbebkoaaBN2
set_option maxRecDepth 100000
namespace Go.Proofs.Ytdnkinajbebkoaa
open Go.RowKit Go.Shelf
set_option linter.unusedVariables false
set_option linter.unusedSimpArgs false
namespace Fl
open Tx Df Sq Hk Tr Pr Rg
attribute [local go_sem] Oper.semAt_some

/-- The cells of a change. -/
abbrev cellsV (x : Ch) (A : Option Addr) (n c : Nat) (B : Option Addr) (m d : Nat) : Array Value := #[.int .i64 x.k, strV x.nm, strV x.to, .int .i64 x.h.pos, .slice A n c, .slice B m d]
abbrev zeroV : Array Value := #[.int .i64 0, .string ⟨#[]⟩, .string ⟨#[]⟩, .int .i64 0, .slice none 0 0, .slice none 0 0]

/-- How through ends. -/
def ThruEnd (w : World) (R : Nat → Prop) (base : Nat) (v : Value) (o : Option (Ch × List Ch)) (e : Ending) (w' : World) : Prop :=
  (∀ z, o = some z → ∃ D m k D' m' k', e = .returned (.tuple #[prV z.1.k z.1.nm z.1.to z.1.h.pos D m k D' m' k', .bool true]) ∧ OwnS w' (But w' R) base v z.2 ∧ PG w' (But w' R) D m k D' m' k' z.1) ∧
  (o = none → e = .returned (.tuple #[.agg zeroV, .bool false])) ∧ w.grownBy w' v.ownBlock

/-- The values that are handed over, with the cells they come from. -/
theorem ab_EL {β : Type} {n : Nat} {A : Option Addr} {i : Nat} {vals : Array Value} {B : Nat} : Ab (β := β) Plain B (fun _ W => EL n A i vals W) := fun s W W' row hs hg hr => by
  have hk : KeepC (fun _ => True) W W' := keepC_plain hg (fun r e => (hr r e).2)
  obtain ⟨hi, a, v0, v1, v2, v3, v4, v5, h1, h2, c0, c1, c2, c3, c4, c5⟩ := hs
  exact ⟨hi, a, v0, v1, v2, v3, v4, v5, h1, h2, hk.cell trivial c0, hk.cell trivial c1, hk.cell trivial c2, hk.cell trivial c3, hk.cell trivial c4, hk.cell trivial c5⟩
theorem EL.row {X : World} {S : Nat → Prop} {base n c i : Nat} {A : Option Addr} {L : List Ch} {vals : Array Value} (h : EL n A i vals X) (hr : OwnS X S base (.slice A n c) L) (hL : L.length = n) :
    ∃ p g B r s B' r' s', A = some ⟨g, 0, none⟩ ∧ L[i]? = some p ∧ vals = #[.int .i64 (i : Int), .agg (cellsV p B r s B' r' s')] ∧ PG X S B r s B' r' s' p ∧ base ≤ g ∧ g < X.heap.size := by
  obtain ⟨hi, a, v0, v1, v2, v3, v4, v5, rfl, rfl, c0, c1, c2, c3, c4, c5⟩ := h
  have hr0 := hr
  obtain ⟨xs, hrow, _⟩ := hr0
  rcases hrow.2 with ⟨e, _⟩ | ⟨g, cap, cur, e, hbg, hgb, hc, _⟩
  · cases e
  · injection e with e1 e2 e3
    injection e1 with e1
    subst e1
    obtain ⟨p, hp⟩ : ∃ p, L[i]? = some p := ⟨_, List.getElem?_eq_getElem (by omega)⟩
    obtain ⟨B, r, s, B', r', s', g0, g1, g2, g3, g4, g5, _, hpg⟩ := hr.elem hL hp
    have ea : (⟨g, 0, none⟩ : Addr).add (i * 6) = ⟨g, i * 6, none⟩ := by unfold Addr.add; split <;> simp_all
    rw [ea] at c0 c1 c2 c3 c4 c5
    have e0 := Option.some.inj (c0.symm.trans g0)
    have e1 := Option.some.inj (c1.symm.trans g1)
    have e2 := Option.some.inj (c2.symm.trans g2)
    have e3 := Option.some.inj (c3.symm.trans g3)
    have e4 := Option.some.inj (c4.symm.trans g4)
    have e5 := Option.some.inj (c5.symm.trans g5)
    subst e0 e1 e2 e3 e4 e5
    exact ⟨p, g, B, r, s, B', r', s', rfl, hp, rfl, hpg, hbg, (Array.getElem?_eq_some_iff.1 hgb).1⟩
theorem vals_eq {i : Int} {v0 v1 v2 v3 v4 v5 : Value} {p : Ch} {B B' : Option Addr} {r s r' s' : Nat} (h : #[Value.int .i64 i, .agg #[v0, v1, v2, v3, v4, v5]] = #[.int .i64 i, .agg (cellsV p B r s B' r' s')]) :
    v0 = .int .i64 p.k ∧ v1 = strV p.nm ∧ v2 = strV p.to ∧ v3 = .int .i64 p.h.pos ∧ v4 = .slice B r s ∧ v5 = .slice B' r' s' := by
  simpa using h

/-- Between two rounds. -/
structure ThI (w : World) (R : Nat → Prop) (base : Nat) (v : Value) (l : List Ch) (q : Ch) (j : Nat) (x : Ch) (post : List Ch) (D : Option Addr) (m k : Nat) (D' : Option Addr) (m' k' : Nat) (W : World) : Prop where
  eq : one passP (l.drop j) q = some (x, post)
  lx : lightP x = true
  row : OwnS W (But W R) base v (l.take j ++ post)
  pg : PG W (But W R) D m k D' m' k' x
  bl : Blk W w.heap.size 43 #[v]
  bq : Blk W (w.heap.size + 1) 54 (cellsV x D m k D' m' k')
  br : Blk W (w.heap.size + 1 + 1) 54 zeroV
  bb : Blk W (w.heap.size + 1 + 1 + 1) 4 #[.bool false]
  fr : w.grownBy W v.ownBlock
def ThJ (w : World) (R : Nat → Prop) (base : Nat) (v : Value) (l : List Ch) (q : Ch) (n : Nat) (pre : List Nat) (W : World) : Prop :=
  ∃ x post D m k D' m' k', ThI w R base v l q (n - pre.length) x post D m k D' m' k' W
def ThX (w : World) (v : Value) (l : List Ch) (q : Ch) (c : Code) (_ : List Nat) (W : World) : Prop :=
  c = .ret ∧ one passP l q = none ∧ Blk W (w.heap.size + 1 + 1) 54 zeroV ∧ Blk W (w.heap.size + 1 + 1 + 1) 4 #[.bool false] ∧ w.grownBy W v.ownBlock
section
variable {w : World} {R : Nat → Prop} {base B n : Nat} {v : Value} {l : List Ch} {q : Ch}
theorem thJ_ab (hB : w.heap.size ≤ B) : Ab Plain B (ThJ w R base v l q n) := fun s W W' row hs hg hr => by
  obtain ⟨x, post, D, m, k, D', m', k', h⟩ := hs
  have bl : ∀ {b : Nat} {t : TypeId} {cs : Array Value}, Blk W b t cs → Blk W' b t cs := fun h => ab_blk (β := Unit) (B := B) (fun _ => _) () W W' row h hg hr
  exact ⟨x, post, D, m, k, D', m', k', h.eq, h.lx, ab_ownS (β := Unit) (B := B) (fun _ => _) () W W' row h.row hg hr, ab_pg (β := Unit) (B := B) (fun _ => _) () W W' row h.pg hg hr, bl h.bl, bl h.bq, bl h.br, bl h.bb, ab_grown (β := Unit) (B := B) hB () W W' row h.fr hg hr⟩
theorem thX_ab (hB : w.heap.size ≤ B) (c : Code) : Ab Plain B (ThX w v l q c) := fun s W W' row hs hg hr => by
  obtain ⟨h1, h2, h3, h4, h5⟩ := hs
  have bl : ∀ {b : Nat} {t : TypeId} {cs : Array Value}, Blk W b t cs → Blk W' b t cs := fun h => ab_blk (β := Unit) (B := B) (fun _ => _) () W W' row h hg hr
  exact ⟨h1, h2, bl h3, bl h4, ab_grown (β := Unit) (B := B) hB () W W' row h5 hg hr⟩
end

theorem ThI.mv {w W W' : World} {R : Nat → Prop} {base j m k m' k' : Nat} {v : Value} {l post : List Ch} {q x : Ch} {D D' : Option Addr} (h : ThI w R base v l q j x post D m k D' m' k' W) (hb : Below W.heap.size W W') : ThI w R base v l q j x post D m k D' m' k' W' :=
  ⟨h.eq, h.lx, (h.row.below hb).mono (but_up hb.size), (h.pg.to_ (fun b _ hl => hb.block b hl)).mono (but_up hb.size), h.bl.below hb h.bl.lt, h.bq.below hb h.bq.lt, h.br.below hb h.br.lt, h.bb.below hb h.bb.lt, grow_trans h.fr (below_gr_row hb) (fun i e => by cases e)⟩
theorem ThI.rowlen {w X : World} {R : Nat → Prop} {base j n m k m' k' : Nat} {v : Value} {l post : List Ch} {q x : Ch} {D D' : Option Addr} (h : ThI w R base v l q j x post D m k D' m' k' X) (hl : l.length = n) (hj : j ≤ n) : (l.take j ++ post).length = n := by
  have := one_len passP h.eq
  rw [List.length_drop] at this
  rw [List.length_append, List.length_take, this]; omega
theorem mid_at {α : Type} {l post : List α} {k : Nat} {p : α} (hk : k < l.length) (h : (l.take (k + 1) ++ post)[k]? = some p) : l[k]? = some p := by
  rw [List.getElem?_append_left (by rw [List.length_take]; omega), List.getElem?_take, if_pos (by omega)] at h
  exact h

theorem keepsFrom_below {W W' : World} (B : Nat) (h : Below W.heap.size W W') : KeepsFrom B W W' := ⟨h.size, fun k o _ hk _ => (h.block k (Array.getElem?_eq_some_iff.1 hk).1).trans hk⟩

/-- What through needs of the memory that it is handed. -/
structure ThN (w : World) (R : Nat → Prop) (base n c : Nat) (A : Option Addr) (l : List Ch) (D : Option Addr) (m k : Nat) (D' : Option Addr) (m' k' : Nat) (q : Ch) : Prop where
  len : l.length = n
  lt : Lt l
  lq : lightP q = true
  r : ∀ g, (Value.slice A n c).ownBlock = some g → R g
  rl : ∀ b, R b → b < w.heap.size
  row : OwnS w (But w R) base (.slice A n c) l
  pg : PG w (But w R) D m k D' m' k' q

/-- R, and the boxes that through makes. -/
def RB (w : World) (R : Nat → Prop) : Nat → Prop := fun b => R b ∨ (w.heap.size ≤ b ∧ b < w.heap.size + 4)
section
variable {w W W' : World} {r : Option Nat} {b : Nat}
theorem grow_set (h : w.grownBy W r) (hb : w.heap.size ≤ b) (j : Nat) (v : Value) : w.grownBy (W.setCell ⟨b, j, none⟩ v) r := grow_trans h (grownBy_set W b j v) (fun i e => .inl (by injection e with e; omega))
theorem grow_own (h : w.grownBy W (some b)) (j : Nat) (v : Value) : w.grownBy (W.setCell ⟨b, j, none⟩ v) (some b) := grow_trans h (grownBy_set W b j v) (fun i e => .inr (by injection e with e; rw [e]))
theorem grow_below (h : w.grownBy W r) (hb : Below W.heap.size W W') : w.grownBy W' r := grow_trans h (below_gr_row hb) (fun i e => by cases e)
theorem grow_set6 (h : w.grownBy W r) (hb : w.heap.size ≤ b) (v0 v1 v2 v3 v4 v5 : Value) : w.grownBy (World.setCell (World.setCell (World.setCell (World.setCell (World.setCell (World.setCell W ⟨b, 0, none⟩ (v0)) ⟨b, 1, none⟩ (v1)) ⟨b, 2, none⟩ (v2)) ⟨b, 3, none⟩ (v3)) ⟨b, 4, none⟩ (v4)) ⟨b, 5, none⟩ (v5)) r :=
  grow_set (grow_set (grow_set (grow_set (grow_set (grow_set h hb 0 v0) hb 1 v1) hb 2 v2) hb 3 v3) hb 4 v4) hb 5 v5
theorem grow_own6 (h : w.grownBy W (some b)) (k : Nat) (v0 v1 v2 v3 v4 v5 : Value) : w.grownBy (World.setCell (World.setCell (World.setCell (World.setCell (World.setCell (World.setCell W ⟨b, k * 6, none⟩ (v0)) ⟨b, k * 6 + 1, none⟩ (v1)) ⟨b, k * 6 + 2, none⟩ (v2)) ⟨b, k * 6 + 3, none⟩ (v3)) ⟨b, k * 6 + 4, none⟩ (v4)) ⟨b, k * 6 + 5, none⟩ (v5)) (some b) :=
  grow_own (grow_own (grow_own (grow_own (grow_own (grow_own h (k * 6) v0) (k * 6 + 1) v1) (k * 6 + 2) v2) (k * 6 + 3) v3) (k * 6 + 4) v4) (k * 6 + 5) v5
theorem keeps_set6 (W : World) (B b : Nat) (v0 v1 v2 v3 v4 v5 : Value) : KeepsFrom B W (World.setCell (World.setCell (World.setCell (World.setCell (World.setCell (World.setCell W ⟨b, 0, none⟩ (v0)) ⟨b, 1, none⟩ (v1)) ⟨b, 2, none⟩ (v2)) ⟨b, 3, none⟩ (v3)) ⟨b, 4, none⟩ (v4)) ⟨b, 5, none⟩ (v5)) :=
  ((((((KeepsOthers.setCell _ _ _).from B).trans ((KeepsOthers.setCell _ _ _).from B)).trans ((KeepsOthers.setCell _ _ _).from B)).trans ((KeepsOthers.setCell _ _ _).from B)).trans ((KeepsOthers.setCell _ _ _).from B)).trans ((KeepsOthers.setCell _ _ _).from B)
theorem keeps_row6 (W : World) (B b k : Nat) (v0 v1 v2 v3 v4 v5 : Value) : KeepsFrom B W (World.setCell (World.setCell (World.setCell (World.setCell (World.setCell (World.setCell W ⟨b, k * 6, none⟩ (v0)) ⟨b, k * 6 + 1, none⟩ (v1)) ⟨b, k * 6 + 2, none⟩ (v2)) ⟨b, k * 6 + 3, none⟩ (v3)) ⟨b, k * 6 + 4, none⟩ (v4)) ⟨b, k * 6 + 5, none⟩ (v5)) :=
  ((((((KeepsOthers.setCell _ _ _).from B).trans ((KeepsOthers.setCell _ _ _).from B)).trans ((KeepsOthers.setCell _ _ _).from B)).trans ((KeepsOthers.setCell _ _ _).from B)).trans ((KeepsOthers.setCell _ _ _).from B)).trans ((KeepsOthers.setCell _ _ _).from B)
end

/-- A round that tells that the change can't pass. -/
theorem thru_no {w X w2 : World} {R : Nat → Prop} {base i : Nat} {v : Value} {l : List Ch} {q x p : Ch} {post : List Ch} {D1 D2 : Option Addr} {m1 k1 m2 k2 B : Nat} {pre : List Nat} (hI : ThI w R base v l q (i + 1) x post D1 m1 k1 D2 m2 k2 X) (hb2 : Below X.heap.size X w2) (hx : l[i]? = some p) (hn : passP p x = none) (o o' : Obj) :
    KeepsFrom B X ((((World.setCell (World.setCell (World.setCell (World.setCell (World.setCell (World.setCell w2 ⟨w.heap.size + 1 + 1, 0, none⟩ (.int .i64 0)) ⟨w.heap.size + 1 + 1, 1, none⟩ (.string ⟨#[]⟩)) ⟨w.heap.size + 1 + 1, 2, none⟩ (.string ⟨#[]⟩)) ⟨w.heap.size + 1 + 1, 3, none⟩ (.int .i64 0)) ⟨w.heap.size + 1 + 1, 4, none⟩ (.slice none 0 0)) ⟨w.heap.size + 1 + 1, 5, none⟩ (.slice none 0 0)).setCell ⟨w.heap.size + 1 + 1 + 1, 0, none⟩ (.bool false)).alloc o).alloc o') ∧
    ThX w v l q .ret pre ((((World.setCell (World.setCell (World.setCell (World.setCell (World.setCell (World.setCell w2 ⟨w.heap.size + 1 + 1, 0, none⟩ (.int .i64 0)) ⟨w.heap.size + 1 + 1, 1, none⟩ (.string ⟨#[]⟩)) ⟨w.heap.size + 1 + 1, 2, none⟩ (.string ⟨#[]⟩)) ⟨w.heap.size + 1 + 1, 3, none⟩ (.int .i64 0)) ⟨w.heap.size + 1 + 1, 4, none⟩ (.slice none 0 0)) ⟨w.heap.size + 1 + 1, 5, none⟩ (.slice none 0 0)).setCell ⟨w.heap.size + 1 + 1 + 1, 0, none⟩ (.bool false)).alloc o).alloc o') := by
  have hbr := hI.br.below hb2 hI.br.lt
  have hbb := hI.bb.below hb2 hI.bb.lt
  refine ⟨(((((keepsFrom_below B hb2).trans (keeps_set6 w2 B (w.heap.size + 1 + 1) _ _ _ _ _ _)).trans ((KeepsOthers.setCell _ _ _).from B)).trans ((KeepsOthers.alloc _ o).from B)).trans ((KeepsOthers.alloc _ o').from B)), rfl, one_step_none passP hx hI.eq hn, ?_, ?_, ?_⟩
  · exact (((blk6 hbr (.int .i64 0) (.string ⟨#[]⟩) (.string ⟨#[]⟩) (.int .i64 0) (.slice none 0 0) (.slice none 0 0)).set_ne (by omega) 0 (.bool false)).alloc o).alloc o'
  · exact (((blk_set6 hbb (g := w.heap.size + 1 + 1) (by omega) (.int .i64 0) (.string ⟨#[]⟩) (.string ⟨#[]⟩) (.int .i64 0) (.slice none 0 0) (.slice none 0 0)).set 0 (.bool false)).alloc o).alloc o'
  · exact grow_trans (grow_trans (grow_set (grow_set6 (grow_below hI.fr hb2) (by omega) _ _ _ _ _ _) (by omega) 0 _) (World.grownBy_alloc _ o none) (by simp)) (World.grownBy_alloc _ o' none) (by simp)

/-- A round in which both pass: first the change is stored, then the one of the list. -/
theorem thru_mid {w X w2 w4 : World} {R : Nat → Prop} {base i g n c : Nat} {l : List Ch} {q x x1 y1 : Ch} {post : List Ch} {D1 D2 : Option Addr} {m1 k1 m2 k2 : Nat} {E1 E2 E3 E4 : Option Addr} {n1 c1 n2 c2 n3 c3 n4 c4 : Nat}
    (hI : ThI w (RB w R) base (.slice (some ⟨g, 0, none⟩) n c) l q (i + 1) x post D1 m1 k1 D2 m2 k2 X) (hR : R g) (hrl : ∀ b, R b → b < w.heap.size) (hb2 : Below X.heap.size X w2) (hb4 : Below w2.heap.size w2 w4)
    (hv : PV w2 w2.heap.size E1 n1 c1 E2 n2 c2 x1) (gv : PV w2 w2.heap.size E3 n3 c3 E4 n4 c4 y1) (hh : Hi X.heap.size E1 ∧ Hi X.heap.size E2 ∧ Hi X.heap.size E3 ∧ Hi X.heap.size E4) :
    let w6 := (World.setCell (World.setCell (World.setCell (World.setCell (World.setCell (World.setCell w4 ⟨w.heap.size + 1, 0, none⟩ (.int .i64 x1.k)) ⟨w.heap.size + 1, 1, none⟩ (strV x1.nm)) ⟨w.heap.size + 1, 2, none⟩ (strV x1.to)) ⟨w.heap.size + 1, 3, none⟩ (.int .i64 x1.h.pos)) ⟨w.heap.size + 1, 4, none⟩ (.slice E1 n1 c1)) ⟨w.heap.size + 1, 5, none⟩ (.slice E2 n2 c2))
    OwnS w6 (But w6 (RB w R)) base (.slice (some ⟨g, 0, none⟩) n c) (l.take (i + 1) ++ post) ∧ PG w6 (But w6 (RB w R)) E1 n1 c1 E2 n2 c2 x1 ∧ PG w6 (But w6 (RB w R)) E3 n3 c3 E4 n4 c4 y1 ∧
    Blk w6 w.heap.size 43 #[.slice (some ⟨g, 0, none⟩) n c] ∧ Blk w6 (w.heap.size + 1) 54 (cellsV x1 E1 n1 c1 E2 n2 c2) ∧ Blk w6 (w.heap.size + 1 + 1) 54 zeroV ∧ Blk w6 (w.heap.size + 1 + 1 + 1) 4 #[.bool false] ∧ w.grownBy w6 (some g) ∧
    (∀ B, KeepsFrom B X w6) ∧ (∀ Bs v, w.heap.size + 1 < Bs → Boxed X Bs 43 v → Boxed w6 Bs 43 v) := by
  intro w6
  have hX : w.heap.size + 4 ≤ X.heap.size := by have := hI.bb.lt; omega
  have hb : Below X.heap.size X w4 := hb2.trans (hb4.mono hb2.size)
  have hs4 : w4.heap.size = w6.heap.size := by simp [w6]
  have h2 : w2.heap.size ≤ w4.heap.size := hb4.size
  have hS : ∀ b, (X.heap.size ≤ b ∧ b < w2.heap.size) → But w4 (RB w R) b := fun b h => ⟨by omega, fun e => e.elim (fun e => by have := hrl b e; omega) (fun e => by omega)⟩
  have hq : RB w R (w.heap.size + 1) := .inr ⟨by omega, by omega⟩
  have hne : ∀ b, But w4 (RB w R) b → b ≠ w.heap.size + 1 := fun b h e => h.2 (e ▸ hq)
  have hgl := hrl g hR
  have al := (alike_set6 w4 (w.heap.size + 1) (.int .i64 x1.k) (strV x1.nm) (strV x1.to) (.int .i64 x1.h.pos) (.slice E1 n1 c1) (.slice E2 n2 c2)).mono hne
  have up := but_up (R := RB w R) (Nat.le_of_eq hs4)
  have l0 := hI.bl.lt; have l1 := hI.bq.lt; have l2 := hI.br.lt; have l3 := hI.bb.lt
  refine ⟨?_, ?_, ?_, ?_, ?_, ?_, ?_, ?_, ?_, ?_⟩
  · exact (((hI.row.below hb).mono (but_up hb.size)).set6 (b := w.heap.size + 1) (fun e => by injection e with e; have e : w.heap.size + 1 = g := e; omega) (fun h => hne _ h rfl) _ _ _ _ _ _).mono up
  · exact (((((pg_hi hv hh.1 hh.2.1).to_ (fun b h hl => hb4.block b hl)).mono hS).to_ al).mono up)
  · exact (((((pg_hi gv hh.2.2.1 hh.2.2.2).to_ (fun b h hl => hb4.block b hl)).mono hS).to_ al).mono up)
  · exact blk_set6 (hI.bl.below hb l0) (by omega) _ _ _ _ _ _
  · exact blk6 (hI.bq.below hb l1) _ _ _ _ _ _
  · exact blk_set6 (hI.br.below hb l2) (by omega) _ _ _ _ _ _
  · exact blk_set6 (hI.bb.below hb l3) (by omega) _ _ _ _ _ _
  · exact grow_set6 (grow_below hI.fr hb) (by omega) _ _ _ _ _ _
  · exact fun B => (keepsFrom_below B hb).trans (keeps_set6 _ _ _ _ _ _ _ _ _)
  · exact fun Bs v hB hv => blk_set6 (Blk.below (show Blk X Bs 43 #[v] from hv) hb hv.lt) (by omega) _ _ _ _ _ _

theorem thru_fin {w X w6 : World} {R : Nat → Prop} {base i g n c : Nat} {l : List Ch} {q x p x1 y1 : Ch} {post : List Ch} {D1 D2 : Option Addr} {m1 k1 m2 k2 : Nat} {E1 E2 E3 E4 : Option Addr} {n1 c1 n2 c2 n3 c3 n4 c4 : Nat}
    (hI : ThI w (RB w R) base (.slice (some ⟨g, 0, none⟩) n c) l q (i + 1) x post D1 m1 k1 D2 m2 k2 X) (hR : R g) (hgl : g < w.heap.size) (hx : l[i]? = some p) (hlp : lightP p = true) (hL : (l.take (i + 1) ++ post).length = n) (hs : passP p x = some (x1, y1))
    (h1 : OwnS w6 (But w6 (RB w R)) base (.slice (some ⟨g, 0, none⟩) n c) (l.take (i + 1) ++ post)) (h2 : PG w6 (But w6 (RB w R)) E1 n1 c1 E2 n2 c2 x1) (h3 : PG w6 (But w6 (RB w R)) E3 n3 c3 E4 n4 c4 y1)
    (h4 : Blk w6 w.heap.size 43 #[.slice (some ⟨g, 0, none⟩) n c]) (h5 : Blk w6 (w.heap.size + 1) 54 (cellsV x1 E1 n1 c1 E2 n2 c2)) (h6 : Blk w6 (w.heap.size + 1 + 1) 54 zeroV) (h7 : Blk w6 (w.heap.size + 1 + 1 + 1) 4 #[.bool false]) (h8 : w.grownBy w6 (some g)) :
    let w9 := (World.setCell (World.setCell (World.setCell (World.setCell (World.setCell (World.setCell w6 ⟨g, i * 6, none⟩ (.int .i64 y1.k)) ⟨g, i * 6 + 1, none⟩ (strV y1.nm)) ⟨g, i * 6 + 2, none⟩ (strV y1.to)) ⟨g, i * 6 + 3, none⟩ (.int .i64 y1.h.pos)) ⟨g, i * 6 + 4, none⟩ (.slice E3 n3 c3)) ⟨g, i * 6 + 5, none⟩ (.slice E4 n4 c4))
    ThI w (RB w R) base (.slice (some ⟨g, 0, none⟩) n c) l q i x1 (y1 :: post) E1 n1 c1 E2 n2 c2 w9 ∧ (∀ B, KeepsFrom B w6 w9) ∧ (∀ Bs v, Bs ≠ g → Boxed w6 Bs 43 v → Boxed w9 Bs 43 v) ∧ Cells6 w9 (some ⟨g, 0, none⟩) n := by
  intro w9
  have hs9 : w6.heap.size = w9.heap.size := by simp [w9]
  have hne : ∀ b, But w6 (RB w R) b → b ≠ g := fun b h e => h.2 (.inl (e ▸ hR))
  have up := but_up (R := RB w R) (Nat.le_of_eq hs9)
  have hrow : OwnS w9 (But w9 (RB w R)) base (.slice (some ⟨g, 0, none⟩) n c) (l.take i ++ y1 :: post) := by
    have := (h1.store (k := i) hL (fun h => hne _ h rfl) h3).mono up
    rw [set_mid hx] at this
    exact this
  refine ⟨⟨one_step passP hx hI.eq hs, (passP_lt hs hlp hI.lx).1, hrow, ?_, ?_, ?_, ?_, ?_, ?_⟩, fun B => keeps_row6 _ _ _ _ _ _ _ _ _ _, fun Bs v hB hv => ?_, cells6_own hrow ?_⟩
  · exact (h2.to_ ((alike_row6 w6 g i _ _ _ _ _ _).mono hne)).mono up
  · exact blk_row6 h4 (by omega) i _ _ _ _ _ _
  · exact blk_row6 h5 (by omega) i _ _ _ _ _ _
  · exact blk_row6 h6 (by omega) i _ _ _ _ _ _
  · exact blk_row6 h7 (by omega) i _ _ _ _ _ _
  · exact grow_own6 h8 i _ _ _ _ _ _
  · exact blk_row6 (show Blk w6 Bs 43 #[v] from hv) hB i _ _ _ _ _ _
  · rw [← hL, ← set_mid (y := y1) hx, List.length_set]

theorem thru_put {w W : World} {r : Option Nat} {E : Nat} (hE : w.heap.size + 4 ≤ E) (hK : W.heap[E]? = some (.deferred (some []))) (hg : w.grownBy W r) : w.grownBy (W.putObj E (.deferred none)) r ∧ (∀ b t cs, b < w.heap.size + 4 → Blk W b t cs → Blk (W.putObj E (.deferred none)) b t cs) ∧
    (∀ S base v l, OwnS W S base v l → OwnS (W.putObj E (.deferred none)) S base v l) ∧ (∀ S A n c B m d x, PG W S A n c B m d x → PG (W.putObj E (.deferred none)) S A n c B m d x) ∧ W.heap.size = (W.putObj E (.deferred none)).heap.size := by
  have hp := grownBy_putObj' W E (.deferred none)
  have hr : ∀ r, some E = some r → ∃ o : Obj, W.heap[r]? = some o ∧ o.isCells = false := fun r e => by injection e with e; subst e; exact ⟨_, hK, rfl⟩
  exact ⟨grow_trans hg hp (fun j e => .inl (by injection e with e; omega)), fun b t cs hb h => h.gr hp (fun e => by injection e with e; omega), fun S base v l h => h.plain hp hr, fun S A n c B m d x h => h.kc (keepC_plain hp hr), by simp⟩

theorem thru_done {w W : World} {R : Nat → Prop} {base n c E : Nat} {A : Option Addr} {l : List Ch} {q x : Ch} {post : List Ch} {D1 D2 : Option Addr} {m1 k1 m2 k2 : Nat}
    (hI : ThI w (RB w R) base (.slice A n c) l q 0 x post D1 m1 k1 D2 m2 k2 W) (hr : ∀ g, (Value.slice A n c).ownBlock = some g → R g) (hrl : ∀ b, R b → b < w.heap.size) (hE : w.heap.size + 4 ≤ E) (hK : W.heap[E]? = some (.deferred (some []))) :
    let W9 := (World.setCell (World.setCell (World.setCell (World.setCell (World.setCell (World.setCell W ⟨w.heap.size + 1 + 1, 0, none⟩ (.int .i64 x.k)) ⟨w.heap.size + 1 + 1, 1, none⟩ (strV x.nm)) ⟨w.heap.size + 1 + 1, 2, none⟩ (strV x.to)) ⟨w.heap.size + 1 + 1, 3, none⟩ (.int .i64 x.h.pos)) ⟨w.heap.size + 1 + 1, 4, none⟩ (.slice D1 m1 k1)) ⟨w.heap.size + 1 + 1, 5, none⟩ (.slice D2 m2 k2)).setCell ⟨w.heap.size + 1 + 1 + 1, 0, none⟩ (.bool true)
    W9.heap[E]? = some (.deferred (some [])) ∧ Blk (W9.putObj E (.deferred none)) (w.heap.size + 1 + 1) 54 (cellsV x D1 m1 k1 D2 m2 k2) ∧ Blk (W9.putObj E (.deferred none)) (w.heap.size + 1 + 1 + 1) 4 #[.bool true] ∧
      OwnS (W9.putObj E (.deferred none)) (But (W9.putObj E (.deferred none)) R) base (.slice A n c) post ∧ PG (W9.putObj E (.deferred none)) (But (W9.putObj E (.deferred none)) R) D1 m1 k1 D2 m2 k2 x ∧ w.grownBy (W9.putObj E (.deferred none)) (Value.slice A n c).ownBlock := by
  intro W9
  have hsz : W.heap.size = W9.heap.size := by simp [W9]
  have hne : ∀ b, But W (RB w R) b → b ≠ w.heap.size + 1 + 1 := fun b h e => h.2 (.inr (by omega))
  have hne' : ∀ b, But W (RB w R) b → b ≠ w.heap.size + 1 + 1 + 1 := fun b h e => h.2 (.inr (by omega))
  have hv : ∀ b, w.heap.size ≤ b → some b ≠ (Value.slice A n c).ownBlock := fun b hb e => by have := hrl b (hr b e.symm); omega
  have k9 : W9.heap[E]? = some (.deferred (some [])) := ((keeps_set6 W E (w.heap.size + 1 + 1) _ _ _ _ _ _).trans ((KeepsOthers.setCell _ _ _).from E)).same E _ (Nat.le_refl _) hK rfl
  have g9 : w.grownBy W9 (Value.slice A n c).ownBlock := grow_set (grow_set6 hI.fr (by omega) _ _ _ _ _ _) (by omega) 0 _
  obtain ⟨p1, p2, p3, p4, p5⟩ := thru_put hE k9 g9
  have up : ∀ b, But W (RB w R) b → But (W9.putObj E (.deferred none)) R b := fun b h => ⟨by have := h.1; omega, fun e => h.2 (.inl e)⟩
  have hrow := hI.row
  rw [List.take_zero, List.nil_append] at hrow
  refine ⟨k9, p2 _ _ _ (by omega) ?_, p2 _ _ _ (by omega) ?_, (p3 _ _ _ _ ?_).mono up, (p4 _ _ _ _ _ _ _ _ ?_).mono up, p1⟩
  · exact (blk6 hI.br _ _ _ _ _ _).set_ne (by omega) 0 _
  · exact (blk_set6 hI.bb (g := w.heap.size + 1 + 1) (by omega) _ _ _ _ _ _).set 0 (.bool true)
  · exact (hrow.set6 (hv _ (by omega)) (fun h => hne _ h rfl) _ _ _ _ _ _).set (hv _ (by omega)) (fun h => hne' _ h rfl) 0 _
  · exact (hI.pg.to_ ((alike_set6 W _ _ _ _ _ _ _).mono hne)).to_ ((alike_set _ _ _ _).mono hne')

/-- The memory in which the range begins. -/
theorem thru_start {w : World} {R : Nat → Prop} {base n c : Nat} {A : Option Addr} {l : List Ch} {D : Option Addr} {m k : Nat} {D' : Option Addr} {m' k' : Nat} {q : Ch} (h : ThN w R base n c A l D m k D' m' k' q) :
    let w5 := ((((w.alloc (.cells #[.slice A n c] 43)).alloc (.cells (cellsV q D m k D' m' k') 54)).alloc (.cells zeroV 54)).alloc (.cells #[.bool false] 4)).alloc (.cells #[.slice A n c] 43)
    ThJ w (RB w R) base (.slice A n c) l q n [] w5 ∧ Boxed w5 (w.heap.size + 1 + 1 + 1 + 1) 43 (.slice A n c) ∧ w5.heap.size = w.heap.size + 5 ∧ Cells6 w5 A n := by
  intro w5
  have hw : Below w.heap.size w w5 := (((((Below.refl _ _).alloc (Nat.le_refl _) _).alloc (by simp) _).alloc (by simp; omega) _).alloc (by simp; omega) _).alloc (by simp; omega) _
  have hsz : w5.heap.size = w.heap.size + 5 := by simp [w5]
  have hg : w.grownBy w5 none := grow_trans (grow_trans (grow_trans (grow_trans (World.grownBy_alloc w _ none) (World.grownBy_alloc _ _ none) (by simp)) (World.grownBy_alloc _ _ none) (by simp)) (World.grownBy_alloc _ _ none) (by simp)) (World.grownBy_alloc _ _ none) (by simp)
  have b0 := ((((Blk.new w 43 #[.slice A n c]).alloc (.cells (cellsV q D m k D' m' k') 54)).alloc (.cells zeroV 54)).alloc (.cells #[.bool false] 4)).alloc (.cells #[.slice A n c] 43)
  have b1 := (((Blk.new (w.alloc (.cells #[.slice A n c] 43)) 54 (cellsV q D m k D' m' k')).alloc (.cells zeroV 54)).alloc (.cells #[.bool false] 4)).alloc (.cells #[.slice A n c] 43)
  have b2 := ((Blk.new ((w.alloc (.cells #[.slice A n c] 43)).alloc (.cells (cellsV q D m k D' m' k') 54)) 54 zeroV).alloc (.cells #[.bool false] 4)).alloc (.cells #[.slice A n c] 43)
  have b3 := (Blk.new (((w.alloc (.cells #[.slice A n c] 43)).alloc (.cells (cellsV q D m k D' m' k') 54)).alloc (.cells zeroV 54)) 4 #[.bool false]).alloc (.cells #[.slice A n c] 43)
  have b4 := Boxed.new ((((w.alloc (.cells #[.slice A n c] 43)).alloc (.cells (cellsV q D m k D' m' k') 54)).alloc (.cells zeroV 54)).alloc (.cells #[.bool false] 4)) 43 (.slice A n c)
  simp only [World.size_alloc] at b1 b2 b3 b4
  have hs : ∀ b, But w R b → But w5 (RB w R) b := fun b hb => ⟨by have := hb.1; omega, fun e => e.elim hb.2 fun e => by have := hb.1; omega⟩
  have hrow : OwnS w5 (But w5 (RB w R)) base (.slice A n c) l := (h.row.below hw).mono hs
  refine ⟨⟨q, [], D, m, k, D', m', k', ?_, h.lq, ?_, (h.pg.to_ (fun b hb hl => hw.block b hl)).mono hs, b0, b1, b2, b3, ?_⟩, b4, hsz, cells6_own hrow h.len⟩
  · rw [List.length_nil, Nat.sub_zero, List.drop_of_length_le (by rw [h.len]; exact Nat.le_refl _)]; rfl
  · rw [List.length_nil, Nat.sub_zero, List.take_of_length_le (by rw [h.len]; exact Nat.le_refl _), List.append_nil]; exact hrow
  · exact ⟨hg.os, hg.tape, hg.output, hg.size, fun k hk _ => hg.block k hk (by simp)⟩

set_option maxRecDepth 100000 in
set_option maxHeartbeats 4000000 in
theorem throughL (R : Nat → Prop) (base n c : Nat) (A : Option Addr) (l : List Ch) (D : Option Addr) (m k : Nat) (D' : Option Addr) (m' k' : Nat) (q : Ch) (w : World) (hle : n ≤ 1000) (h : ThN w R base n c A l D m k D' m' k' q) :
    Calls Try.prog 65 #[.slice A n c, prV q.k q.nm q.to q.h.pos D m k D' m' k'] w (ThruEnd w R base (.slice A n c) (one passP l q)) := by
  have H := Lib.hid h
  clear h
  refine (callsIn_wide (n := 4)).1 ?_
  refine callsIn_of_wp_marks Try.func65 rfl trivial ?_ rfl
  simp only [Try.ntmps65, List.size_toArray, List.length_cons, List.length_nil, Nat.reduceAdd, Nat.reduceSub, Array.replicate_succ, Array.replicate_zero, List.push_toArray, List.append_toArray, List.nil_append, List.cons_append]
  gi_wp2_with fail
  refine ⟨trivial, ?_⟩
  refine (backL_in 3 A n c _).mono ?_
  rintro e w' ⟨rfl, rfl⟩
  gi_wp2
  have hst := thru_start H.out
  dsimp only [cellsV, zeroV] at hst
  generalize (((((w.alloc (.cells #[.slice A n c] 43)).alloc (.cells #[.int .i64 q.k, strV q.nm, strV q.to, .int .i64 q.h.pos, .slice D m k, .slice D' m' k'] 54)).alloc (.cells #[.int .i64 0, .string ⟨#[]⟩, .string ⟨#[]⟩, .int .i64 0, .slice none 0 0, .slice none 0 0] 54)).alloc (.cells #[.bool false] 4)).alloc (.cells #[.slice A n c] 43)) = w5 at hst ⊢
  obtain ⟨hst, hbs, hsz, hc6⟩ := hst
  refine range_law (n := 4) (gf := 85) (lb := #[.pointer (some ⟨w.heap.size + 1 + 1 + 1 + 1, 0, none⟩)]) rfl (enters_of Try.func85 (by kernel_rfl) rfl) (Free := Plain) (fun _ h => h)
    (backL_gives 3 (w.heap.size + 1 + 1 + 1 + 1) c n A (by omega) w5 hbs hc6) kpL_t (kpL_b (by rw [hsz]; omega)) (fun x vals W h => by obtain ⟨_, _, _, _, _, _, _, _, _, rfl, _⟩ := h; rfl)
    (ThJ w (RB w R) base (.slice A n c) l q n) (ThX w (.slice A n c) l q) (thJ_ab (by rw [hsz]; omega)) (thX_ab (by rw [hsz]; omega)) hst
    (fun i a' X => ∃ b v0 v1 v2 v3 v4 v5, a' = { tmps := #[.slice A n c, prV q.k q.nm q.to q.h.pos D m k D' m' k', .pointer (some ⟨w.heap.size, 0, none⟩), .pointer (some ⟨w.heap.size + 1, 0, none⟩), .pointer (some ⟨w.heap.size + 1 + 1, 0, none⟩), .pointer (some ⟨w.heap.size + 1 + 1 + 1, 0, none⟩), .int .i64 (i : Int), .pointer (some ⟨b, 0, none⟩), undef, undef, undef, .slice A n c, .func (.func 85) #[] #[.pointer (some ⟨w.heap.size + 1 + 1 + 1 + 1, 0, none⟩)], .int .i64 (i : Int), .agg #[v0, v1, v2, v3, v4, v5], undef, undef, undef, undef, undef, undef, undef, undef, undef, undef, undef, undef, undef, undef, undef, undef], defers := [] } ∧ EL n A i #[.int .i64 (i : Int), .agg #[v0, v1, v2, v3, v4, v5]] X ∧ Blk X b 54 #[v0, v1, v2, v3, v4, v5])
    (fun i a' => ab_ex fun b => ab_ex fun v0 => ab_ex fun v1 => ab_ex fun v2 => ab_ex fun v3 => ab_ex fun v4 => ab_ex fun v5 => Ab.and (ab_pure _ _ _) (Ab.and ab_EL (ab_blk fun _ => _))) ?assign ?body ?done ?stop
  case assign =>
    rintro y pre i vals X K hi hEL hK
    obtain ⟨x, post, D1, m1, k1, D2, m2, k2, hI⟩ := id hi
    obtain ⟨p, g, B, r, s, B', r', s', rfl, hp, rfl, hpg, hbg, hgl⟩ := hEL.row hI.row (hI.rowlen H.out.len (by omega))
    clear hI hp hpg hbg hgl
    gi_wp2
    exact hK _ _ ((KeepsOthers.alloc X _).from _) (kpL_new (World.grownBy_alloc X _ none)) ((thJ_ab (Nat.le_refl _)).alloc _ hi) ⟨_, _, _, _, _, _, _, rfl, ab_EL.alloc (s := ()) (B := 0) _ hEL, Blk.new _ _ _⟩
  case body =>
    rintro y pre pst i a' X hfull hI ⟨b, v0, v1, v2, v3, v4, v5, rfl, hEL, hb⟩
    have hi := dn_split hfull
    clear hfull
    obtain ⟨x, post, D1, m1, k1, D2, m2, k2, hI⟩ := hI
    rw [show n - pre.length = i + 1 by omega] at hI
    have hL := hI.rowlen H.out.len (by omega)
    obtain ⟨p, g, B, r, s, B', r', s', rfl, hp, hv, hpg, hbg, hgl⟩ := hEL.row hI.row hL
    obtain ⟨rfl, rfl, rfl, rfl, rfl, rfl⟩ := vals_eq hv
    have hpl := mid_at (by rw [H.out.len]; omega) hp
    have HLP := Lib.hid (H.out.lt p (List.mem_of_getElem? hpl))
    have HPL := Lib.hid hpl; have HI := Lib.hid hI; have HL := Lib.hid hL; have HPG := Lib.hid hpg; have HG := Lib.hid (And.intro hbg hgl); have HB := Lib.hid hb
    clear hpl hL hpg hp hv hEL hbg
    obtain ⟨x1, y1, ho⟩ : ∃ x1 y1, outP (passP p x) = (x1, y1) := ⟨_, _, rfl⟩
    obtain ⟨bo, hbo⟩ : ∃ bo, (passP p x).isSome = bo := ⟨_, rfl⟩
    have HO := Lib.hid ho; have HBO := Lib.hid hbo
    clear ho hbo
    have PC := Lib.hid (PassPH B r s B' r' s' D1 m1 k1 D2 m2 k2 p x x1 y1 X bo (lt_len HPG.out HLP.out) (lt_len HI.out.pg HI.out.lx) (HPG.out.mono but_lt).pv (HI.out.pg.mono but_lt).pv HO.out HBO.out)
    have x0 := hb.cell 0 rfl; have x1' := hb.cell 1 rfl; have x2 := hb.cell 2 rfl; have x3 := hb.cell 3 rfl; have x4 := hb.cell 4 rfl; have x5 := hb.cell 5 rfl
    have hbq := hI.bq
    have q0 := hbq.cell 0 (u := .int .i64 x.k) rfl; have q1 := hbq.cell 1 (u := strV x.nm) rfl; have q2 := hbq.cell 2 (u := strV x.to) rfl; have q3 := hbq.cell 3 (u := .int .i64 x.h.pos) rfl; have q4 := hbq.cell 4 (u := .slice D1 m1 k1) rfl; have q5 := hbq.cell 5 (u := .slice D2 m2 k2) rfl
    clear hI hb hbq
    gi_wp2_with fail
    refine ⟨trivial, CallsIn.inRound y (callsIn_wide.2 (PC.out.mono ?_))⟩
    rintro e w2 ⟨E1, n1, c1, E2, n2, c2, E3, n3, c3, E4, n4, c4, rfl, pv1, pv2, hl1, hl2, hh, hb2⟩
    clear x0 x1' x2 x3 x4 x5 q0 q1 q2 q3 q4 q5 PC
    have hbl := HI.out.bl; have hbq := HI.out.bq; have hbr := HI.out.br; have hbb := HI.out.bb
    replace hbl := hbl.below hb2 hbl.lt; replace hbq := hbq.below hb2 hbq.lt; replace hbr := hbr.below hb2 hbr.lt; replace hbb := hbb.below hb2 hbb.lt
    have HBL := Lib.hid hbl; have HBQ := Lib.hid hbq; have HBR := Lib.hid hbr; have HBB := Lib.hid hbb; have HB2 := Lib.hid hb2
    have HPV1 := Lib.hid pv1; have HPV2 := Lib.hid pv2; have HH := Lib.hid hh; have HL1 := Lib.hid hl1
    clear pv1 pv2 hh hl1 hl2 hb2
    cases bo with
    | false =>
      have r0 := hbr.cell 0 (u := .int .i64 0) rfl; have r1 := hbr.cell 1 (u := .string ⟨#[]⟩) rfl; have r2 := hbr.cell 2 (u := .string ⟨#[]⟩) rfl; have r3 := hbr.cell 3 (u := .int .i64 0) rfl; have r4 := hbr.cell 4 (u := .slice none 0 0) rfl; have r5 := hbr.cell 5 (u := .slice none 0 0) rfl
      have f0 := hbr.frozen 0; have f1 := hbr.frozen 1; have f2 := hbr.frozen 2; have f3 := hbr.frozen 3; have f4 := hbr.frozen 4; have f5 := hbr.frozen 5
      have s0 := hbb.cell 0 (u := .bool false) rfl; have g0 := hbb.frozen 0
      have hlt0 := hbl.lt; have hlt1 := hbq.lt; have hlt := hbr.lt; have hlt2 := hbb.lt
      clear hbl hbq hbr hbb
      gi_wp2_with fail
      have HNN := Lib.hid (none_ofP HBO.out)
      clear r0 r1 r2 r3 r4 r5 f0 f1 f2 f3 f4 f5 s0 g0 hlt0 hlt1 hlt hlt2
      exact thru_no HI.out HB2.out HPL.out HNN.out _ _
    | true =>
      clear hbl hbq hbr hbb
      gi_wp2_with fail
      have HSM := Lib.hid (outP_of HO.out HBO.out)
      have b3 := (Blk.new w2 54 (cellsV x1 E1 n1 c1 E2 n2 c2)).alloc (.cells (cellsV y1 E3 n3 c3 E4 n4 c4) 54)
      have b4 := Blk.new (w2.alloc (.cells (cellsV x1 E1 n1 c1 E2 n2 c2) 54)) 54 (cellsV y1 E3 n3 c3 E4 n4 c4)
      have hb4 : Below w2.heap.size w2 ((w2.alloc (.cells (cellsV x1 E1 n1 c1 E2 n2 c2) 54)).alloc (.cells (cellsV y1 E3 n3 c3 E4 n4 c4) 54)) := two_box _ _ _
      simp only [World.size_alloc] at b4
      dsimp only [cellsV] at b3 b4 hb4
      generalize ((w2.alloc (.cells #[.int .i64 x1.k, strV x1.nm, strV x1.to, .int .i64 x1.h.pos, .slice E1 n1 c1, .slice E2 n2 c2] 54)).alloc (.cells #[.int .i64 y1.k, strV y1.nm, strV y1.to, .int .i64 y1.h.pos, .slice E3 n3 c3, .slice E4 n4 c4] 54)) = w4 at b3 b4 hb4 ⊢
      have hw4 := hb4.size
      generalize hz2 : w2.heap.size = z2 at b3 b4 hw4 ⊢
      have hz0 : w.heap.size + 1 < z2 := by rw [← hz2]; exact HBQ.out.lt
      have HB4 := Lib.hid hb4
      have k4 := HBL.out.below hb4 HBL.out.lt; have qb := HBQ.out.below hb4 HBQ.out.lt
      have HSB : Hid (∀ Y, Blk Y w.heap.size 43 #[.slice (some ⟨g, 0, none⟩) n c] → Blk Y z2 54 (cellsV x1 E1 n1 c1 E2 n2 c2) → Blk Y (z2 + 1) 54 (cellsV y1 E3 n3 c3 E4 n4 c4) → Y.cell? ⟨w.heap.size, 0, none⟩ = some (.slice (some ⟨g, 0, none⟩) n c) ∧ Y.cell? ⟨z2, 0, none⟩ = some (.int .i64 x1.k) ∧ Y.cell? ⟨z2, 1, none⟩ = some (strV x1.nm) ∧ Y.cell? ⟨z2, 2, none⟩ = some (strV x1.to) ∧ Y.cell? ⟨z2, 3, none⟩ = some (.int .i64 x1.h.pos) ∧ Y.cell? ⟨z2, 4, none⟩ = some (.slice E1 n1 c1) ∧ Y.cell? ⟨z2, 5, none⟩ = some (.slice E2 n2 c2) ∧ Y.cell? ⟨z2 + 1, 0, none⟩ = some (.int .i64 y1.k) ∧ Y.cell? ⟨z2 + 1, 1, none⟩ = some (strV y1.nm) ∧ Y.cell? ⟨z2 + 1, 2, none⟩ = some (strV y1.to) ∧ Y.cell? ⟨z2 + 1, 3, none⟩ = some (.int .i64 y1.h.pos) ∧ Y.cell? ⟨z2 + 1, 4, none⟩ = some (.slice E3 n3 c3) ∧ Y.cell? ⟨z2 + 1, 5, none⟩ = some (.slice E4 n4 c4)) := Lib.hid (fun Y h1 h2 h3 => ⟨h1.cell 0 rfl, h2.cell 0 rfl, h2.cell 1 rfl, h2.cell 2 rfl, h2.cell 3 rfl, h2.cell 4 rfl, h2.cell 5 rfl, h3.cell 0 rfl, h3.cell 1 rfl, h3.cell 2 rfl, h3.cell 3 rfl, h3.cell 4 rfl, h3.cell 5 rfl⟩)
      have MID := Lib.hid (thru_mid (w4 := w4) HI.out (H.out.r g rfl) H.out.rl HB2.out hb4 HPV1.out HPV2.out HH.out)
      have HK6 := Lib.hid (blk_set6 k4 (g := w.heap.size + 1) (by omega) (.int .i64 x1.k) (strV x1.nm) (strV x1.to) (.int .i64 x1.h.pos) (.slice E1 n1 c1) (.slice E2 n2 c2))
      have HX6 := Lib.hid (blk_set6 b3 (g := w.heap.size + 1) (by omega) (.int .i64 x1.k) (strV x1.nm) (strV x1.to) (.int .i64 x1.h.pos) (.slice E1 n1 c1) (.slice E2 n2 c2))
      have HY6 := Lib.hid (blk_set6 b4 (g := w.heap.size + 1) (by omega) (.int .i64 x1.k) (strV x1.nm) (strV x1.to) (.int .i64 x1.h.pos) (.slice E1 n1 c1) (.slice E2 n2 c2))
      obtain ⟨k0, e0, e1, e2, e3, e4, e5, yy0, yy1, yy2, yy3, yy4, yy5⟩ := HSB.out w4 k4 b3 b4
      have q0 := qb.cell 0 (u := .int .i64 x.k) rfl; have q1 := qb.cell 1 (u := strV x.nm) rfl; have q2 := qb.cell 2 (u := strV x.to) rfl; have q3 := qb.cell 3 (u := .int .i64 x.h.pos) rfl; have q4 := qb.cell 4 (u := .slice D1 m1 k1) rfl; have q5 := qb.cell 5 (u := .slice D2 m2 k2) rfl
      have f0 := qb.frozen 0; have f1 := qb.frozen 1; have f2 := qb.frozen 2; have f3 := qb.frozen 3; have f4 := qb.frozen 4; have f5 := qb.frozen 5
      have hgz : g < w.heap.size := H.out.rl g (H.out.r g rfl)
      have HGZ := Lib.hid hgz
      have hin : (i : Int) < (n : Int) := by omega
      clear k4 b3 b4 hb4 qb
      refine round_held (S := fun Y : World => Y.cell? ⟨w.heap.size, 0, none⟩ = some (.slice (some ⟨g, 0, none⟩) n c) ∧ Y.cell? ⟨z2, 0, none⟩ = some (.int .i64 x1.k) ∧ Y.cell? ⟨z2, 1, none⟩ = some (strV x1.nm) ∧ Y.cell? ⟨z2, 2, none⟩ = some (strV x1.to) ∧ Y.cell? ⟨z2, 3, none⟩ = some (.int .i64 x1.h.pos) ∧ Y.cell? ⟨z2, 4, none⟩ = some (.slice E1 n1 c1) ∧ Y.cell? ⟨z2, 5, none⟩ = some (.slice E2 n2 c2) ∧ Y.cell? ⟨z2 + 1, 0, none⟩ = some (.int .i64 y1.k) ∧ Y.cell? ⟨z2 + 1, 1, none⟩ = some (strV y1.nm) ∧ Y.cell? ⟨z2 + 1, 2, none⟩ = some (strV y1.to) ∧ Y.cell? ⟨z2 + 1, 3, none⟩ = some (.int .i64 y1.h.pos) ∧ Y.cell? ⟨z2 + 1, 4, none⟩ = some (.slice E3 n3 c3) ∧ Y.cell? ⟨z2 + 1, 5, none⟩ = some (.slice E4 n4 c4)) (by kernel_rfl) (by kernel_rfl) ?hq ?hS (fun hS0 => ?_)
      case hq => rintro ⟨_, _, h⟩; exact h
      case hS => exact ⟨k0, e0, e1, e2, e3, e4, e5, yy0, yy1, yy2, yy3, yy4, yy5⟩
      refine wpAnyH_take (i := 0) (v := ?_) rfl (by kernel_rfl) (by kernel_rfl) (by kernel_rfl) (fun _ _ _ h => h) (Or.inl ⟨by rfl, ?_⟩) hS0 ?_
      rotate_left
      · intro Y hY
        obtain ⟨s0, s1, s2, s3, s4, s5, s6, s7, s8, s9, s10, s11, s12⟩ := hY
        go_simp
        try with_reducible rfl
      simp only [Act.put, List.getElem_toArray, List.getElem_cons_succ, List.getElem_cons_zero, List.setIfInBounds_toArray, List.set_cons_succ, List.set_cons_zero]
      refine wpAnyH_take (i := 1) (v := ?_) rfl (by kernel_rfl) (by kernel_rfl) (by kernel_rfl) (fun _ _ _ h => h) (Or.inl ⟨by rfl, ?_⟩) hS0 ?_
      rotate_left
      · intro Y hY
        obtain ⟨s0, s1, s2, s3, s4, s5, s6, s7, s8, s9, s10, s11, s12⟩ := hY
        go_simp
        try with_reducible rfl
      simp only [Act.put, List.getElem_toArray, List.getElem_cons_succ, List.getElem_cons_zero, List.setIfInBounds_toArray, List.set_cons_succ, List.set_cons_zero]
      refine wpAnyH_take (i := 2) (v := ?_) rfl (by kernel_rfl) (by kernel_rfl) (by kernel_rfl) (fun _ _ _ h => h) (Or.inl ⟨by rfl, ?_⟩) hS0 ?_
      rotate_left
      · intro Y hY
        obtain ⟨s0, s1, s2, s3, s4, s5, s6, s7, s8, s9, s10, s11, s12⟩ := hY
        go_simp
        try with_reducible rfl
      simp only [Act.put, List.getElem_toArray, List.getElem_cons_succ, List.getElem_cons_zero, List.setIfInBounds_toArray, List.set_cons_succ, List.set_cons_zero]
      refine wpAnyH_take (i := 3) (v := ?_) rfl (by kernel_rfl) (by kernel_rfl) (by kernel_rfl) (fun _ _ _ h => h) (Or.inl ⟨by rfl, ?_⟩) hS0 ?_
      rotate_left
      · intro Y hY
        obtain ⟨s0, s1, s2, s3, s4, s5, s6, s7, s8, s9, s10, s11, s12⟩ := hY
        go_simp
        try with_reducible rfl
      simp only [Act.put, List.getElem_toArray, List.getElem_cons_succ, List.getElem_cons_zero, List.setIfInBounds_toArray, List.set_cons_succ, List.set_cons_zero]
      refine wpAnyH_ready (rs := [4]) (by kernel_rfl) (by simp) ?_
      refine AllReadyH.cons rfl (fun K1 hK => ?_) AllReadyH.nil
      go_simp
      clear hS0 k0 e0 e1 e2 e3 e4 e5 yy0 yy1 yy2 yy3 yy4 yy5 q0 q1 q2 q3 q4 q5 f0 f1 f2 f3 f4 f5
      obtain ⟨a1, a2, a3, a4, a5, a6, a7, a8, a9, a10⟩ := MID.out
      clear MID
      generalize (World.setCell (World.setCell (World.setCell (World.setCell (World.setCell (World.setCell w4 ⟨w.heap.size + 1, 0, none⟩ (.int .i64 x1.k)) ⟨w.heap.size + 1, 1, none⟩ (strV x1.nm)) ⟨w.heap.size + 1, 2, none⟩ (strV x1.to)) ⟨w.heap.size + 1, 3, none⟩ (.int .i64 x1.h.pos)) ⟨w.heap.size + 1, 4, none⟩ (.slice E1 n1 c1)) ⟨w.heap.size + 1, 5, none⟩ (.slice E2 n2 c2)) = w6 at *
      refine hK.out _ _ (HSB.out w6.drew (HK6.out.drewN 1) (HX6.out.drewN 1) (HY6.out.drewN 1)) (fun hS1 => ?_)
      clear hK K1
      obtain ⟨_, _, _, _, _, _, c0, c1', c2', c3', c4', c5', cf, _⟩ := a1.elem HL.out (at_mid HPL.out)
      have f0 := cf (i * 6); have f1 := cf (i * 6 + 1); have f2 := cf (i * 6 + 2); have f3 := cf (i * 6 + 3); have f4 := cf (i * 6 + 4); have f5 := cf (i * 6 + 5)
      have HF := Lib.hid (thru_fin HI.out (H.out.r g rfl) HGZ.out HPL.out HLP.out HL.out HSM.out a1 a2 a3 a4 a5 a6 a7 a8)
      have HA := Lib.hid (And.intro a9 a10)
      have HZ := Lib.hid hz0
      clear a1 a2 a3 a4 a5 a6 a7 a8 a9 a10 cf
      refine wpAnyH_take (i := 5) (v := ?_) rfl (by kernel_rfl) (by kernel_rfl) (by kernel_rfl) (fun _ _ _ h => h) (Or.inl ⟨by rfl, ?_⟩) hS1 ?_
      rotate_left
      · intro Y hY
        obtain ⟨s0, s1, s2, s3, s4, s5, s6, s7, s8, s9, s10, s11, s12⟩ := hY
        go_simp
        try with_reducible rfl
      simp only [Act.put, List.getElem_toArray, List.getElem_cons_succ, List.getElem_cons_zero, List.setIfInBounds_toArray, List.set_cons_succ, List.set_cons_zero]
      refine wpAnyH_ready (rs := [6]) (by kernel_rfl) (by simp) ?_
      refine AllReadyH.cons rfl (fun K1 hK => ?_) AllReadyH.nil
      go_simp
      obtain ⟨t1, t2, t3, t4⟩ := HF.out
      have hk9 := blk_row6 HK6.out (g := g) (by omega) i (.int .i64 y1.k) (strV y1.nm) (strV y1.to) (.int .i64 y1.h.pos) (.slice E3 n3 c3) (.slice E4 n4 c4)
      have hx9 := blk_row6 HX6.out (g := g) (by omega) i (.int .i64 y1.k) (strV y1.nm) (strV y1.to) (.int .i64 y1.h.pos) (.slice E3 n3 c3) (.slice E4 n4 c4)
      have hy9 := blk_row6 HY6.out (g := g) (by omega) i (.int .i64 y1.k) (strV y1.nm) (strV y1.to) (.int .i64 y1.h.pos) (.slice E3 n3 c3) (.slice E4 n4 c4)
      clear HF c0 c1' c2' c3' c4' c5' f0 f1 f2 f3 f4 f5
      generalize (World.setCell (World.setCell (World.setCell (World.setCell (World.setCell (World.setCell w6 ⟨g, i * 6, none⟩ (.int .i64 y1.k)) ⟨g, i * 6 + 1, none⟩ (strV y1.nm)) ⟨g, i * 6 + 2, none⟩ (strV y1.to)) ⟨g, i * 6 + 3, none⟩ (.int .i64 y1.h.pos)) ⟨g, i * 6 + 4, none⟩ (.slice E3 n3 c3)) ⟨g, i * 6 + 5, none⟩ (.slice E4 n4 c4)) = w9 at *
      refine hK.out _ _ (HSB.out w9.drew (hk9.drewN 1) (hx9.drewN 1) (hy9.drewN 1)) (fun _ => wpAnyH_done (by kernel_rfl) ?_ _)
      clear hK K1 hS1
      have hj : n - (pre ++ [i]).length = i := by rw [List.length_append, List.length_singleton]; omega
      have hd : Below w9.heap.size w9 w9.drew := below_drewN (Below.refl _ _) 1
      refine ⟨((HA.out.1 _).trans (t2 _)).trans (keepsFrom_below _ hd), ⟨fun v hv => t3 _ v (by omega) (HA.out.2 _ v (by omega) hv), fun _ => cells6_below t4 hd⟩, x1, y1 :: post, E1, n1, c1, E2, n2, c2, ?_⟩
      rw [hj]
      exact t1.mv hd
  case done =>
    rintro E W hE hI hK
    obtain ⟨x, post, D1, m1, k1, D2, m2, k2, hI⟩ := hI
    rw [dn_length, Nat.sub_self] at hI
    have q0 := hI.bq.cell 0 (u := .int .i64 x.k) rfl; have q1 := hI.bq.cell 1 (u := strV x.nm) rfl; have q2 := hI.bq.cell 2 (u := strV x.to) rfl; have q3 := hI.bq.cell 3 (u := .int .i64 x.h.pos) rfl; have q4 := hI.bq.cell 4 (u := .slice D1 m1 k1) rfl; have q5 := hI.bq.cell 5 (u := .slice D2 m2 k2) rfl
    have r0 := hI.br.cell 0 (u := .int .i64 0) rfl; have r1 := hI.br.cell 1 (u := .string ⟨#[]⟩) rfl; have r2 := hI.br.cell 2 (u := .string ⟨#[]⟩) rfl; have r3 := hI.br.cell 3 (u := .int .i64 0) rfl; have r4 := hI.br.cell 4 (u := .slice none 0 0) rfl; have r5 := hI.br.cell 5 (u := .slice none 0 0) rfl
    have f0 := hI.br.frozen 0; have f1 := hI.br.frozen 1; have f2 := hI.br.frozen 2; have f3 := hI.br.frozen 3; have f4 := hI.br.frozen 4; have f5 := hI.br.frozen 5
    have s0 := hI.bb.cell 0 (u := .bool false) rfl; have g0 := hI.bb.frozen 0
    have HI := Lib.hid hI
    have HD := Lib.hid (thru_done hI H.out.r H.out.rl (by omega) hK)
    clear hI
    gi_wp2
    obtain ⟨d1, d2, d3, d4, d5, d6⟩ := HD.out
    refine ⟨by simp, .inl ⟨_, _, rfl, run_takeDeferred d1, ?_⟩⟩
    clear d1 hK q0 q1 q2 q3 q4 q5 r0 r1 r2 r3 r4 r5 f0 f1 f2 f3 f4 f5 s0 g0
    generalize (World.putObj ((World.setCell (World.setCell (World.setCell (World.setCell (World.setCell (World.setCell W ⟨w.heap.size + 1 + 1, 0, none⟩ (.int .i64 x.k)) ⟨w.heap.size + 1 + 1, 1, none⟩ (strV x.nm)) ⟨w.heap.size + 1 + 1, 2, none⟩ (strV x.to)) ⟨w.heap.size + 1 + 1, 3, none⟩ (.int .i64 x.h.pos)) ⟨w.heap.size + 1 + 1, 4, none⟩ (.slice D1 m1 k1)) ⟨w.heap.size + 1 + 1, 5, none⟩ (.slice D2 m2 k2)).setCell ⟨w.heap.size + 1 + 1 + 1, 0, none⟩ (.bool true)) E (.deferred none)) = W9 at *
    have z0 := d3.cell 0 (u := .bool true) rfl
    have u0 := d2.cell 0 (u := .int .i64 x.k) rfl; have u1 := d2.cell 1 (u := strV x.nm) rfl; have u2 := d2.cell 2 (u := strV x.to) rfl; have u3 := d2.cell 3 (u := .int .i64 x.h.pos) rfl; have u4 := d2.cell 4 (u := .slice D1 m1 k1) rfl; have u5 := d2.cell 5 (u := .slice D2 m2 k2) rfl
    refine ⟨.tuple #[.agg #[.int .i64 x.k, strV x.nm, strV x.to, .int .i64 x.h.pos, .slice D1 m1 k1, .slice D2 m2 k2], .bool true], by simp [results, Try.results65, go_sem, z0, u0, u1, u2, u3, u4, u5], fun z hz => ?_, fun hn => ?_, d6⟩
    · have he := HI.out.eq
      rw [List.drop_zero] at he
      have hz' := Option.some.inj (hz.symm.trans he)
      subst hz'
      exact ⟨D1, m1, k1, D2, m2, k2, rfl, d4, d5⟩
    · have he := HI.out.eq
      rw [List.drop_zero] at he
      rw [he] at hn
      cases hn
  case stop =>
    rintro E c' pre post W hE hpp ⟨rfl, ho, b2, b3, fr⟩ hK
    gi_wp2
    refine ⟨by simp, .inl ⟨_, _, rfl, run_takeDeferred hK, ?_⟩⟩
    obtain ⟨p1, p2, _, _, _⟩ := thru_put (by omega) hK fr
    have d2 := p2 _ _ _ (by omega) b2
    have d3 := p2 _ _ _ (by omega) b3
    clear hK b2 b3 fr p2
    generalize (World.putObj W E (.deferred none)) = W9 at *
    have z0 := d3.cell 0 (u := .bool false) rfl
    have u0 := d2.cell 0 (u := .int .i64 0) rfl; have u1 := d2.cell 1 (u := .string ⟨#[]⟩) rfl; have u2 := d2.cell 2 (u := .string ⟨#[]⟩) rfl; have u3 := d2.cell 3 (u := .int .i64 0) rfl; have u4 := d2.cell 4 (u := .slice none 0 0) rfl; have u5 := d2.cell 5 (u := .slice none 0 0) rfl
    refine ⟨.tuple #[.agg zeroV, .bool false], by simp [results, Try.results65, go_sem, z0, u0, u1, u2, u3, u4, u5], fun z hz => ?_, fun _ => rfl, p1⟩
    rw [ho] at hz
    cases hz

end Fl
end Go.Proofs.Ytdnkinajbebkoaa

set_option maxRecDepth 100000
namespace Go.Proofs.Ytdnkinajbebkoaa
open Go.RowKit
set_option linter.unusedVariables false
namespace Fl
open Tx Df Sq Hk Tr Pr

/-- How a call ends that makes a list of changes in memory that is new. -/
def LPHi (w : World) (l : List Ch) (e : Ending) (w' : World) : Prop := ∃ A c, e = .returned (.slice A l.length c) ∧ l.length ≤ c ∧ RdP w' (fun b => w.heap.size ≤ b ∧ b < w'.heap.size) A l ∧ Below w.heap.size w w'
theorem LPHi.end_ {w w' : World} {l : List Ch} {e : Ending} (h : LPHi w l e w') : LPEnd w l e w' := by
  obtain ⟨A, c, h1, h2, h3, h4⟩ := h
  exact ⟨A, c, h1, h2, h3.mono fun b hb => hb.2, h4⟩
/-- A row of one's own that is new is read as changes. -/
theorem rdP_of_own_hi {W : World} {S : Nat → Prop} {base n c N : Nat} {A : Option Addr} {l : List Ch} (h : OwnS W S base (.slice A n c) l) (hS : ∀ b, S b → N ≤ b ∧ b < W.heap.size) (hN : N ≤ base) (hl : l.length = n) : RdP W (fun b => N ≤ b ∧ b < W.heap.size) A l := by
  have h1 := rdP_of_own h (fun b hb => (hS b hb).2) hl
  by_cases h0 : l = []
  · exact .inl h0
  have hge := ownS_ge h
  obtain ⟨xs, hr, hF⟩ := h
  rcases hr.2 with ⟨_, h2⟩ | ⟨g, cap, cur, e, hbg, hgb, hc, _⟩
  · exact absurd (List.eq_nil_of_length_eq_zero h2) h0
  · injection e with e1 e2 e3
    subst e1
    rcases h1 with h1 | ⟨a, e, h3, h4⟩
    · exact .inl h1
    · injection e with e
      subst e
      refine .inr ⟨_, rfl, ⟨Nat.le_trans hN hbg, h3⟩, fun k x hx => ?_⟩
      obtain ⟨B, i, j, D, m, d, q0, q1, q2, q3, q4, q5, q6⟩ := hF k x hx
      obtain ⟨c0, c1, c2, c3, A', n', c', B', m', d', c4, c5, c6⟩ := h4 k x hx
      refine ⟨c0, c1, c2, c3, A', n', c', B', m', d', c4, c5, ?_⟩
      have hk : k < l.length := (List.getElem?_eq_some_iff.1 hx).1
      have ea : (⟨g, 0, none⟩ : Addr).add (k * 6) = ⟨g, k * 6, none⟩ := by unfold Addr.add; split <;> simp_all
      have e2' : l.length = n := hl
      subst e2'
      have z4 := c4; have z5 := c5
      rw [ea] at z4 z5
      have z4' : W.cell? ⟨g, k * 6 + 4, none⟩ = some (.slice A' n' c') := z4
      have z5' : W.cell? ⟨g, k * 6 + 5, none⟩ = some (.slice B' m' d') := z5
      rw [World.ownsRow.cellAt hr (k * 6 + 4) (by omega), q4] at z4'
      rw [World.ownsRow.cellAt hr (k * 6 + 5) (by omega), q5] at z5'
      injection z4' with z4'
      injection z5' with z5'
      injection z4' with y1 y2 y3
      injection z5' with y4 y5 y6
      subst y1 y2 y3 y4 y5 y6
      exact q6.mono hS
end Fl
end Go.Proofs.Ytdnkinajbebkoaa

set_option maxRecDepth 100000
namespace Go.Proofs.Ytdnkinajbebkoaa
open Go.RowKit
set_option linter.unusedVariables false
set_option linter.unusedSimpArgs false
namespace Fl
open Tx Df Sq Hk Tr Pr

/-- The rows of both lists, and what there was ahead of the call. -/
def Two (lo : Nat) (v u : Value) : Nat → Prop := fun b => b < lo ∨ some b = v.ownBlock ∨ some b = u.ownBlock

/-- How a call of Pass ends that tells x, y and bo, in memory that is new. -/
def LPassEndH (w : World) (x y : List Ch) (bo : Bool) (e : Ending) (w' : World) : Prop :=
  ∃ A c B d, e = .returned (.tuple #[.slice A x.length c, .slice B y.length d, .bool bo]) ∧ x.length ≤ c ∧ y.length ≤ d ∧ RdP w' (fun b => w.heap.size ≤ b ∧ b < w'.heap.size) A x ∧ RdP w' (fun b => w.heap.size ≤ b ∧ b < w'.heap.size) B y ∧ Below w.heap.size w w'
theorem LPassEndH.end_ {w w' : World} {x y : List Ch} {bo : Bool} {e : Ending} (h : LPassEndH w x y bo e w') : LPassEnd w x y bo e w' := by
  obtain ⟨A, c, B, d, h1, _, _, h2, h3, h4⟩ := h
  exact ⟨A, c, B, d, h1, h2.mono fun b hb => hb.2, h3.mono fun b hb => hb.2, h4⟩
section
variable {w w' : World} {x y x' y' : List Ch} {bo : Bool} {o : Option (List Ch × List Ch)}
theorem lpassH_none (h : o = none) (ho : outF o = (x, y)) (hb : o.isSome = bo) (hw : Below w.heap.size w w') : LPassEndH w x y bo (.returned (.tuple #[.slice none 0 0, .slice none 0 0, .bool false])) w' := by
  subst h
  injection ho with h1 h2
  subst h1 h2 hb
  exact ⟨none, 0, none, 0, rfl, Nat.le_refl _, Nat.le_refl _, .inl rfl, .inl rfl, hw⟩
theorem lpassH_some {A B : Option Addr} {n c m d : Nat} {S T : Nat → Prop} {b1 b2 : Nat} (h : o = some (x', y')) (ho : outF o = (x, y)) (hb : o.isSome = bo) (hn : x'.length = n) (hm : y'.length = m) (hr : OwnS w' S b1 (.slice A n c) x') (hs : OwnS w' T b2 (.slice B m d) y')
    (hS : ∀ b, S b → w.heap.size ≤ b ∧ b < w'.heap.size) (hT : ∀ b, T b → w.heap.size ≤ b ∧ b < w'.heap.size) (h1 : w.heap.size ≤ b1) (h2 : w.heap.size ≤ b2) (hw : Below w.heap.size w w') :
    LPassEndH w x y bo (.returned (.tuple #[.slice A n c, .slice B m d, .bool true])) w' := by
  subst h
  injection ho with e1 e2
  subst e1 e2 hb hn hm
  obtain ⟨_, _, e1, k1⟩ := ownS_slice hr
  obtain ⟨_, _, e2, k2⟩ := ownS_slice hs
  injection e1 with _ _ e1
  injection e2 with _ _ e2
  exact ⟨A, c, B, d, rfl, e1 ▸ k1, e2 ▸ k2, rdP_of_own_hi hr hS h1 rfl, rdP_of_own_hi hs hT h2 rfl, hw⟩
end

theorem OwnS.row6 {W : World} {S : Nat → Prop} {base g : Nat} {v : Value} {l : List Ch} (h : OwnS W S base v l) (hb : some g ≠ v.ownBlock) (hN : ¬ S g) (k : Nat) (v0 v1 v2 v3 v4 v5 : Value) :
    OwnS ((((((W.setCell ⟨g, k * 6, none⟩ v0).setCell ⟨g, k * 6 + 1, none⟩ v1).setCell ⟨g, k * 6 + 2, none⟩ v2).setCell ⟨g, k * 6 + 3, none⟩ v3).setCell ⟨g, k * 6 + 4, none⟩ v4).setCell ⟨g, k * 6 + 5, none⟩ v5) S base v l :=
  (((((h.set hb hN (k * 6) v0).set hb hN (k * 6 + 1) v1).set hb hN (k * 6 + 2) v2).set hb hN (k * 6 + 3) v3).set hb hN (k * 6 + 4) v4).set hb hN (k * 6 + 5) v5

theorem ahead_at {α : Type} {x b : List α} {k : Nat} {q : α} (hx : x.length = k) (h : b[k]? = some q) : (x ++ b.drop k)[k]? = some q := by
  rw [List.getElem?_append_right (by omega), hx, Nat.sub_self, List.getElem?_drop, Nat.add_zero]
  exact h
theorem ahead_set {α : Type} {x b : List α} {k : Nat} {q q1 : α} (hx : x.length = k) (h : b[k]? = some q) : (x ++ b.drop k).set k q1 = (x ++ [q1]) ++ b.drop (k + 1) := by
  rw [drop_at h, List.set_append_right _ _ (by omega), hx, Nat.sub_self, List.append_assoc]
  rfl

/-- Between two rounds of Pass. -/
structure PassI (w W : World) (base : Nat) (Ab Aa : Option Addr) (n n' ca cb : Nat) (a b : List Ch) (k : Nat) (x cur : List Ch) : Prop where
  eq : passF a (b.take k) = some (x, cur)
  lenx : x.length = k
  len : cur.length = n
  lt : Lt cur
  ahead : OwnS W (But W (Two w.heap.size (.slice Ab n' cb) (.slice Aa n ca))) w.heap.size (.slice Ab n' cb) (x ++ b.drop k)
  behind : OwnS W (But W (Two w.heap.size (.slice Ab n' cb) (.slice Aa n ca))) base (.slice Aa n ca) cur
  sep : ∀ g, (Value.slice Ab n' cb).ownBlock = some g → g < base
  bw : Below w.heap.size w W
  hb : w.heap.size ≤ base

theorem PassI.rl {w W : World} {base : Nat} {Ab Aa : Option Addr} {n n' ca cb k : Nat} {a b x cur : List Ch} (h : PassI w W base Ab Aa n n' ca cb a b k x cur) : ∀ g, Two w.heap.size (.slice Ab n' cb) (.slice Aa n ca) g → g < W.heap.size := fun g hg => by
  rcases hg with e | e | e
  · exact Nat.lt_of_lt_of_le e h.bw.size
  · exact ownS_lt h.ahead g e.symm
  · exact ownS_lt h.behind g e.symm
theorem PassI.ne {w W : World} {base : Nat} {Ab Aa : Option Addr} {n n' ca cb k : Nat} {a b x cur : List Ch} (h : PassI w W base Ab Aa n n' ca cb a b k x cur) : ∀ g, (Value.slice Ab n' cb).ownBlock = some g → (Value.slice Aa n ca).ownBlock ≠ some g := fun g hg e => by
  have h1 := h.sep g hg
  have h2 := ownS_ge h.behind g e
  omega

/-- The start: both are one's own. -/
theorem pass_start {w w1 w2 : World} {Ab Aa : Option Addr} {n n' ca cb : Nat} {a b : List Ch} (hn : a.length = n) (ha : Lt a)
    (h1 : OwnS w1 (Fresh w w1 (Value.slice Ab n' cb).ownBlock) w.heap.size (.slice Ab n' cb) b) (hb1 : Below w.heap.size w w1)
    (h2 : OwnS w2 (Fresh w1 w2 (Value.slice Aa n ca).ownBlock) w1.heap.size (.slice Aa n ca) a) (hb2 : Below w1.heap.size w1 w2) :
    PassI w w2 w1.heap.size Ab Aa n n' ca cb a b 0 [] a := by
  refine ⟨by rw [List.take_zero]; exact passL_nil _ _, rfl, hn, ha, ?_, ?_, fun g hg => ownS_lt h1 g hg, hb1.trans (hb2.mono hb1.size), hb1.size⟩
  · rw [List.drop_zero, List.nil_append]
    refine (h1.below hb2).mono fun b hb => ⟨by have := hb.2.1; have := hb2.size; omega, fun e => ?_⟩
    rcases e with e | e | e
    · exact absurd hb.1 (Nat.not_le.2 e)
    · exact hb.2.2 e
    · have h3 := ownS_ge h2 b e.symm
      have := hb.2.1
      omega
  · refine h2.mono fun b hb => ⟨hb.2.1, fun e => ?_⟩
    rcases e with e | e | e
    · have := hb.1
      have := hb1.size
      omega
    · have h3 := ownS_lt h1 b e.symm
      have := hb.1
      omega
    · exact hb.2.2 e

/-- A round: the change passes; what it is then is stored. -/
theorem pass_next {w W w1 w3 w4 : World} {base g : Nat} {Aa : Option Addr} {n n' ca cb k : Nat} {a b x cur a1 : List Ch} {q q1 : Ch} {E1 E2 : Option Addr} {n1 c1 n2 c2 : Nat}
    (h : PassI w W base (some ⟨g, 0, none⟩) Aa n n' ca cb a b k x cur) (hb : Lt b) (hq : b[k]? = some q) (hbl : b.length = n') (hon : one passP cur q = some (q1, a1)) (hb1 : Below W.heap.size W w1) (hg : w1.grownBy w3 (Value.slice Aa n ca).ownBlock) (hb4 : Below w3.heap.size w3 w4)
    (hrow : OwnS w3 (But w3 (Two w.heap.size (.slice (some ⟨g, 0, none⟩) n' cb) (.slice Aa n ca))) base (.slice Aa n ca) a1) (hpg : PG w3 (But w3 (Two w.heap.size (.slice (some ⟨g, 0, none⟩) n' cb) (.slice Aa n ca))) E1 n1 c1 E2 n2 c2 q1) :
    OwnS w4 (But w4 (Two w.heap.size (.slice (some ⟨g, 0, none⟩) n' cb) (.slice Aa n ca))) w.heap.size (.slice (some ⟨g, 0, none⟩) n' cb) (x ++ b.drop k) ∧
    PassI w ((((((w4.setCell ⟨g, k * 6, none⟩ (.int .i64 q1.k)).setCell ⟨g, k * 6 + 1, none⟩ (strV q1.nm)).setCell ⟨g, k * 6 + 2, none⟩ (strV q1.to)).setCell ⟨g, k * 6 + 3, none⟩ (.int .i64 q1.h.pos)).setCell ⟨g, k * 6 + 4, none⟩ (.slice E1 n1 c1)).setCell ⟨g, k * 6 + 5, none⟩ (.slice E2 n2 c2)) base (some ⟨g, 0, none⟩) Aa n n' ca cb a b (k + 1) (x ++ [q1]) a1 := by
  have hl3 : (x ++ b.drop k).length = n' := by
    have hk := (List.getElem?_eq_some_iff.1 hq).1
    rw [List.length_append, List.length_drop, h.lenx, hbl]; omega
  have hgo : (Value.slice (some ⟨g, 0, none⟩) n' cb).ownBlock = some g := rfl
  have hne := h.ne g hgo
  have hgl := h.rl g (.inr (.inl rfl))
  have hG : Two w.heap.size (.slice (some ⟨g, 0, none⟩) n' cb) (.slice Aa n ca) g := .inr (.inl rfl)
  have a3 : OwnS w3 (But w3 (Two w.heap.size (.slice (some ⟨g, 0, none⟩) n' cb) (.slice Aa n ca))) w.heap.size (.slice (some ⟨g, 0, none⟩) n' cb) (x ++ b.drop k) :=
    ((((h.ahead.below hb1).mono (but_up hb1.size)).gr hg (fun i hi => by injection hi with hi; rw [← hi]; exact hne) (fun i hi e => hi.2 (.inr (.inr e.symm))))).mono (but_up hg.size)
  have a4 := (a3.below hb4).mono (but_up hb4.size)
  have hp4 := (hpg.to_ (fun b _ hl => hb4.block b hl)).mono (but_up hb4.size)
  have hr4 := (hrow.below hb4).mono (but_up hb4.size)
  have hN : ¬ But w4 (Two w.heap.size (.slice (some ⟨g, 0, none⟩) n' cb) (.slice Aa n ca)) g := fun e => e.2 hG
  have h5 := a4.store (k := k) hl3 hN hp4
  rw [ahead_set h.lenx hq] at h5
  have h6 := hr4.row6 (g := g) (fun e => hne e.symm) hN k (.int .i64 q1.k) (strV q1.nm) (strV q1.to) (.int .i64 q1.h.pos) (.slice E1 n1 c1) (.slice E2 n2 c2)
  have hbw : Below w.heap.size w w4 := by
    have h1 := h.bw.trans (hb1.mono h.bw.size)
    have h2 := h1.grown hg h1.size (fun i hi => Nat.le_trans h.hb (ownS_ge h.behind i hi))
    exact h2.trans (hb4.mono h2.size)
  have hwg : w.heap.size ≤ g := ownS_ge h.ahead g rfl
  refine ⟨a4, passL_step passP h.eq hq hon, by rw [List.length_append, h.lenx]; rfl, by rw [one_len passP hon]; exact h.len, (one_lt hon h.lt (hb q (List.mem_of_getElem? hq))).2, h5.mono (but_up (by simp)), h6.mono (but_up (by simp)), h.sep, below_row6 hbw hwg k _ _ _ _ _ _, h.hb⟩

set_option maxRecDepth 100000 in
set_option maxHeartbeats 4000000 in
theorem PassLH (A : Option Addr) (n c : Nat) (A' : Option Addr) (n' c' : Nat) (a b x y : List Ch) (w : World) (bo : Bool) (hn : a.length = n) (hn' : b.length = n') (hle : n ≤ 1000) (hle' : n' ≤ 1000) (ha : Lt a) (hb : Lt b)
    (hR : RdP w (· < w.heap.size) A a) (hR' : RdP w (· < w.heap.size) A' b) (ho : outF (passF a b) = (x, y)) (hs : (passF a b).isSome = bo) :
    Calls Try.prog 50 #[.slice A n c, .slice A' n' c'] w (LPassEndH w x y bo) := by
  have HR := Lib.hid hR; have HR' := Lib.hid hR'; have HN := Lib.hid hn; have HN' := Lib.hid hn'; have HA := Lib.hid ha; have HB := Lib.hid hb; have HO := Lib.hid ho; have HS := Lib.hid hs
  clear hR hR' hn hn' ha hb ho hs
  go_enter Try.func50, Try.ntmps50
  go_wp2_with fail
  refine (ownL A' n' c' b w HN'.out hle' HB.out HR'.out).mono ?_
  rintro e w1 ⟨Ab, cb, rfl, hcb, ho1, hb1⟩
  have HO1 := Lib.hid ho1; have HB1 := Lib.hid hb1
  clear ho1 hb1
  go_wp2_with fail
  refine (ownL A n c a w1 HN.out hle HA.out (HR.out.mv HB1.out)).mono ?_
  rintro e w2 ⟨Aa, ca, rfl, hca, ho2, hb2⟩
  have HST := Lib.hid (pass_start HN.out HA.out HO1.out HB1.out ho2 hb2)
  clear ho2 hb2 HO1 HB1
  generalize w1.heap.size = base at HST
  go_wp2
  go_loopw [19] (fun i wr => ∃ (k : Nat) (x1 cur : List Ch), k ≤ n' ∧ i = .int .i64 (k : Int) ∧ PassI w wr base Ab Aa n n' ca cb a b k x1 cur) (fun i _ => n' - (intOf i).toNat)
  case atStart => exact ⟨0, [], a, Nat.zero_le _, rfl, HST.out⟩
  case round =>
    clear HST
    obtain ⟨k, x1, cur, hk, rfl, hI⟩ := hrel
    have HI := Lib.hid hI
    clear hI
    by_cases hlt : k < n'
    · obtain ⟨q, hx⟩ : ∃ q, b[k]? = some q := ⟨_, List.getElem?_eq_getElem (by rw [HN'.out]; exact hlt)⟩
      have hl3 : (x1 ++ b.drop k).length = n' := by rw [List.length_append, List.length_drop, HI.out.lenx, HN'.out]; omega
      obtain ⟨g, hAb⟩ : ∃ g, Ab = some ⟨g, 0, none⟩ := by
        obtain ⟨xs, hr, _⟩ := HI.out.ahead
        rcases hr.2 with ⟨_, h1⟩ | ⟨g, cap, cur, e, _⟩
        · omega
        · injection e with e1; exact ⟨g, e1⟩
      subst hAb
      have hki : (k : Int) < (n' : Int) := by omega
      obtain ⟨D, m, f, D', m', f', c0, c1', c2, c3, c4, c5, _, hpg⟩ := HI.out.ahead.elem hl3 (ahead_at HI.out.lenx hx)
      have HX := Lib.hid hx
      have hba : Below wr.heap.size wr (wr.alloc (.cells (cellsV q D m f D' m' f') 54)) := (Below.refl _ _).alloc (Nat.le_refl _) _
      have HBA := Lib.hid hba
      have HT := Lib.hid (throughL (Two w.heap.size (.slice (some ⟨g, 0, none⟩) n' cb) (.slice Aa n ca)) base n ca Aa cur D m f D' m' f' q (wr.alloc (.cells (cellsV q D m f D' m' f') 54)) hle ⟨HI.out.len, HI.out.lt, HB.out q (List.mem_of_getElem? hx), fun i hi => .inr (.inr hi.symm), fun i hi => Nat.lt_of_lt_of_le (HI.out.rl i hi) hba.size, (HI.out.behind.below hba).mono (but_up hba.size), (hpg.to_ (fun b _ hl => hba.block b hl)).mono (but_up hba.size)⟩)
      clear hx hl3 hpg hba
      go_wp2_with fail
      clear c0 c1' c2 c3 c4 c5
      dsimp only [cellsV] at HT HBA
      refine HT.out.mono ?_
      clear HT
      generalize (wr.alloc (.cells #[.int .i64 q.k, strV q.nm, strV q.to, .int .i64 q.h.pos, .slice D m f, .slice D' m' f'] 54)) = w5 at *
      rintro e w3 ⟨h1, h2, hg⟩
      cases hon : one passP cur q with
      | none =>
        obtain rfl := h2 hon
        have HE := Lib.hid (passL_step_none passP HI.out.eq HX.out hon)
        have HBW : Hid (Below w.heap.size w w3) := Lib.hid (by
          have h3 := HI.out.bw.trans (HBA.out.mono HI.out.bw.size)
          exact h3.grown hg h3.size (fun i hi => Nat.le_trans HI.out.hb (ownS_ge HI.out.behind i hi)))
        clear h1 h2 hon hg
        go_wp2
        go_ret3
        exact lpassH_none HE.out HO.out HS.out (HBW.out.alloc HBW.out.size _)
      | some z =>
        obtain ⟨q1, a1⟩ := z
        obtain ⟨E1, n1, c1, E2, n2, c2, rfl, hrow, hpg⟩ := h1 _ hon
        have hb4 : Below w3.heap.size w3 (w3.alloc (.cells (cellsV q1 E1 n1 c1 E2 n2 c2) 54)) := (Below.refl _ _).alloc (Nat.le_refl _) _
        obtain ⟨hah, hnx⟩ := pass_next HI.out HB.out HX.out HN'.out hon HBA.out hg hb4 hrow hpg
        have HNX := Lib.hid hnx
        have hl3 : (x1 ++ b.drop k).length = n' := by rw [List.length_append, List.length_drop, HI.out.lenx, HN'.out]; omega
        obtain ⟨_, _, _, _, _, _, c0, c1', c2', c3, c4, c5, cf, _⟩ := hah.elem hl3 (ahead_at HI.out.lenx HX.out)
        have f0 := cf (k * 6); have f1 := cf (k * 6 + 1); have f2 := cf (k * 6 + 2); have f3 := cf (k * 6 + 3); have f4 := cf (k * 6 + 4); have f5 := cf (k * 6 + 5)
        clear h1 h2 hon hg hrow hpg hb4 hah hnx hl3 cf
        go_wp2_with fail
        exact ⟨⟨k + 1, x1 ++ [q1], a1, by omega, by go_num, HNX.out⟩, by simp [intOf]; omega⟩
    · have hkn : k = n' := by omega
      subst hkn
      have HE : Hid (passF a b = some (x1, cur)) := Lib.hid (by have := HI.out.eq; rw [List.take_of_length_le (by rw [HN'.out]; exact Nat.le_refl _)] at this; exact this)
      have HX1 : Hid (OwnS wr (But wr (Two w.heap.size (.slice Ab k cb) (.slice Aa n ca))) w.heap.size (.slice Ab k cb) x1) := Lib.hid (by have := HI.out.ahead; rw [List.drop_of_length_le (by rw [HN'.out]; exact Nat.le_refl _), List.append_nil] at this; exact this)
      go_wp2
      go_ret3
      exact lpassH_some HE.out HO.out HS.out HI.out.lenx HI.out.len HX1.out HI.out.behind (fun b hb => ⟨Nat.le_of_not_lt fun e => hb.2 (.inl e), hb.1⟩) (fun b hb => ⟨Nat.le_of_not_lt fun e => hb.2 (.inl e), hb.1⟩) (Nat.le_refl _) HI.out.hb HI.out.bw

end Fl
end Go.Proofs.Ytdnkinajbebkoaa

set_option maxRecDepth 100000
namespace Go.Proofs.Ytdnkinajbebkoaa
open Go.RowKit
set_option linter.unusedVariables false
set_option linter.unusedSimpArgs false
namespace Tg
open Tx Df Sq Hk Tr Pr Fl Pn

def outN (o : Option (Nm × Nm)) : Nm × Nm := o.getD (noN, noN)
/-- How a call of Pass ends that tells x, y and bo, in memory that is new. -/
def NPassEnd (w : World) (x y : Nm) (bo : Bool) (e : Ending) (w' : World) : Prop :=
  ∃ D1 d1 e1 A1 n1 c1 D2 d2 e2 A2 n2 c2, e = .returned (.tuple #[nmV x.id D1 d1 e1 x.txt A1 n1 c1, nmV y.id D2 d2 e2 y.txt A2 n2 c2, .bool bo]) ∧ NG w' (Since w w') D1 d1 e1 A1 n1 c1 x ∧ NG w' (Since w w') D2 d2 e2 A2 n2 c2 y ∧ Below w.heap.size w w'

theorem four_blk (w : World) (t0 t1 t2 t3 : TypeId) (c0 c1 c2 c3 : Array Value) : let W := (((w.alloc (.cells c0 t0)).alloc (.cells c1 t1)).alloc (.cells c2 t2)).alloc (.cells c3 t3)
    Blk W w.heap.size t0 c0 ∧ Blk W (w.heap.size + 1) t1 c1 ∧ Blk W (w.heap.size + 1 + 1) t2 c2 ∧ Blk W (w.heap.size + 1 + 1 + 1) t3 c3 ∧ Below w.heap.size w W := by
  intro W
  have b0 := (((Blk.new w t0 c0).alloc (.cells c1 t1)).alloc (.cells c2 t2)).alloc (.cells c3 t3)
  have b1 := ((Blk.new (w.alloc (.cells c0 t0)) t1 c1).alloc (.cells c2 t2)).alloc (.cells c3 t3)
  have b2 := (Blk.new ((w.alloc (.cells c0 t0)).alloc (.cells c1 t1)) t2 c2).alloc (.cells c3 t3)
  have b3 := Blk.new (((w.alloc (.cells c0 t0)).alloc (.cells c1 t1)).alloc (.cells c2 t2)) t3 c3
  simp only [World.size_alloc] at b1 b2 b3
  exact ⟨b0, b1, b2, b3, (((((Below.refl _ _).alloc (Nat.le_refl _) _).alloc (by simp) _).alloc (by simp; omega) _).alloc (by simp; omega) _)⟩
theorem npass_none {w w' : World} {x y : Nm} {bo : Bool} {o : Option (Nm × Nm)} (h : o = none) (ho : outN o = (x, y)) (hb : o.isSome = bo) (hw : Below w.heap.size w w') : NPassEnd w x y bo (.returned (.tuple #[.agg #[.int .i64 0, .int .i64 0, .slice none 0 0, .string ⟨#[]⟩, .slice none 0 0], .agg #[.int .i64 0, .int .i64 0, .slice none 0 0, .string ⟨#[]⟩, .slice none 0 0], .bool false])) w' := by
  subst h
  injection ho with h1 h2
  subst h1 h2 hb
  exact ⟨none, 0, 0, none, 0, 0, none, 0, 0, none, 0, 0, rfl, ng_no _ _, ng_no _ _, hw⟩

/-- Two boxes of five cells are set. -/
theorem two5 {W w : World} {B g : Nat} {t : TypeId} {a0 a1 a2 a3 a4 b0 b1 b2 b3 b4 : Value} (h1 : Blk W g t #[a0, a1, a2, a3, a4]) (h2 : Blk W (g + 1) t #[b0, b1, b2, b3, b4]) (hb : Below B w W) (hg : B ≤ g) (v0 v1 v2 v3 v4 u0 u1 u2 u3 u4 : Value) :
    let W' := (((((((((W.setCell ⟨g, 0, none⟩ v0).setCell ⟨g, 1, none⟩ v1).setCell ⟨g, 2, none⟩ v2).setCell ⟨g, 3, none⟩ v3).setCell ⟨g, 4, none⟩ v4).setCell ⟨g + 1, 0, none⟩ u0).setCell ⟨g + 1, 1, none⟩ u1).setCell ⟨g + 1, 2, none⟩ u2).setCell ⟨g + 1, 3, none⟩ u3).setCell ⟨g + 1, 4, none⟩ u4
    Blk W' g t #[v0, v1, v2, v3, v4] ∧ Blk W' (g + 1) t #[u0, u1, u2, u3, u4] ∧ Below B w W' ∧ W'.heap.size = W.heap.size ∧ Fl.Alike (fun b => b ≠ g ∧ b ≠ g + 1) W W' := by
  intro W'
  refine ⟨blk_set5 (blk5 h1 _ _ _ _ _) (by omega) _ _ _ _ _, blk5 (blk_set5 h2 (by omega) _ _ _ _ _) _ _ _ _ _, below_set5 (below_set5 hb hg _ _ _ _ _) (by omega) _ _ _ _ _, by simp [W'], ?_⟩
  exact ((alike_set5 W g v0 v1 v2 v3 v4).mono fun b hb => hb.1).trans_ ((alike_set5 _ (g + 1) u0 u1 u2 u3 u4).mono fun b hb => hb.2) (by simp)

set_option maxRecDepth 100000 in
set_option maxHeartbeats 2000000 in
theorem PassN (D : Option Addr) (dn dc : Nat) (A : Option Addr) (n c : Nat) (D' : Option Addr) (dn' dc' : Nat) (A' : Option Addr) (n' c' : Nat) (p q x y : Nm) (w : World) (bo : Bool) (hle : n ≤ 1000) (hle' : n' ≤ 1000) (hd : dn ≤ 100000) (hd' : dn' ≤ 100000) (hl : Lt p.l) (hl' : Lt q.l)
    (hv : NV w w.heap.size D dn dc A n c p) (hv' : NV w w.heap.size D' dn' dc' A' n' c' q) (ho : outN (passN p q) = (x, y)) (hs : (passN p q).isSome = bo) :
    Calls Try.prog 26 #[nmV p.id D dn dc p.txt A n c, nmV q.id D' dn' dc' q.txt A' n' c'] w (NPassEnd w x y bo) := by
  have HV := Lib.hid hv; have HV' := Lib.hid hv'; have HO := Lib.hid ho; have HS := Lib.hid hs; have HL := Lib.hid hl; have HL' := Lib.hid hl'
  clear hv hv' ho hs hl hl'
  go_enter Try.func26, Try.ntmps26
  go_upto_region 1 with fail
  obtain ⟨b0, b1, b2, b3, hba⟩ := four_blk w 45 45 45 45 #[.int .i64 p.id.1, .int .i64 p.id.2, .slice D dn dc, strV p.txt, .slice A n c] #[.int .i64 q.id.1, .int .i64 q.id.2, .slice D' dn' dc', strV q.txt, .slice A' n' c'] #[.int .i64 0, .int .i64 0, .slice none 0 0, .string ⟨#[]⟩, .slice none 0 0] #[.int .i64 0, .int .i64 0, .slice none 0 0, .string ⟨#[]⟩, .slice none 0 0]
  generalize ((((w.alloc (.cells #[.int .i64 p.id.1, .int .i64 p.id.2, .slice D dn dc, strV p.txt, .slice A n c] 45)).alloc (.cells #[.int .i64 q.id.1, .int .i64 q.id.2, .slice D' dn' dc', strV q.txt, .slice A' n' c'] 45)).alloc (.cells #[.int .i64 0, .int .i64 0, .slice none 0 0, .string ⟨#[]⟩, .slice none 0 0] 45)).alloc (.cells #[.int .i64 0, .int .i64 0, .slice none 0 0, .string ⟨#[]⟩, .slice none 0 0] 45)) = w1 at b0 b1 b2 b3 hba ⊢
  obtain ⟨z, hz⟩ : ∃ z, w.heap.size = z := ⟨_, rfl⟩
  rw [hz] at b0 b1 b2 b3 ⊢
  have HZ := Lib.hid hz
  have HB0 := Lib.hid b0; have HB1 := Lib.hid b1; have HB2 := Lib.hid b2; have HB3 := Lib.hid b3; have HBW := Lib.hid hba
  replace HV := Lib.hid (HV.out.mv hba); replace HV' := Lib.hid (HV'.out.mv hba)
  clear b0 b1 b2 b3 hba hz
  have x0 := HB0.out.cell 0 rfl; have x1 := HB0.out.cell 1 rfl; have y2 := HB1.out.cell 2 rfl
  have l0 := HB0.out.lt; have l1 := HB1.out.lt
  go_wp2_with fail
  obtain ⟨bm, hbm⟩ : ∃ b, decide (p.id ∈ q.deps) = b := ⟨_, rfl⟩
  refine (ContainsI p.id D' dn' dc' w1.heap.size q.deps w1 bm HV'.out.dl (by omega) (Nat.le_refl _) HV'.out.dr hbm).mono ?_
  rintro e w2 ⟨rfl, hb⟩
  have HM := Lib.hid hbm
  clear hbm x0 x1 y2 l0 l1
  replace HB0 := Lib.hid (HB0.out.below hb HB0.out.lt); replace HB1 := Lib.hid (HB1.out.below hb HB1.out.lt); replace HB2 := Lib.hid (HB2.out.below hb HB2.out.lt); replace HB3 := Lib.hid (HB3.out.below hb HB3.out.lt)
  replace HV := Lib.hid (HV.out.mv hb); replace HV' := Lib.hid (HV'.out.mv hb); replace HBW := Lib.hid (below_mv HBW.out hb)
  clear hb
  have r0 := HB2.out.cell 0 rfl; have r1 := HB2.out.cell 1 rfl; have r2 := HB2.out.cell 2 rfl; have r3 := HB2.out.cell 3 rfl; have r4 := HB2.out.cell 4 rfl
  have s0 := HB3.out.cell 0 rfl; have s1 := HB3.out.cell 1 rfl; have s2 := HB3.out.cell 2 rfl; have s3 := HB3.out.cell 3 rfl; have s4 := HB3.out.cell 4 rfl
  have f0 := HB2.out.frozen 0; have f1 := HB2.out.frozen 1; have f2 := HB2.out.frozen 2; have f3 := HB2.out.frozen 3; have f4 := HB2.out.frozen 4
  have g0 := HB3.out.frozen 0; have g1 := HB3.out.frozen 1; have g2 := HB3.out.frozen 2; have g3 := HB3.out.frozen 3; have g4 := HB3.out.frozen 4
  have x4 := HB0.out.cell 4 rfl; have y4 := HB1.out.cell 4 rfl
  have l0 := HB0.out.lt; have l1 := HB1.out.lt; have l2 := HB2.out.lt; have l3 := HB3.out.lt
  cases bm with
  | true =>
    have HE : Hid (passN p q = none) := Lib.hid (by unfold passN; rw [if_pos (of_decide_eq_true HM.out)])
    go_wp2_with fail
    have hT := two5 HB2.out HB3.out HBW.out (show w.heap.size ≤ z + 1 + 1 by have := HZ.out; omega) (.int .i64 0) (.int .i64 0) (.slice none 0 0) (.string ⟨#[]⟩) (.slice none 0 0) (.int .i64 0) (.int .i64 0) (.slice none 0 0) (.string ⟨#[]⟩) (.slice none 0 0)
    clear r0 r1 r2 r3 r4 s0 s1 s2 s3 s4 f0 f1 f2 f3 f4 g0 g1 g2 g3 g4 x4 y4 l0 l1 l2 l3
    generalize (World.setCell (World.setCell (World.setCell (World.setCell (World.setCell (World.setCell (World.setCell (World.setCell (World.setCell (World.setCell w2 ⟨z + 1 + 1, 0, none⟩ (.int .i64 0)) ⟨z + 1 + 1, 1, none⟩ (.int .i64 0)) ⟨z + 1 + 1, 2, none⟩ (.slice none 0 0)) ⟨z + 1 + 1, 3, none⟩ (.string ⟨#[]⟩)) ⟨z + 1 + 1, 4, none⟩ (.slice none 0 0)) ⟨z + 1 + 1 + 1, 0, none⟩ (.int .i64 0)) ⟨z + 1 + 1 + 1, 1, none⟩ (.int .i64 0)) ⟨z + 1 + 1 + 1, 2, none⟩ (.slice none 0 0)) ⟨z + 1 + 1 + 1, 3, none⟩ (.string ⟨#[]⟩)) ⟨z + 1 + 1 + 1, 4, none⟩ (.slice none 0 0)) = w9 at *
    obtain ⟨t1, t2, t3, t4, t5⟩ := hT
    have u0 := t1.cell 0 rfl; have u1 := t1.cell 1 rfl; have u2 := t1.cell 2 rfl; have u3 := t1.cell 3 rfl; have u4 := t1.cell 4 rfl
    have v0 := t2.cell 0 rfl; have v1 := t2.cell 1 rfl; have v2 := t2.cell 2 rfl; have v3 := t2.cell 3 rfl; have v4 := t2.cell 4 rfl
    refine bodyPost_ret (v := .tuple #[.agg #[.int .i64 0, .int .i64 0, .slice none 0 0, .string ⟨#[]⟩, .slice none 0 0], .agg #[.int .i64 0, .int .i64 0, .slice none 0 0, .string ⟨#[]⟩, .slice none 0 0], .bool false]) (by simp [results, Try.results26, go_sem, u0, u1, u2, u3, u4, v0, v1, v2, v3, v4]) rfl ?_
    exact npass_none HE.out HO.out HS.out t3
  | false =>
    have HNM : Hid (p.id ∉ q.deps) := Lib.hid (of_decide_eq_false HM.out)
    go_wp2_with fail
    obtain ⟨⟨lx, ly⟩, hol⟩ : ∃ z, outF (passF p.l q.l) = z := ⟨_, rfl⟩
    obtain ⟨bl, hbl⟩ : ∃ b, (passF p.l q.l).isSome = b := ⟨_, rfl⟩
    refine (PassLH A n c A' n' c' p.l q.l lx ly w2 bl HV.out.l HV'.out.l hle hle' HL.out HL'.out HV.out.r HV'.out.r hol hbl).mono ?_
    rintro e w3 ⟨E1, k1, E2, k2, rfl, hk1, hk2, hr1, hr2, hb⟩
    have HOL := Lib.hid hol; have HBL := Lib.hid hbl
    clear hol hbl r0 r1 r2 r3 r4 s0 s1 s2 s3 s4 f0 f1 f2 f3 f4 g0 g1 g2 g3 g4 x4 y4 l0 l1 l2 l3
    have hsw : z + 4 ≤ w2.heap.size := HB3.out.lt
    have HR1 := Lib.hid (hr1.mono fun b hb => (⟨Nat.le_trans hsw hb.1, hb.2⟩ : z + 4 ≤ b ∧ b < w3.heap.size)); have HR2 := Lib.hid (hr2.mono fun b hb => (⟨Nat.le_trans hsw hb.1, hb.2⟩ : z + 4 ≤ b ∧ b < w3.heap.size)); have HK1 := Lib.hid hk1; have HK2 := Lib.hid hk2
    replace HB0 := Lib.hid (HB0.out.below hb HB0.out.lt); replace HB1 := Lib.hid (HB1.out.below hb HB1.out.lt); replace HB2 := Lib.hid (HB2.out.below hb HB2.out.lt); replace HB3 := Lib.hid (HB3.out.below hb HB3.out.lt)
    replace HV := Lib.hid (HV.out.mv hb); replace HV' := Lib.hid (HV'.out.mv hb); replace HBW := Lib.hid (below_mv HBW.out hb)
    clear hb hr1 hr2 hk1 hk2 hsw
    have r0 := HB2.out.cell 0 rfl; have r1 := HB2.out.cell 1 rfl; have r2 := HB2.out.cell 2 rfl; have r3 := HB2.out.cell 3 rfl; have r4 := HB2.out.cell 4 rfl
    have s0 := HB3.out.cell 0 rfl; have s1 := HB3.out.cell 1 rfl; have s2 := HB3.out.cell 2 rfl; have s3 := HB3.out.cell 3 rfl; have s4 := HB3.out.cell 4 rfl
    have f0 := HB2.out.frozen 0; have f1 := HB2.out.frozen 1; have f2 := HB2.out.frozen 2; have f3 := HB2.out.frozen 3; have f4 := HB2.out.frozen 4
    have g0 := HB3.out.frozen 0; have g1 := HB3.out.frozen 1; have g2 := HB3.out.frozen 2; have g3 := HB3.out.frozen 3; have g4 := HB3.out.frozen 4
    have x4 := HB0.out.cell 4 rfl; have y4 := HB1.out.cell 4 rfl
    have l0 := HB0.out.lt; have l1 := HB1.out.lt; have l2 := HB2.out.lt; have l3 := HB3.out.lt
    cases bl with
    | false =>
      have HE : Hid (passN p q = none) := Lib.hid (by
        unfold passN
        rw [if_neg HNM.out]
        have h := HBL.out
        cases hp : passF p.l q.l with
        | none => rfl
        | some z => rw [hp] at h; cases h)
      go_wp2_with fail
      have hT := two5 HB2.out HB3.out HBW.out (show w.heap.size ≤ z + 1 + 1 by have := HZ.out; omega) (.int .i64 0) (.int .i64 0) (.slice none 0 0) (.string ⟨#[]⟩) (.slice none 0 0) (.int .i64 0) (.int .i64 0) (.slice none 0 0) (.string ⟨#[]⟩) (.slice none 0 0)
      clear r0 r1 r2 r3 r4 s0 s1 s2 s3 s4 f0 f1 f2 f3 f4 g0 g1 g2 g3 g4 x4 y4 l0 l1 l2 l3
      generalize (World.setCell (World.setCell (World.setCell (World.setCell (World.setCell (World.setCell (World.setCell (World.setCell (World.setCell (World.setCell w3 ⟨z + 1 + 1, 0, none⟩ (.int .i64 0)) ⟨z + 1 + 1, 1, none⟩ (.int .i64 0)) ⟨z + 1 + 1, 2, none⟩ (.slice none 0 0)) ⟨z + 1 + 1, 3, none⟩ (.string ⟨#[]⟩)) ⟨z + 1 + 1, 4, none⟩ (.slice none 0 0)) ⟨z + 1 + 1 + 1, 0, none⟩ (.int .i64 0)) ⟨z + 1 + 1 + 1, 1, none⟩ (.int .i64 0)) ⟨z + 1 + 1 + 1, 2, none⟩ (.slice none 0 0)) ⟨z + 1 + 1 + 1, 3, none⟩ (.string ⟨#[]⟩)) ⟨z + 1 + 1 + 1, 4, none⟩ (.slice none 0 0)) = w9 at *
      obtain ⟨t1, t2, t3, t4, t5⟩ := hT
      have u0 := t1.cell 0 rfl; have u1 := t1.cell 1 rfl; have u2 := t1.cell 2 rfl; have u3 := t1.cell 3 rfl; have u4 := t1.cell 4 rfl
      have v0 := t2.cell 0 rfl; have v1 := t2.cell 1 rfl; have v2 := t2.cell 2 rfl; have v3 := t2.cell 3 rfl; have v4 := t2.cell 4 rfl
      refine bodyPost_ret (v := .tuple #[.agg #[.int .i64 0, .int .i64 0, .slice none 0 0, .string ⟨#[]⟩, .slice none 0 0], .agg #[.int .i64 0, .int .i64 0, .slice none 0 0, .string ⟨#[]⟩, .slice none 0 0], .bool false]) (by simp [results, Try.results26, go_sem, u0, u1, u2, u3, u4, v0, v1, v2, v3, v4]) rfl ?_
      exact npass_none HE.out HO.out HS.out t3
    | true =>
      have HE : Hid (passN p q = some (⟨q.id, q.deps, q.txt, lx⟩, ⟨p.id, p.deps, p.txt, ly⟩)) := Lib.hid (by
        unfold passN
        rw [if_neg HNM.out, outF_of HOL.out HBL.out]
        rfl)
      have x0 := HB0.out.cell 0 rfl; have x1 := HB0.out.cell 1 rfl; have x2 := HB0.out.cell 2 rfl; have x3 := HB0.out.cell 3 rfl
      have y0 := HB1.out.cell 0 rfl; have y1 := HB1.out.cell 1 rfl; have y2 := HB1.out.cell 2 rfl; have y3 := HB1.out.cell 3 rfl
      go_upto_region 7 with fail
      have HSB : Hid (∀ X : World, Blk X z 45 #[.int .i64 p.id.1, .int .i64 p.id.2, .slice D dn dc, strV p.txt, .slice A n c] → Blk X (z + 1) 45 #[.int .i64 q.id.1, .int .i64 q.id.2, .slice D' dn' dc', strV q.txt, .slice A' n' c'] → X.cell? ⟨z, 0, none⟩ = some (.int .i64 p.id.1) ∧ X.cell? ⟨z, 1, none⟩ = some (.int .i64 p.id.2) ∧ X.cell? ⟨z, 2, none⟩ = some (.slice D dn dc) ∧ X.cell? ⟨z, 3, none⟩ = some (strV p.txt) ∧ X.cell? ⟨z, 4, none⟩ = some (.slice A n c) ∧ X.cell? ⟨z + 1, 0, none⟩ = some (.int .i64 q.id.1) ∧ X.cell? ⟨z + 1, 1, none⟩ = some (.int .i64 q.id.2) ∧ X.cell? ⟨z + 1, 2, none⟩ = some (.slice D' dn' dc') ∧ X.cell? ⟨z + 1, 3, none⟩ = some (strV q.txt) ∧ X.cell? ⟨z + 1, 4, none⟩ = some (.slice A' n' c')) := Lib.hid (fun X h1 h2 => ⟨h1.cell 0 rfl, h1.cell 1 rfl, h1.cell 2 rfl, h1.cell 3 rfl, h1.cell 4 rfl, h2.cell 0 rfl, h2.cell 1 rfl, h2.cell 2 rfl, h2.cell 3 rfl, h2.cell 4 rfl⟩)
      have HC : Hid (∀ X, Below w3.heap.size w3 X → X.cell? ⟨z, 0, none⟩ = some (.int .i64 p.id.1) ∧ X.cell? ⟨z, 1, none⟩ = some (.int .i64 p.id.2) ∧ X.cell? ⟨z, 2, none⟩ = some (.slice D dn dc) ∧ X.cell? ⟨z, 3, none⟩ = some (strV p.txt) ∧ X.cell? ⟨z, 4, none⟩ = some (.slice A n c) ∧ X.cell? ⟨z + 1, 0, none⟩ = some (.int .i64 q.id.1) ∧ X.cell? ⟨z + 1, 1, none⟩ = some (.int .i64 q.id.2) ∧ X.cell? ⟨z + 1, 2, none⟩ = some (.slice D' dn' dc') ∧ X.cell? ⟨z + 1, 3, none⟩ = some (strV q.txt) ∧ X.cell? ⟨z + 1, 4, none⟩ = some (.slice A' n' c')) := Lib.hid (fun X hb => HSB.out X (HB0.out.below hb HB0.out.lt) (HB1.out.below hb HB1.out.lt))
      have HD := Lib.hid (show Below w3.heap.size w3 w3.drew from below_drewN (Below.refl _ _) 1)
      have HKD := Lib.hid (HC.out w3.drew HD.out)
      have PX : Hid (∀ X, Below w3.heap.size w3 X → Calls Try.prog 48 #[nmV q.id D' dn' dc' q.txt A' n' c', .slice E1 lx.length k1] X (WithEnd X q dn' E1 lx.length k1)) := Lib.hid (fun X hb => With D' dn' dc' A' n' c' q E1 lx.length k1 X hd' HV'.out.dl (RdI.mv HV'.out.dr hb))
      have PY : Hid (∀ X, Below w3.heap.size w3 X → Calls Try.prog 48 #[nmV p.id D dn dc p.txt A n c, .slice E2 ly.length k2] X (WithEnd X p dn E2 ly.length k2)) := Lib.hid (fun X hb => With D dn dc A n c p E2 ly.length k2 X hd HV.out.dl (RdI.mv HV.out.dr hb))
      go_region_held3 (fun X => X.cell? ⟨z, 0, none⟩ = some (.int .i64 p.id.1) ∧ X.cell? ⟨z, 1, none⟩ = some (.int .i64 p.id.2) ∧ X.cell? ⟨z, 2, none⟩ = some (.slice D dn dc) ∧ X.cell? ⟨z, 3, none⟩ = some (strV p.txt) ∧ X.cell? ⟨z, 4, none⟩ = some (.slice A n c) ∧ X.cell? ⟨z + 1, 0, none⟩ = some (.int .i64 q.id.1) ∧ X.cell? ⟨z + 1, 1, none⟩ = some (.int .i64 q.id.2) ∧ X.cell? ⟨z + 1, 2, none⟩ = some (.slice D' dn' dc') ∧ X.cell? ⟨z + 1, 3, none⟩ = some (strV q.txt) ∧ X.cell? ⟨z + 1, 4, none⟩ = some (.slice A' n' c'))
        (first | (with_reducible exact HKD.out) | (with_reducible exact hS5) | (with_reducible exact hS6) | (with_reducible exact HKA.out) | (with_reducible exact HKB.out))
        (first
          | (go_at_call 48; (with_reducible refine (PX.out w3.drew HD.out).mono ?_); rintro e w5 ⟨D5, c5, rfl, hk5, hr5, hb5⟩; have hbu := HD.out.trans (hb5.mono HD.out.size); have hS5 := HC.out w5 hbu; have HU5 := Lib.hid hbu; have HR5 := Lib.hid hr5; have HK5 := Lib.hid hk5; clear hb5 hbu hr5 hk5)
          | (go_at_call 48; (with_reducible refine (PY.out w5 HU5.out).mono ?_); rintro e w6 ⟨D6, c6, rfl, hk6, hr6, hb6⟩; have hbu := HU5.out.trans (hb6.mono HU5.out.size); have hS6 := HC.out w6 hbu; have HU6 := Lib.hid hbu; have HB6 := Lib.hid hb6; have HR6 := Lib.hid hr6; have HK6 := Lib.hid hk6;
              have B0 := HB0.out.below hbu HB0.out.lt; have B1 := HB1.out.below hbu HB1.out.lt; have B2 := HB2.out.below hbu HB2.out.lt; have B3 := HB3.out.below hbu HB3.out.lt;
              have HKA := Lib.hid (HSB.out _ (blk_set5 B0 (show z ≠ z + 1 + 1 by omega) (.int .i64 q.id.1) (.int .i64 q.id.2) (.slice D5 dn' c5) (strV q.txt) (.slice E1 lx.length k1)) (blk_set5 B1 (show z + 1 ≠ z + 1 + 1 by omega) (.int .i64 q.id.1) (.int .i64 q.id.2) (.slice D5 dn' c5) (strV q.txt) (.slice E1 lx.length k1)));
              have HKB := Lib.hid (HSB.out _ (blk_set5 (blk_set5 B0 (show z ≠ z + 1 + 1 by omega) (.int .i64 q.id.1) (.int .i64 q.id.2) (.slice D5 dn' c5) (strV q.txt) (.slice E1 lx.length k1)) (show z ≠ z + 1 + 1 + 1 by omega) (.int .i64 p.id.1) (.int .i64 p.id.2) (.slice D6 dn c6) (strV p.txt) (.slice E2 ly.length k2)) (blk_set5 (blk_set5 B1 (show z + 1 ≠ z + 1 + 1 by omega) (.int .i64 q.id.1) (.int .i64 q.id.2) (.slice D5 dn' c5) (strV q.txt) (.slice E1 lx.length k1)) (show z + 1 ≠ z + 1 + 1 + 1 by omega) (.int .i64 p.id.1) (.int .i64 p.id.2) (.slice D6 dn c6) (strV p.txt) (.slice E2 ly.length k2)));
              have HB2' := Lib.hid B2; have HB3' := Lib.hid B3;
              have r0 := B2.cell 0 rfl; have r1 := B2.cell 1 rfl; have r2 := B2.cell 2 rfl; have r3 := B2.cell 3 rfl; have r4 := B2.cell 4 rfl;
              have s0 := B3.cell 0 rfl; have s1 := B3.cell 1 rfl; have s2 := B3.cell 2 rfl; have s3 := B3.cell 3 rfl; have s4 := B3.cell 4 rfl;
              have f0 := B2.frozen 0; have f1 := B2.frozen 1; have f2 := B2.frozen 2; have f3 := B2.frozen 3; have f4 := B2.frozen 4;
              have g0 := B3.frozen 0; have g1 := B3.frozen 1; have g2 := B3.frozen 2; have g3 := B3.frozen 3; have g4 := B3.frozen 4;
              have l2 := B2.lt; have l3 := B3.lt; clear hb6 hbu hr6 hk6 B0 B1 B2 B3))
      have hsz : w.heap.size = z := HZ.out
      have hz3 : z + 4 ≤ w3.heap.size := by have := HB3.out.lt; omega
      have h56 : w5.heap.size ≤ w6.heap.size := HB6.out.size
      have h35 : w3.heap.size ≤ w5.heap.size := HU5.out.size
      have hT := two5 HB2'.out HB3'.out (below_mv HBW.out HU6.out) (show w.heap.size ≤ z + 1 + 1 by omega) (.int .i64 q.id.1) (.int .i64 q.id.2) (.slice D5 dn' c5) (strV q.txt) (.slice E1 lx.length k1) (.int .i64 p.id.1) (.int .i64 p.id.2) (.slice D6 dn c6) (strV p.txt) (.slice E2 ly.length k2)
      clear r0 r1 r2 r3 r4 s0 s1 s2 s3 s4 f0 f1 f2 f3 f4 g0 g1 g2 g3 g4 x4 y4 l0 l1 l2 l3 x0 x1 x2 x3 y0 y1 y2 y3 hS5 hS6 HKA HKB HSB HC HKD PX PY
      go_wp2_with fail
      generalize (World.setCell (World.setCell (World.setCell (World.setCell (World.setCell (World.setCell (World.setCell (World.setCell (World.setCell (World.setCell w6 ⟨z + 1 + 1, 0, none⟩ (.int .i64 q.id.1)) ⟨z + 1 + 1, 1, none⟩ (.int .i64 q.id.2)) ⟨z + 1 + 1, 2, none⟩ (.slice D5 dn' c5)) ⟨z + 1 + 1, 3, none⟩ (strV q.txt)) ⟨z + 1 + 1, 4, none⟩ (.slice E1 lx.length k1)) ⟨z + 1 + 1 + 1, 0, none⟩ (.int .i64 p.id.1)) ⟨z + 1 + 1 + 1, 1, none⟩ (.int .i64 p.id.2)) ⟨z + 1 + 1 + 1, 2, none⟩ (.slice D6 dn c6)) ⟨z + 1 + 1 + 1, 3, none⟩ (strV p.txt)) ⟨z + 1 + 1 + 1, 4, none⟩ (.slice E2 ly.length k2)) = w9 at *
      obtain ⟨t1, t2, t3, t4, t5⟩ := hT
      have u0 := t1.cell 0 rfl; have u1 := t1.cell 1 rfl; have u2 := t1.cell 2 rfl; have u3 := t1.cell 3 rfl; have u4 := t1.cell 4 rfl
      have v0 := t2.cell 0 rfl; have v1 := t2.cell 1 rfl; have v2 := t2.cell 2 rfl; have v3 := t2.cell 3 rfl; have v4 := t2.cell 4 rfl
      have hv := HV.out; have hv' := HV'.out
      obtain ⟨k4, k5⟩ := passL_len passP (outF_of HOL.out HBL.out)
      have hv0 := HV.out.l; have hv1 := HV'.out.l
      have key : ∀ b, (z + 4 ≤ b ∧ b < w6.heap.size) → b ≠ z + 1 + 1 ∧ b ≠ z + 1 + 1 + 1 := fun b hb => by omega
      have up : ∀ b, (z + 4 ≤ b ∧ b < w6.heap.size) → Since w w9 b := fun b hb => ⟨by omega, by omega⟩
      have a3 : Below w3.heap.size w3 w6 := HU6.out
      have l1 := (((HR1.out.to ((alike_below a3).mono fun b hb => hb.2)).mono fun b hb => (⟨hb.1, by have := hb.2; omega⟩ : z + 4 ≤ b ∧ b < w6.heap.size)).to (t5.mono key)).mono up
      have l2 := (((HR2.out.to ((alike_below a3).mono fun b hb => hb.2)).mono fun b hb => (⟨hb.1, by have := hb.2; omega⟩ : z + 4 ≤ b ∧ b < w6.heap.size)).to (t5.mono key)).mono up
      have hd1 : w3.drew.heap.size = w3.heap.size := rfl
      have d5 := (((HR5.out.to ((alike_below HB6.out).mono fun b hb => hb.2)).mono fun b hb => (⟨by have := hb.1; omega, by have := hb.2; omega⟩ : z + 4 ≤ b ∧ b < w6.heap.size)).to (t5.mono key)).mono up
      have d6 := ((HR6.out.mono fun b hb => (⟨by have := hb.1; omega, hb.2⟩ : z + 4 ≤ b ∧ b < w6.heap.size)).to (t5.mono key)).mono up
      refine bodyPost_ret (v := .tuple #[.agg #[.int .i64 q.id.1, .int .i64 q.id.2, .slice D5 dn' c5, strV q.txt, .slice E1 lx.length k1], .agg #[.int .i64 p.id.1, .int .i64 p.id.2, .slice D6 dn c6, strV p.txt, .slice E2 ly.length k2], .bool true]) (by simp [results, Try.results26, go_sem, u0, u1, u2, u3, u4, v0, v1, v2, v3, v4]) rfl ?_
      have ho := HO.out
      have hs := HS.out
      rw [HE.out] at ho hs
      injection ho with e1 e2
      subst e1 e2 hs
      refine ⟨D5, dn', c5, E1, lx.length, k1, D6, dn, c6, E2, ly.length, k2, rfl, ⟨hv'.dl, HK5.out, hv'.dm, d5, hv'.tm, rfl, HK1.out, by unfold maxLen; omega, l1⟩, ⟨hv.dl, HK6.out, hv.dm, d6, hv.tm, rfl, HK2.out, by unfold maxLen; omega, l2⟩, t3⟩

end Tg
end Go.Proofs.Ytdnkinajbebkoaa

set_option maxRecDepth 100000
namespace Go.Proofs.Ytdnkinajbebkoaa
open Go.RowKit
set_option linter.unusedVariables false
namespace Cut2
open Tx Df Sq Hk Tr Pr

theorem bel0 (w : World) : Below w.heap.size w w := Below.refl _ _
theorem bel1 (w : World) (o : Obj) : Below w.heap.size w (w.alloc o) := (Below.refl _ _).alloc (Nat.le_refl _) _
theorem bel2 (w : World) (o o' : Obj) : Below w.heap.size w ((w.alloc o).alloc o') := ((Below.refl _ _).alloc (Nat.le_refl _) _).alloc (by simp) _
theorem belD0 (w : World) : Below w.heap.size w w.drew := below_drewN (bel0 w) 1
theorem belD1 (w : World) (o : Obj) : Below w.heap.size w (w.alloc o).drew := below_drewN (bel1 w o) 1
theorem belD2 (w : World) (o o' : Obj) : Below w.heap.size w ((w.alloc o).alloc o').drew := below_drewN (bel2 w o o') 1
theorem thr {w W u : World} (h : Below w.heap.size w W) (hb : Below W.heap.size W u) : Below w.heap.size w u := h.trans (hb.mono h.size)
theorem thrD0 {w u : World} (hb : Below w.drew.heap.size w.drew u) : Below w.heap.size w u := thr (belD0 w) hb
theorem thrD1 {w u : World} {o : Obj} (hb : Below (w.alloc o).drew.heap.size (w.alloc o).drew u) : Below w.heap.size w u := thr (belD1 w o) hb
theorem thrD2 {w u : World} {o o' : Obj} (hb : Below ((w.alloc o).alloc o').drew.heap.size ((w.alloc o).alloc o').drew u) : Below w.heap.size w u := thr (belD2 w o o') hb
theorem newD1 {w u : World} {t : TypeId} {cs : Array Value} (hb : Below (w.alloc (.cells cs t)).drew.heap.size (w.alloc (.cells cs t)).drew u) : Blk u w.heap.size t cs := ((Blk.new w t cs).drewN 1).below hb (show w.heap.size < (w.alloc (.cells cs t)).heap.size by simp)
theorem newD2 {w u : World} {t t' : TypeId} {cs cs' : Array Value} (hb : Below ((w.alloc (.cells cs t)).alloc (.cells cs' t')).drew.heap.size ((w.alloc (.cells cs t)).alloc (.cells cs' t')).drew u) : Blk u w.heap.size t cs ∧ Blk u (w.heap.size + 1) t' cs' := by
  have h2 := Blk.new (w.alloc (.cells cs t)) t' cs'
  simp only [World.size_alloc] at h2
  exact ⟨(((Blk.new w t cs).alloc (.cells cs' t')).drewN 1).below hb (show w.heap.size < ((w.alloc (.cells cs t)).alloc (.cells cs' t')).heap.size by simp; omega), (h2.drewN 1).below hb (show w.heap.size + 1 < ((w.alloc (.cells cs t)).alloc (.cells cs' t')).heap.size by simp)⟩

/-- Where two changes lie, made since w. -/
def Lay (w W : World) (T U : Nat) (x y : Array Value) : Prop := Blk W T 54 x ∧ Blk W U 54 y ∧ w.heap.size ≤ T ∧ w.heap.size ≤ U ∧ Below w.heap.size w W
section
variable {w u : World} {T U X Y : Nat} {x0 x1 x2 x3 x4 x5 y0 y1 y2 y3 y4 y5 : Value}
theorem Lay.swap {W : World} {x y : Array Value} (h : Lay w W T U x y) : Lay w W U T y x := ⟨h.2.1, h.1, h.2.2.2.1, h.2.2.1, h.2.2.2.2⟩
end

end Cut2
end Go.Proofs.Ytdnkinajbebkoaa

set_option maxRecDepth 100000
namespace Go.Proofs.Ytdnkinajbebkoaa
open Go.RowKit
set_option linter.unusedVariables false
set_option linter.unusedSimpArgs false
namespace Fl
open Tx Df Sq Hk Tr Pr

/-- Changes that are read, wherever their cells are; their lines in blocks that N names. -/
def SrcN (W : World) (N : Nat → Prop) (A : Option Addr) (l : List Ch) : Prop := ∃ ys : List Value, ys.length = l.length * 6 ∧ PCells W N l ys ∧ (ys = [] ∨ ∃ a, A = some a ∧ ∀ (j : Nat) u, ys[j]? = some u → W.cell? (a.add j) = some u)
theorem SrcN.below {W W' : World} {N : Nat → Prop} {A : Option Addr} {l : List Ch} (h : SrcN W N A l) (hb : Below W.heap.size W W') : SrcN W' N A l := by
  obtain ⟨ys, h1, h2, h3⟩ := h
  exact ⟨ys, h1, h2.kc (keepC_below hb), h3.imp id fun ⟨a, e, h⟩ => ⟨a, e, fun j u hu => (keepC_below (S := fun _ => True) hb).cell trivial (h j u hu)⟩⟩
theorem OwnS.base {W : World} {S : Nat → Prop} {base base' : Nat} {v : Value} {l : List Ch} (h : OwnS W S base v l) (hb : base' ≤ base) : OwnS W S base' v l := by
  obtain ⟨xs, h1, h2⟩ := h
  exact ⟨xs, own_mono h1 hb, h2⟩

/-- Between two rounds of one: x is q ahead of those from place j on, which are post. -/
structure OneInv (W : World) (N : Nat → Prop) (gq : Nat) (A1 : Option Addr) (n c1 : Nat) (D : Option Addr) (m k : Nat) (D' : Option Addr) (m' k' : Nat) (a : List Ch) (q : Ch) (j : Nat) (x : Ch) (post : List Ch) : Prop where
  on : one passP (a.drop j) q = some (x, post)
  row : OwnS W N (gq + 2) (.slice A1 n c1) (a.take j ++ post)
  bq : Blk W gq 54 #[.int .i64 x.k, strV x.nm, strV x.to, .int .i64 x.h.pos, .slice D m k, .slice D' m' k']
  br : Blk W (gq + 1) 54 #[.int .i64 0, strV [], strV [], .int .i64 0, .slice none 0 0, .slice none 0 0]
  pg : PG W N D m k D' m' k' x
  lt : lightP x = true
theorem OneInv.len {W : World} {N : Nat → Prop} {gq : Nat} {A1 : Option Addr} {n c1 : Nat} {D : Option Addr} {m k : Nat} {D' : Option Addr} {m' k' : Nat} {a : List Ch} {q : Ch} {j : Nat} {x : Ch} {post : List Ch} (h : OneInv W N gq A1 n c1 D m k D' m' k' a q j x post) (hn : a.length = n) (hj : j ≤ n) : (a.take j ++ post).length = n :=
  len_mid (by rw [one_len passP h.on, List.length_drop]; omega) hn
/-- What S names, and what was made behind w. -/
def Also (S : Nat → Prop) (w W : World) : Nat → Prop := fun b => S b ∨ (w.heap.size ≤ b ∧ b < W.heap.size)
end Fl
end Go.Proofs.Ytdnkinajbebkoaa

set_option maxRecDepth 100000
namespace Go.Proofs.Ytdnkinajbebkoaa
open Go.RowKit Go.Shelf
set_option linter.unusedVariables false
namespace Tg
open Tx Rg Fl Pn
attribute [local go_sem] Oper.semAt_some

/-- What a round must keep: the box in which the slice lies, and that its changes can be read. -/
def KpN (Bs : Nat) (A : Option Addr) (m : Nat) (W W' : World) : Prop := (∀ v, Boxed W Bs 22 v → Boxed W' Bs 22 v) ∧ (Cells5 W A m → Cells5 W' A m)
section
variable {Bs m : Nat} {A : Option Addr}
theorem kpN_t {W W1 W2 : World} (h : KpN Bs A m W W1) (k : KpN Bs A m W1 W2) : KpN Bs A m W W2 := ⟨fun v hv => k.1 v (h.1 v hv), fun hv => k.2 (h.2 hv)⟩
theorem kpN_b {l : Nat} (hB : Bs ≠ l) (W : World) (o o' : Obj) (h : W.heap[l]? = some o) (ho : o.isCells = false) : KpN Bs A m W (W.putObj l o') :=
  ⟨fun v hv => hv.kept (grownBy_putObj' W l o') (by simpa using hB), fun hv => hv.kc (keepC_plain (grownBy_putObj' W l o') (fun r e => by cases e; exact ⟨o, h, ho⟩))⟩
theorem kpN_new {W W' : World} (hg : W.grownBy W' none) : KpN Bs A m W W' := ⟨fun v hv => hv.kept hg (by simp), fun hv => hv.kc (keepC_plain hg (fun r e => by cases e))⟩
end

/-- What is handed over. -/
def EN (m : Nat) (A : Option Addr) (i : Nat) (vals : Array Value) (W : World) : Prop := i < m ∧ ∃ a v0 v1 v2 v3 v4, A = some a ∧ vals = #[.int .i64 (i : Int), .agg #[v0, v1, v2, v3, v4]] ∧
  W.cell? (a.add (i * 5)) = some v0 ∧ W.cell? ⟨(a.add (i * 5)).block, (a.add (i * 5)).off + 1, none⟩ = some v1 ∧ W.cell? ⟨(a.add (i * 5)).block, (a.add (i * 5)).off + 2, none⟩ = some v2 ∧
  W.cell? ⟨(a.add (i * 5)).block, (a.add (i * 5)).off + 3, none⟩ = some v3 ∧ W.cell? ⟨(a.add (i * 5)).block, (a.add (i * 5)).off + 4, none⟩ = some v4

theorem backN_in (n : Nat) (A : Option Addr) (l c : Nat) (w : World) :
    CallsIn Fence.wide n Try.prog 35 #[.slice A l c] w fun e w' => e = .returned (.func (.func 56) #[] #[.pointer (some ⟨w.heap.size, 0, none⟩)]) ∧ w' = w.alloc (.cells #[.slice A l c] 22) := by
  refine callsIn_of_wp Try.func35 rfl trivial ?_ rfl
  simp only [Try.ntmps35, List.size_toArray, List.length_cons, List.length_nil, Nat.reduceAdd, Nat.reduceSub, Array.replicate_succ, Array.replicate_zero, List.push_toArray, List.append_toArray, List.nil_append, List.cons_append]
  gi_wp2
  go_ret
  exact ⟨rfl, rfl⟩

set_option maxRecDepth 100000 in
set_option maxHeartbeats 2000000 in
theorem backN1_in (n l Bs cap m : Nat) (A : Option Addr) (hle : m ≤ 1000000) (J Jx : List Nat → World → Prop)
    (hY : ∀ pre x post vals W1, dn m = pre ++ x :: post → J pre W1 → EN m A x vals W1 → YieldAt Fence.wide (n - 1) Try.prog l vals W1 fun e W' =>
      (e = .returned (.bool true) ∧ J (pre ++ [x]) W' ∧ KpN Bs A m W1 W') ∨ (e = .returned (.bool false) ∧ Jx (pre ++ [x]) W'))
    (W : World) (hBs : Boxed W Bs 22 (.slice A m cap)) (hR : Cells5 W A m) (h0 : J [] W) :
    CallsIn Fence.wide n Try.prog 56 #[.func (.yield l) #[] #[], .pointer (some ⟨Bs, 0, none⟩)] W fun e W' => (∃ v, e = .returned v) ∧ (J (dn m) W' ∨ ∃ pre post, dn m = pre ++ post ∧ Jx pre W') := by
  have hc := hBs.cell
  refine callsIn_of_wp Try.func56 rfl trivial ?_ rfl
  simp only [Try.ntmps56, List.size_toArray, List.length_cons, List.length_nil, Nat.reduceAdd, Nat.reduceSub, Array.replicate_succ, Array.replicate_zero, List.push_toArray, List.append_toArray, List.nil_append, List.cons_append]
  gi_wp2
  gi_loopw [3] (fun i wr => ∃ k pre, k ≤ m ∧ i = .int .i64 ((k : Int) - 1) ∧ dn m = pre ++ dn k ∧ J pre wr ∧ Boxed wr Bs 22 (.slice A m cap) ∧ Cells5 wr A m) (fun i _ => (intOf i + 1).toNat)
  case atStart => exact ⟨m, [], Nat.le_refl _, rfl, rfl, h0, hBs, hR⟩
  case round =>
    clear hc
    obtain ⟨k, pre, hk, rfl, hb, hJs, hBs', hR'⟩ := hrel
    have HB := Lib.hid hb; clear hb
    have HR := Lib.hid hR'; clear hR'
    have hc := hBs'.cell
    cases k with
    | zero =>
      have e : (((0 : Nat) : Int) - 1) = -1 := rfl
      rw [e]; clear e
      gi_wp2
      go_end0
      exact ⟨⟨_, rfl⟩, .inl (by have := HB.out; rw [dn_zero, List.append_nil] at this; rw [this]; exact hJs)⟩
    | succ k =>
      have e : (((k + 1 : Nat) : Int) - 1) = (k : Int) := by omega
      rw [e]; clear e
      have HB2 : Hid (dn m = pre ++ k :: dn k) := Lib.hid (by rw [HB.out, dn_succ])
      clear HB
      obtain ⟨a, v0, v1, v2, v3, v4, rfl, c0, c1, c2, c3, c4⟩ := HR.out k (by omega)
      obtain ⟨fn, tmps, assign, body, hy, hRR⟩ := hY pre k _ #[.int .i64 (k : Int), .agg #[v0, v1, v2, v3, v4]] wr HB2.out hJs ⟨by omega, a, v0, v1, v2, v3, v4, rfl, rfl, c0, c1, c2, c3, c4⟩
      gi_wp2
      refine ⟨(fun h => by cases h), ?_⟩
      refine hRR.mono ?_
      rintro e W3 (⟨rfl, hJ3, hk3⟩ | ⟨rfl, hJx3⟩)
      · have hc3 := (hk3.1 _ hBs').cell
        clear c0 c1 c2 c3 c4
        gi_wp2
        go_roundw
        case rel => exact ⟨k, pre ++ [k], by omega, rfl, by rw [HB2.out]; simp, hJ3, hk3.1 _ hBs', hk3.2 HR.out⟩
        case measure => simp [intOf]
      · gi_wp2
        refine bodyPost_ret (results_none rfl _ _ _) rfl ?_
        exact ⟨⟨_, rfl⟩, .inr ⟨pre ++ [k], dn k, by rw [HB2.out]; simp, hJx3⟩⟩

theorem backN_gives (n Bs cap m : Nat) (A : Option Addr) (hle : m ≤ 1000000) (w : World) (hBs : Boxed w Bs 22 (.slice A m cap)) (hR : Cells5 w A m) :
    GivesE Try.prog Plain n 56 #[.pointer (some ⟨Bs, 0, none⟩)] (EN m A) (dn m) (KpN Bs A m) w := fun J Jx W hW hs _ _ hY h0 =>
  backN1_in n _ Bs cap m A hle J Jx (fun pre x post vals W1 h1 h2 h3 => yield_less (hY pre x post vals W1 h1 h2 h3)) W ((hW.block Bs hBs.lt).trans hBs) (cells5_below hR hW) h0

end Tg
end Go.Proofs.Ytdnkinajbebkoaa

set_option maxRecDepth 100000
namespace Go.Proofs.Ytdnkinajbebkoaa
open Go.RowKit Go.Shelf
set_option linter.unusedVariables false
set_option linter.unusedSimpArgs false
namespace Tg
open Tx Df Sq Hk Tr Pr Rg Fl Pn

abbrev noC : Array Value := #[.int .i64 0, .int .i64 0, .slice none 0 0, .string ⟨#[]⟩, .slice none 0 0]
/-- What there was ahead of Over, and the blocks that it keeps for itself: boxes, the first one's box, the row, the row's box. -/
def OvR (z F g : Nat) : Nat → Prop := fun b => b < z + 4 ∨ b = F ∨ b = g ∨ b = g + 1
theorem overN_len {l m : List Nm} {q x : Nm} (h : overN l q = some (x, m)) : m.length = l.length := one_len passN h
theorem passN_lt {p q x y : Nm} (h : passN p q = some (x, y)) (hp : Lt p.l) (hq : Lt q.l) : Lt x.l ∧ Lt y.l := passF_lt (passN_inv h).2.1 hp hq
/-- What is told lies at places that patches may have. -/
structure OvI (w : World) (z F g n : Nat) (A : Option Addr) (l : List Nm) (q : Nm) (dn m j : Nat) (x : Nm) (post : List Nm) (D : Option Addr) (dc : Nat) (E : Option Addr) (k : Nat) (W : World) : Prop where
  pos : w.heap.size = z ∧ z + 4 ≤ F ∧ F < g
  eq : overN (l.drop j) q = some (x, post)
  lx : Lt x.l
  row : OwnT W (But W (OvR z F g)) w.heap.size (.slice (some ⟨g, 0, none⟩) n n) (List.replicate j noN ++ post)
  ng : NG W (But W (OvR z F g)) D dn dc E m k x
  bf : Blk W F 45 (nmC x D dn dc E m k)
  r0 : Blk W (z + 1) 45 noC
  r1 : Blk W (z + 1 + 1) 22 #[.slice none 0 0]
  r2 : Blk W (z + 1 + 1 + 1) 4 #[.bool false]
  bb : Blk W (g + 1) 22 #[.slice (some ⟨g, 0, none⟩) n n]
  ls : RdN W z A l
  fr : Below w.heap.size w W
def OvJ (w : World) (z F g n : Nat) (A : Option Addr) (l : List Nm) (q : Nm) (dn m : Nat) (pre : List Nat) (W : World) : Prop := ∃ x post D dc E k, OvI w z F g n A l q dn m (n - pre.length) x post D dc E k W
def OvX (w : World) (z : Nat) (l : List Nm) (q : Nm) (c : Code) (_ : List Nat) (W : World) : Prop :=
  c = .ret ∧ overN l q = none ∧ Blk W (z + 1) 45 noC ∧ Blk W (z + 1 + 1) 22 #[.slice none 0 0] ∧ Blk W (z + 1 + 1 + 1) 4 #[.bool false] ∧ Below w.heap.size w W

section
variable {W W' : World} {B : Nat} {A D E : Option Addr} {dn dc n c : Nat} {p : Nm} {l : List Nm}
theorem NV.kc_ (h : NV W B D dn dc A n c p) (hk : KeepC (fun _ => True) W W') : NV W' B D dn dc A n c p := ((ng_of h).kc fun b c t f _ hb => hk b c t f trivial hb).nv
theorem RdN.kc_ (h : RdN W B A l) (hk : KeepC (fun _ => True) W W') : RdN W' B A l := h.imp id fun ⟨a, e, h1, h2⟩ => ⟨a, e, h1, fun k x hx => by
  obtain ⟨c0, c1, c3, D, dn, dc, A, n, c, c2, c4, c5⟩ := h2 k x hx
  exact ⟨hk.cell trivial c0, hk.cell trivial c1, hk.cell trivial c3, D, dn, dc, A, n, c, hk.cell trivial c2, hk.cell trivial c4, NV.kc_ c5 hk⟩⟩
end
section
variable {w : World} {z F g n B : Nat} {A : Option Addr} {l : List Nm} {q : Nm} {dn m : Nat}
theorem ovJ_ab (hB : w.heap.size ≤ B) : Ab Plain B (OvJ w z F g n A l q dn m) := fun s W W' row hs hg hr => by
  obtain ⟨x, post, D, dc, E, k, h⟩ := hs
  have bl : ∀ {b : Nat} {t : TypeId} {cs : Array Value}, Blk W b t cs → Blk W' b t cs := fun h => ab_blk (β := Unit) (B := B) (fun _ => _) () W W' row h hg hr
  have kc : ∀ S, KeepC S W W' := fun S => keepC_plain hg (fun r e => (hr r e).2)
  exact ⟨x, post, D, dc, E, k, h.pos, h.eq, h.lx, (h.row.plain hg (fun r e => (hr r e).2)).mono (but_up hg.size), (h.ng.kc (kc _)).mono (but_up hg.size), bl h.bf, bl h.r0, bl h.r1, bl h.r2, bl h.bb, RdN.kc_ h.ls (kc _), h.fr.grown hg h.fr.size (fun r e => Nat.le_trans hB (hr r e).1)⟩
theorem ovX_ab (hB : w.heap.size ≤ B) (c : Code) : Ab Plain B (OvX w z l q c) := fun s W W' row hs hg hr => by
  obtain ⟨h1, h2, h3, h4, h5, h6⟩ := hs
  have bl : ∀ {b : Nat} {t : TypeId} {cs : Array Value}, Blk W b t cs → Blk W' b t cs := fun h => ab_blk (β := Unit) (B := B) (fun _ => _) () W W' row h hg hr
  exact ⟨h1, h2, bl h3, bl h4, bl h5, h6.grown hg h6.size (fun r e => Nat.le_trans hB (hr r e).1)⟩
end
/-- The values that are handed over, with the cells they come from. -/
theorem ab_EN {β : Type} {n : Nat} {A : Option Addr} {i : Nat} {vals : Array Value} {B : Nat} : Ab (β := β) Plain B (fun _ W => EN n A i vals W) := fun s W W' row hs hg hr => by
  have hk : KeepC (fun _ => True) W W' := keepC_plain hg (fun r e => (hr r e).2)
  obtain ⟨hi, a, v0, v1, v2, v3, v4, h1, h2, c0, c1, c2, c3, c4⟩ := hs
  exact ⟨hi, a, v0, v1, v2, v3, v4, h1, h2, hk.cell trivial c0, hk.cell trivial c1, hk.cell trivial c2, hk.cell trivial c3, hk.cell trivial c4⟩
theorem EN.rd {X : World} {B n i : Nat} {A : Option Addr} {l : List Nm} {vals : Array Value} (h : EN n A i vals X) (hr : RdN X B A l) (hl : l.length = n) :
    ∃ p D dn dc E m k, l[i]? = some p ∧ vals = #[.int .i64 (i : Int), .agg (nmC p D dn dc E m k)] ∧ NV X B D dn dc E m k p := by
  obtain ⟨hi, a, v0, v1, v2, v3, v4, rfl, rfl, c0, c1, c2, c3, c4⟩ := h
  obtain ⟨a', p, D, dn, dc, E, m, k, e, _, hp, g0, g1, g2, g3, g4, hv⟩ := hr.elem (k := i) (by omega)
  injection e with e
  subst e
  have e0 := Option.some.inj (c0.symm.trans g0)
  have e1 := Option.some.inj (c1.symm.trans g1)
  have e2 := Option.some.inj (c2.symm.trans g2)
  have e3 := Option.some.inj (c3.symm.trans g3)
  have e4 := Option.some.inj (c4.symm.trans g4)
  subst e0 e1 e2 e3 e4
  exact ⟨p, D, dn, dc, E, m, k, hp, rfl, hv⟩
theorem valsN_eq {i : Int} {v0 v1 v2 v3 v4 : Value} {p : Nm} {D E : Option Addr} {dn dc m k : Nat} (h : #[Value.int .i64 i, .agg #[v0, v1, v2, v3, v4]] = #[.int .i64 i, .agg (nmC p D dn dc E m k)]) :
    v0 = .int .i64 p.id.1 ∧ v1 = .int .i64 p.id.2 ∧ v2 = .slice D dn dc ∧ v3 = strV p.txt ∧ v4 = .slice E m k := by
  simpa using h

theorem rep_set {i : Nat} {post : List Nm} {y : Nm} : (List.replicate (i + 1) noN ++ post).set i y = List.replicate i noN ++ y :: post := by
  rw [List.replicate_succ', List.append_assoc, List.set_append_right _ _ (by simp), List.length_replicate, Nat.sub_self]
  rfl
theorem rep_len {i n : Nat} {l post : List Nm} {q x : Nm} (h : overN (l.drop i) q = some (x, post)) (hl : l.length = n) (hi : i ≤ n) : (List.replicate i noN ++ post).length = n := by
  rw [List.length_append, List.length_replicate, overN_len h, List.length_drop]; omega

section
variable {w W W' X : World} {r : Option Nat} {B b g k : Nat} {v0 v1 v2 v3 v4 : Value}
theorem keeps_set5 (W : World) (B b : Nat) (v0 v1 v2 v3 v4 : Value) : KeepsFrom B W (((((W.setCell ⟨b, 0, none⟩ v0).setCell ⟨b, 1, none⟩ v1).setCell ⟨b, 2, none⟩ v2).setCell ⟨b, 3, none⟩ v3).setCell ⟨b, 4, none⟩ v4) :=
  (((((KeepsOthers.setCell _ _ _).from B).trans ((KeepsOthers.setCell _ _ _).from B)).trans ((KeepsOthers.setCell _ _ _).from B)).trans ((KeepsOthers.setCell _ _ _).from B)).trans ((KeepsOthers.setCell _ _ _).from B)
theorem keeps_row5 (W : World) (B b k : Nat) (v0 v1 v2 v3 v4 : Value) : KeepsFrom B W (((((W.setCell ⟨b, k * 5, none⟩ v0).setCell ⟨b, k * 5 + 1, none⟩ v1).setCell ⟨b, k * 5 + 2, none⟩ v2).setCell ⟨b, k * 5 + 3, none⟩ v3).setCell ⟨b, k * 5 + 4, none⟩ v4) :=
  (((((KeepsOthers.setCell _ _ _).from B).trans ((KeepsOthers.setCell _ _ _).from B)).trans ((KeepsOthers.setCell _ _ _).from B)).trans ((KeepsOthers.setCell _ _ _).from B)).trans ((KeepsOthers.setCell _ _ _).from B)
end
theorem RdN.alk {W W' : World} {B : Nat} {A : Option Addr} {l : List Nm} (h : RdN W B A l) (ha : Fl.Alike (· < B) W W') : RdN W' B A l := h.imp id fun ⟨a, e, h1, h2⟩ => ⟨a, e, h1, fun k x hx => by
  obtain ⟨c0, c1, c3, D, dn, dc, A, n, c, c2, c4, c5⟩ := h2 k x hx
  have hk : (a.add (k * 5)).block < B := by rw [add_block]; exact h1
  exact ⟨Fl.cell_to ha hk c0, Fl.cell_to ha hk c1, Fl.cell_to ha hk c3, D, dn, dc, A, n, c, Fl.cell_to ha hk c2, Fl.cell_to ha hk c4, ((ng_of c5).to_ ha).nv⟩⟩

theorem OvI.mv {w W W' : World} {z F g n : Nat} {A : Option Addr} {l : List Nm} {q : Nm} {dn m j : Nat} {x : Nm} {post : List Nm} {D : Option Addr} {dc : Nat} {E : Option Addr} {k : Nat} (h : OvI w z F g n A l q dn m j x post D dc E k W) (hb : Below W.heap.size W W') : OvI w z F g n A l q dn m j x post D dc E k W' :=
  ⟨h.pos, h.eq, h.lx, (h.row.below hb).mono (but_up hb.size), (h.ng.to_ (fun b _ hl => hb.block b hl)).mono (but_up hb.size), h.bf.below hb h.bf.lt, h.r0.below hb h.r0.lt, h.r1.below hb h.r1.lt, h.r2.below hb h.r2.lt, h.bb.below hb h.bb.lt, h.ls.below (hb.mono (by have := h.pos; have := h.r0.lt; omega)), below_mv h.fr hb⟩

/-- A round that tells that the patch can't pass. -/
theorem over_no {w X w2 : World} {z F g n i : Nat} {A : Option Addr} {l : List Nm} {q x p : Nm} {dn m : Nat} {post : List Nm} {D : Option Addr} {dc : Nat} {E : Option Addr} {k B : Nat} {pre : List Nat} (hI : OvI w z F g n A l q dn m (i + 1) x post D dc E k X) (hb2 : Below X.heap.size X w2) (hx : l[i]? = some p) (hn : passN p x = none) (o o' : Obj) :
    KeepsFrom B X (((((World.setCell (World.setCell (World.setCell (World.setCell (World.setCell w2 ⟨z + 1, 0, none⟩ (.int .i64 0)) ⟨z + 1, 1, none⟩ (.int .i64 0)) ⟨z + 1, 2, none⟩ (.slice none 0 0)) ⟨z + 1, 3, none⟩ (.string ⟨#[]⟩)) ⟨z + 1, 4, none⟩ (.slice none 0 0)).setCell ⟨z + 1 + 1, 0, none⟩ (.slice none 0 0)).setCell ⟨z + 1 + 1 + 1, 0, none⟩ (.bool false)).alloc o).alloc o') ∧
    OvX w z l q .ret pre (((((World.setCell (World.setCell (World.setCell (World.setCell (World.setCell w2 ⟨z + 1, 0, none⟩ (.int .i64 0)) ⟨z + 1, 1, none⟩ (.int .i64 0)) ⟨z + 1, 2, none⟩ (.slice none 0 0)) ⟨z + 1, 3, none⟩ (.string ⟨#[]⟩)) ⟨z + 1, 4, none⟩ (.slice none 0 0)).setCell ⟨z + 1 + 1, 0, none⟩ (.slice none 0 0)).setCell ⟨z + 1 + 1 + 1, 0, none⟩ (.bool false)).alloc o).alloc o') := by
  have h0 := hI.r0.below hb2 hI.r0.lt
  have h1 := hI.r1.below hb2 hI.r1.lt
  have h2 := hI.r2.below hb2 hI.r2.lt
  have hz := hI.pos.1
  refine ⟨((((((keepsFrom_below B hb2).trans (keeps_set5 w2 B (z + 1) _ _ _ _ _)).trans ((KeepsOthers.setCell _ _ _).from B)).trans ((KeepsOthers.setCell _ _ _).from B)).trans ((KeepsOthers.alloc _ o).from B)).trans ((KeepsOthers.alloc _ o').from B)), rfl, one_step_none passN hx hI.eq hn, ?_, ?_, ?_, ?_⟩
  · exact ((((blk5 h0 (.int .i64 0) (.int .i64 0) (.slice none 0 0) (.string ⟨#[]⟩) (.slice none 0 0)).set_ne (by omega) 0 (.slice none 0 0)).set_ne (by omega) 0 (.bool false)).alloc o).alloc o'
  · exact ((((blk_set5 h1 (g := z + 1) (by omega) (.int .i64 0) (.int .i64 0) (.slice none 0 0) (.string ⟨#[]⟩) (.slice none 0 0)).set 0 (.slice none 0 0)).set_ne (by omega) 0 (.bool false)).alloc o).alloc o'
  · exact ((((blk_set5 h2 (g := z + 1) (by omega) (.int .i64 0) (.int .i64 0) (.slice none 0 0) (.string ⟨#[]⟩) (.slice none 0 0)).set_ne (by omega) 0 (.slice none 0 0)).set 0 (.bool false)).alloc o).alloc o'
  · have h5 := below_set5 (below_mv hI.fr hb2) (show w.heap.size ≤ z + 1 by omega) (.int .i64 0) (.int .i64 0) (.slice none 0 0) (.string ⟨#[]⟩) (.slice none 0 0)
    have h6 := (h5.setCell (p := ⟨z + 1 + 1, 0, none⟩) (show w.heap.size ≤ z + 1 + 1 by omega) (.slice none 0 0)).setCell (p := ⟨z + 1 + 1 + 1, 0, none⟩) (show w.heap.size ≤ z + 1 + 1 + 1 by omega) (.bool false)
    have h7 := h6.alloc h6.size o
    exact h7.alloc h7.size o'

/-- A round in which both pass: first the patch is stored, then the one of the list. -/
theorem over_mid {w X w2 w4 : World} {z F g n i : Nat} {A : Option Addr} {l : List Nm} {q x x1 y1 : Nm} {dn m : Nat} {post : List Nm} {D : Option Addr} {dc : Nat} {E : Option Addr} {k : Nat} {D1 E1 D2 E2 : Option Addr} {c1 k1 d2 c2 m2 k2 : Nat}
    (hI : OvI w z F g n A l q dn m (i + 1) x post D dc E k X) (hb2 : Below X.heap.size X w2) (hb4 : Below w2.heap.size w2 w4) (n1 : NG w2 (Since X w2) D1 dn c1 E1 m k1 x1) (n2 : NG w2 (Since X w2) D2 d2 c2 E2 m2 k2 y1) :
    let w6 := ((((w4.setCell ⟨F, 0, none⟩ (.int .i64 x1.id.1)).setCell ⟨F, 1, none⟩ (.int .i64 x1.id.2)).setCell ⟨F, 2, none⟩ (.slice D1 dn c1)).setCell ⟨F, 3, none⟩ (strV x1.txt)).setCell ⟨F, 4, none⟩ (.slice E1 m k1)
    OwnT w6 (But w6 (OvR z F g)) w.heap.size (.slice (some ⟨g, 0, none⟩) n n) (List.replicate (i + 1) noN ++ post) ∧ NG w6 (But w6 (OvR z F g)) D1 dn c1 E1 m k1 x1 ∧ NG w6 (But w6 (OvR z F g)) D2 d2 c2 E2 m2 k2 y1 ∧
    Blk w6 F 45 (nmC x1 D1 dn c1 E1 m k1) ∧ Blk w6 (z + 1) 45 noC ∧ Blk w6 (z + 1 + 1) 22 #[.slice none 0 0] ∧ Blk w6 (z + 1 + 1 + 1) 4 #[.bool false] ∧ Blk w6 (g + 1) 22 #[.slice (some ⟨g, 0, none⟩) n n] ∧ RdN w6 z A l ∧ Below w.heap.size w w6 ∧
    (∀ B, KeepsFrom B X w6) ∧ (∀ Bs v, Bs ≠ F → Boxed X Bs 22 v → Boxed w6 Bs 22 v) := by
  intro w6
  obtain ⟨hz, hF, hFg⟩ := hI.pos
  have hX : g + 1 < X.heap.size := hI.bb.lt
  have hb : Below X.heap.size X w4 := hb2.trans (hb4.mono hb2.size)
  have hs4 : w4.heap.size = w6.heap.size := by simp [w6]
  have h2 : w2.heap.size ≤ w4.heap.size := hb4.size
  have hS : ∀ b, Since X w2 b → But w4 (OvR z F g) b := fun b h => ⟨by have := h.2; omega, fun e => by have := h.1; rcases e with e | e | e | e <;> omega⟩
  have hne : ∀ b, But w4 (OvR z F g) b → b ≠ F := fun b h e => h.2 (.inr (.inl e))
  have al := (alike_set5 w4 F (.int .i64 x1.id.1) (.int .i64 x1.id.2) (.slice D1 dn c1) (strV x1.txt) (.slice E1 m k1))
  have up := but_up (R := OvR z F g) (Nat.le_of_eq hs4)
  have l0 := hI.r0.lt; have l1 := hI.r1.lt; have l2 := hI.r2.lt; have l3 := hI.bf.lt
  refine ⟨?_, ?_, ?_, ?_, ?_, ?_, ?_, ?_, ?_, ?_, ?_, ?_⟩
  · exact (((hI.row.below hb).mono (but_up hb.size)).set5 (b := F) (fun e => by injection e with e; have e : F = g := e; omega) (fun h => hne _ h rfl) _ _ _ _ _).mono up
  · exact (((n1.to_ (fun b h hl => hb4.block b hl)).mono hS).to_ (al.mono hne)).mono up
  · exact (((n2.to_ (fun b h hl => hb4.block b hl)).mono hS).to_ (al.mono hne)).mono up
  · exact blk5 (hI.bf.below hb l3) _ _ _ _ _
  · exact blk_set5 (hI.r0.below hb l0) (by omega) _ _ _ _ _
  · exact blk_set5 (hI.r1.below hb l1) (by omega) _ _ _ _ _
  · exact blk_set5 (hI.r2.below hb l2) (by omega) _ _ _ _ _
  · exact blk_set5 (hI.bb.below hb hX) (by omega) _ _ _ _ _
  · exact RdN.alk (hI.ls.below (hb.mono (by omega))) (al.mono fun b hb => by omega)
  · exact below_set5 (below_mv hI.fr hb) (by omega) _ _ _ _ _
  · exact fun B => (keepsFrom_below B hb).trans (keeps_set5 _ _ _ _ _ _ _ _)
  · exact fun Bs v hB hv => blk_set5 (Blk.below (show Blk X Bs 22 #[v] from hv) hb hv.lt) (by omega) _ _ _ _ _

theorem over_fin {w w6 : World} {z F g n i : Nat} {A : Option Addr} {l : List Nm} {q x p x1 y1 : Nm} {dn m : Nat} {post : List Nm} {D1 E1 D2 E2 : Option Addr} {c1 k1 d2 c2 m2 k2 : Nat}
    (hp : w.heap.size = z ∧ z + 4 ≤ F ∧ F < g) (he : overN (l.drop (i + 1)) q = some (x, post)) (hlx : Lt x.l) (hx : l[i]? = some p) (hlp : Lt p.l) (hn : l.length = n) (hs : passN p x = some (x1, y1))
    (h1 : OwnT w6 (But w6 (OvR z F g)) w.heap.size (.slice (some ⟨g, 0, none⟩) n n) (List.replicate (i + 1) noN ++ post)) (h2 : NG w6 (But w6 (OvR z F g)) D1 dn c1 E1 m k1 x1) (h3 : NG w6 (But w6 (OvR z F g)) D2 d2 c2 E2 m2 k2 y1)
    (h4 : Blk w6 F 45 (nmC x1 D1 dn c1 E1 m k1)) (h5 : Blk w6 (z + 1) 45 noC) (h6 : Blk w6 (z + 1 + 1) 22 #[.slice none 0 0]) (h7 : Blk w6 (z + 1 + 1 + 1) 4 #[.bool false]) (h8 : Blk w6 (g + 1) 22 #[.slice (some ⟨g, 0, none⟩) n n]) (h9 : RdN w6 z A l) (h10 : Below w.heap.size w w6) :
    let w9 := ((((w6.setCell ⟨g, i * 5, none⟩ (.int .i64 y1.id.1)).setCell ⟨g, i * 5 + 1, none⟩ (.int .i64 y1.id.2)).setCell ⟨g, i * 5 + 2, none⟩ (.slice D2 d2 c2)).setCell ⟨g, i * 5 + 3, none⟩ (strV y1.txt)).setCell ⟨g, i * 5 + 4, none⟩ (.slice E2 m2 k2)
    OvI w z F g n A l q dn m i x1 (y1 :: post) D1 c1 E1 k1 w9 ∧ (∀ B, KeepsFrom B w6 w9) ∧ (∀ Bs v, Bs ≠ g → Boxed w6 Bs 22 v → Boxed w9 Bs 22 v) := by
  intro w9
  obtain ⟨hz, hF, hFg⟩ := hp
  have hi : i < l.length := (List.getElem?_eq_some_iff.1 hx).1
  have hs9 : w6.heap.size = w9.heap.size := by simp [w9]
  have hne : ∀ b, But w6 (OvR z F g) b → b ≠ g := fun b h e => h.2 (.inr (.inr (.inl e)))
  have up := but_up (R := OvR z F g) (Nat.le_of_eq hs9)
  have al := alike_row5 w6 g i (.int .i64 y1.id.1) (.int .i64 y1.id.2) (.slice D2 d2 c2) (strV y1.txt) (.slice E2 m2 k2)
  have hrow : OwnT w9 (But w9 (OvR z F g)) w.heap.size (.slice (some ⟨g, 0, none⟩) n n) (List.replicate i noN ++ y1 :: post) := by
    have := (h1.store (k := i) (rep_len he hn (by omega)) (fun h => hne _ h rfl) h3).mono up
    rw [rep_set] at this
    exact this
  refine ⟨⟨⟨hz, hF, hFg⟩, one_step passN hx he hs, (passN_lt hs hlp hlx).1, hrow, ?_, ?_, ?_, ?_, ?_, ?_, ?_, ?_⟩, fun B => keeps_row5 _ _ _ _ _ _ _ _ _, fun Bs v hB hv => ?_⟩
  · exact (h2.to_ (al.mono hne)).mono up
  · exact blk_row5 h4 (by omega) i _ _ _ _ _
  · exact blk_row5 h5 (by omega) i _ _ _ _ _
  · exact blk_row5 h6 (by omega) i _ _ _ _ _
  · exact blk_row5 h7 (by omega) i _ _ _ _ _
  · exact blk_row5 h8 (by omega) i _ _ _ _ _
  · exact RdN.alk h9 (al.mono fun b hb => by omega)
  · exact below_row5 h10 (by omega) i _ _ _ _ _
  · exact blk_row5 (show Blk w6 Bs 22 #[v] from hv) hB i _ _ _ _ _

/-- The row that is made: patches that have nothing. -/
theorem made_at {c : Array Value} {n i : Nat} (hi : i < n) : (madeCells c n)[i]? = some c[i % c.size]! := by
  unfold madeCells
  rw [Array.getElem?_map, Array.getElem?_range, if_pos hi]
  rfl
theorem ownT_made (W : World) (n : Nat) (S : Nat → Prop) (hn : n ≤ 1000) : OwnT (W.alloc (.cells (madeCells noC (n * 5)) 45)) S W.heap.size (.slice (some ⟨W.heap.size, 0, none⟩) n n) (List.replicate n noN) := by
  have hrow := World.ownsRow_lit (base := W.heap.size) (e := 45) (size := 5) W (madeCells noC (n * 5)) n (Nat.le_refl _) (by unfold maxLen; omega) (by rw [size_madeCells])
  refine ⟨_, by rw [List.length_replicate]; exact hrow, fun k x hx => ?_⟩
  have hk := (List.getElem?_eq_some_iff.1 hx).1
  rw [List.length_replicate] at hk
  rw [List.getElem?_replicate, if_pos hk] at hx
  injection hx with hx
  subst hx
  have key : ∀ j, j < 5 → (madeCells noC (n * 5)).toList[k * 5 + j]? = some noC[j]! := fun j hj => by
    rw [Array.getElem?_toList, made_at (by omega)]
    have e : (k * 5 + j) % noC.size = j := by
      show (k * 5 + j) % 5 = j
      omega
    rw [e]
  exact ⟨none, 0, 0, none, 0, 0, key 0 (by decide), key 1 (by decide), key 2 (by decide), key 3 (by decide), key 4 (by decide), ng_no _ _⟩

/-- The memory in which the range begins. -/
theorem over_start {w w1 wc : World} {z F n dn m c k : Nat} {A D E : Option Addr} {l : List Nm} {q : Nm} (hz : w.heap.size = z) (hw1 : w1.heap.size = z + 4) (hbw : Below w.heap.size w w1)
    (r0 : Blk w1 (z + 1) 45 noC) (r1 : Blk w1 (z + 1 + 1) 22 #[.slice none 0 0]) (r2 : Blk w1 (z + 1 + 1 + 1) 4 #[.bool false])
    (hbf : Blk wc F 45 (nmC q D dn c E m k)) (hng : NG wc (fun b => w1.heap.size ≤ b ∧ b < wc.heap.size ∧ b ≠ F) D dn c E m k q) (hF : w1.heap.size ≤ F) (hb : Below w1.heap.size w1 wc) (hls : RdN w w.heap.size A l) (hl : l.length = n) (hn : n ≤ 1000) (hlq : Lt q.l) (c' : Nat) :
    let w5 := ((wc.alloc (.cells (madeCells noC (n * 5)) 45)).alloc (.cells #[.slice (some ⟨wc.heap.size, 0, none⟩) n n] 22)).alloc (.cells #[.slice A n c'] 22)
    OvJ w z F wc.heap.size n A l q dn m [] w5 ∧ Boxed w5 (wc.heap.size + 1 + 1) 22 (.slice A n c') ∧ w5.heap.size = wc.heap.size + 3 ∧ Cells5 w5 A n := by
  intro w5
  have hwc : w1.heap.size ≤ wc.heap.size := hb.size
  have h5 : Below wc.heap.size wc w5 := (((Below.refl _ _).alloc (Nat.le_refl _) _).alloc (by simp) _).alloc (by simp; omega) _
  have hsz : w5.heap.size = wc.heap.size + 3 := by simp [w5]
  have hall : Below w1.heap.size w1 w5 := below_mv hb h5
  have hbb := (Blk.new (wc.alloc (.cells (madeCells noC (n * 5)) 45)) 22 #[.slice (some ⟨wc.heap.size, 0, none⟩) n n]).alloc (.cells #[.slice A n c'] 22)
  have hbx := Boxed.new ((wc.alloc (.cells (madeCells noC (n * 5)) 45)).alloc (.cells #[.slice (some ⟨wc.heap.size, 0, none⟩) n n] 22)) 22 (.slice A n c')
  simp only [World.size_alloc] at hbb hbx
  have hFl := hbf.lt
  have hmd := ownT_made wc n (But w5 (OvR z F wc.heap.size)) hn
  have hm2 : Below (wc.alloc (.cells (madeCells noC (n * 5)) 45)).heap.size (wc.alloc (.cells (madeCells noC (n * 5)) 45)) w5 := ((Below.refl _ _).alloc (Nat.le_refl _) _).alloc (by simp) _
  have hls5 : RdN w5 z A l := by
    rw [← hz]
    exact hls.below (below_mv hbw hall)
  refine ⟨⟨q, [], D, c, E, k, ⟨hz, by omega, hFl⟩, ?_, hlq, ?_, ?_, hbf.below h5 hFl, r0.below hall r0.lt, r1.below hall r1.lt, r2.below hall r2.lt, hbb, hls5, below_mv hbw hall⟩, hbx, hsz, cells5_rd hls5 hl⟩
  · rw [List.length_nil, Nat.sub_zero, List.drop_of_length_le (by rw [hl]; exact Nat.le_refl _)]; rfl
  · rw [List.length_nil, Nat.sub_zero, List.append_nil]
    obtain ⟨xs, x1, x2⟩ := hmd.below hm2
    exact ⟨xs, own_mono x1 (Nat.le_trans hbw.size hwc), x2⟩
  · refine (hng.to_ ((alike_below h5).mono fun b hb => hb.2.1)).mono fun b hb => ⟨by have := hb.2.1; omega, fun e => ?_⟩
    have h1 := hb.1; have h2 := hb.2.1; have h3 := hb.2.2
    rcases e with e | e | e | e <;> omega

/-- How Over ends that tells x, ys and bo: in memory that is new, the list in a row of one's own. -/
def NOverEnd (w : World) (x : Nm) (ys : List Nm) (bo : Bool) (e : Ending) (w' : World) : Prop :=
  ∃ D d c E m k v, e = .returned (.tuple #[nmV x.id D d c x.txt E m k, v, .bool bo]) ∧ NG w' (fun b => Since w w' b ∧ some b ≠ v.ownBlock) D d c E m k x ∧ OwnT w' (fun b => Since w w' b ∧ some b ≠ v.ownBlock) w.heap.size v ys ∧ Below w.heap.size w w'
def outO (o : Option (Nm × List Nm)) : Nm × List Nm := o.getD (noN, [])

theorem over_put {w W : World} {E : Nat} (hE : w.heap.size ≤ E) (hK : W.heap[E]? = some (.deferred (some []))) (hb : Below w.heap.size w W) : Below w.heap.size w (W.putObj E (.deferred none)) ∧ (∀ b t cs, Blk W b t cs → Blk (W.putObj E (.deferred none)) b t cs) ∧
    (∀ S base v l, OwnT W S base v l → OwnT (W.putObj E (.deferred none)) S base v l) ∧ (∀ S D dn dc A n c x, NG W S D dn dc A n c x → NG (W.putObj E (.deferred none)) S D dn dc A n c x) ∧ W.heap.size = (W.putObj E (.deferred none)).heap.size := by
  have hp := grownBy_putObj' W E (.deferred none)
  have hr : ∀ r, some E = some r → ∃ o : Obj, W.heap[r]? = some o ∧ o.isCells = false := fun r e => by injection e with e; subst e; exact ⟨_, hK, rfl⟩
  refine ⟨hb.grown hp hb.size (fun r e => by injection e with e; omega), fun b t cs h => h.gr hp (fun e => ?_), fun S base v l h => h.plain hp hr, fun S D dn dc A n c x h => h.kc (keepC_plain hp hr), by simp⟩
  injection e with e
  subst e
  rw [show W.heap[b]? = _ from h] at hK
  cases hK

theorem over_done {w W : World} {z F g n E : Nat} {A : Option Addr} {l : List Nm} {q x : Nm} {dn m : Nat} {post : List Nm} {D : Option Addr} {dc : Nat} {Ad : Option Addr} {k : Nat}
    (hI : OvI w z F g n A l q dn m 0 x post D dc Ad k W) (hE : w.heap.size ≤ E) (hK : W.heap[E]? = some (.deferred (some []))) :
    let W9 := ((World.setCell (World.setCell (World.setCell (World.setCell (World.setCell W ⟨z + 1, 0, none⟩ (.int .i64 x.id.1)) ⟨z + 1, 1, none⟩ (.int .i64 x.id.2)) ⟨z + 1, 2, none⟩ (.slice D dn dc)) ⟨z + 1, 3, none⟩ (strV x.txt)) ⟨z + 1, 4, none⟩ (.slice Ad m k)).setCell ⟨z + 1 + 1, 0, none⟩ (.slice (some ⟨g, 0, none⟩) n n)).setCell ⟨z + 1 + 1 + 1, 0, none⟩ (.bool true)
    W9.heap[E]? = some (.deferred (some [])) ∧ Blk (W9.putObj E (.deferred none)) (z + 1) 45 (nmC x D dn dc Ad m k) ∧ Blk (W9.putObj E (.deferred none)) (z + 1 + 1) 22 #[.slice (some ⟨g, 0, none⟩) n n] ∧ Blk (W9.putObj E (.deferred none)) (z + 1 + 1 + 1) 4 #[.bool true] ∧
      NG (W9.putObj E (.deferred none)) (fun b => Since w (W9.putObj E (.deferred none)) b ∧ some b ≠ (Value.slice (some ⟨g, 0, none⟩) n n).ownBlock) D dn dc Ad m k x ∧ OwnT (W9.putObj E (.deferred none)) (fun b => Since w (W9.putObj E (.deferred none)) b ∧ some b ≠ (Value.slice (some ⟨g, 0, none⟩) n n).ownBlock) w.heap.size (.slice (some ⟨g, 0, none⟩) n n) post ∧ Below w.heap.size w (W9.putObj E (.deferred none)) := by
  intro W9
  obtain ⟨hz, hF, hFg⟩ := hI.pos
  have hsz : W.heap.size = W9.heap.size := by simp [W9]
  have hne : ∀ b, But W (OvR z F g) b → ¬ b < z + 4 := fun b h e => h.2 (.inl e)
  have k9 : W9.heap[E]? = some (.deferred (some [])) := (((keeps_set5 W E (z + 1) _ _ _ _ _).trans ((KeepsOthers.setCell _ _ _).from E)).trans ((KeepsOthers.setCell _ _ _).from E)).same E _ (Nat.le_refl _) hK rfl
  have h5 := below_set5 hI.fr (show w.heap.size ≤ z + 1 by omega) (.int .i64 x.id.1) (.int .i64 x.id.2) (.slice D dn dc) (strV x.txt) (.slice Ad m k)
  have g9 : Below w.heap.size w W9 := (h5.setCell (p := ⟨z + 1 + 1, 0, none⟩) (show w.heap.size ≤ z + 1 + 1 by omega) _).setCell (p := ⟨z + 1 + 1 + 1, 0, none⟩) (show w.heap.size ≤ z + 1 + 1 + 1 by omega) _
  obtain ⟨p1, p2, p3, p4, p5⟩ := over_put hE k9 g9
  have hrow := hI.row
  rw [List.replicate_zero, List.nil_append] at hrow
  have up : ∀ b, But W (OvR z F g) b → Since w (W9.putObj E (.deferred none)) b ∧ some b ≠ (Value.slice (some ⟨g, 0, none⟩) n n).ownBlock := fun b h => ⟨⟨by have := hne b h; omega, by have := h.1; omega⟩, fun e => h.2 (.inr (.inr (.inl (by injection e))))⟩
  have hv : ∀ b, b < z + 4 → some b ≠ (Value.slice (some ⟨g, 0, none⟩) n n).ownBlock := fun b hb e => by injection e with e; have e : b = g := e; omega
  refine ⟨k9, p2 _ _ _ ?_, p2 _ _ _ ?_, p2 _ _ _ ?_, (p4 _ _ _ _ _ _ _ _ ?_).mono up, (p3 _ _ _ _ ?_).mono up, p1⟩
  · exact ((blk5 hI.r0 _ _ _ _ _).set_ne (by omega) 0 _).set_ne (by omega) 0 _
  · exact ((blk_set5 hI.r1 (g := z + 1) (by omega) _ _ _ _ _).set 0 (.slice (some ⟨g, 0, none⟩) n n)).set_ne (by omega) 0 _
  · exact ((blk_set5 hI.r2 (g := z + 1) (by omega) _ _ _ _ _).set_ne (by omega) 0 _).set 0 (.bool true)
  · exact ((hI.ng.to_ ((alike_set5 W (z + 1) _ _ _ _ _).mono fun b h e => hne b h (by omega))).to_ ((alike_set _ _ _ _).mono fun b h e => hne b h (by omega))).to_ ((alike_set _ _ _ _).mono fun b h e => hne b h (by omega))
  · exact ((hrow.set5 (hv _ (by omega)) (fun h => hne _ h (by omega)) _ _ _ _ _).set (hv _ (by omega)) (fun h => hne _ h (by omega)) 0 _).set (hv _ (by omega)) (fun h => hne _ h (by omega)) 0 _

end Tg
end Go.Proofs.Ytdnkinajbebkoaa

set_option maxRecDepth 100000
namespace Go.Proofs.Ytdnkinajbebkoaa
open Go.RowKit
set_option linter.unusedVariables false
namespace Pn
open Tx Df Sq Hk Tr Pr Fl

def exA : Ch := ⟨0, [97], [], ⟨0, [], []⟩⟩
def exN : Nm := ⟨(0, 1), [], [], [exA]⟩
/-- One change in a block of its own is read as a list. -/
theorem rdP_lone {W : World} {S : Nat → Prop} {b : Nat} {A B : Option Addr} {n c m d : Nat} {x : Ch} (h : Blk W b 54 #[.int .i64 x.k, strV x.nm, strV x.to, .int .i64 x.h.pos, .slice A n c, .slice B m d]) (hp : PG W S A n c B m d x) (hS : S b) : RdP W S (some ⟨b, 0, none⟩) [x] :=
  .inr ⟨_, rfl, hS, fun k y hy => by
    cases k with
    | zero =>
      injection hy with hy
      subst hy
      have e : (⟨b, 0, none⟩ : Addr).add (0 * 6) = ⟨b, 0, none⟩ := rfl
      exact ⟨by rw [e]; exact h.cell 0 rfl, by rw [e]; exact h.cell 1 rfl, by rw [e]; exact h.cell 2 rfl, by rw [e]; exact h.cell 3 rfl, A, n, c, B, m, d, by rw [e]; exact h.cell 4 rfl, by rw [e]; exact h.cell 5 rfl, hp⟩
    | succ k => simp at hy⟩
/-- One patch in a block of its own is read as a list. -/
theorem rdN_lone {W : World} {N b : Nat} {D A : Option Addr} {dn dc n c : Nat} {x : Nm} (h : Blk W b 45 #[.int .i64 x.id.1, .int .i64 x.id.2, .slice D dn dc, strV x.txt, .slice A n c]) (hp : NV W N D dn dc A n c x) (hb : b < N) : RdN W N (some ⟨b, 0, none⟩) [x] :=
  .inr ⟨_, rfl, hb, fun k y hy => by
    cases k with
    | zero =>
      injection hy with hy
      subst hy
      have e : (⟨b, 0, none⟩ : Addr).add (0 * 5) = ⟨b, 0, none⟩ := rfl
      exact ⟨by rw [e]; exact h.cell 0 rfl, by rw [e]; exact h.cell 1 rfl, by rw [e]; exact h.cell 3 rfl, D, dn, dc, A, n, c, by rw [e]; exact h.cell 2 rfl, by rw [e]; exact h.cell 4 rfl, hp⟩
    | succ k => simp at hy⟩
theorem pg_ex (W : World) (S : Nat → Prop) : PG W S none 0 0 none 0 0 exA :=
  ⟨rfl, rfl, Nat.le_refl _, Nat.le_refl _, by decide, by decide, .inl rfl, .inl rfl, by unfold I64; decide, by unfold I64; decide, by decide, by decide, (fun x hx => by cases hx), (fun x hx => by cases hx)⟩
theorem nv_ex {W : World} {N b : Nat} (h : RdP W (· < N) (some ⟨b, 0, none⟩) [exA]) : NV W N none 0 0 (some ⟨b, 0, none⟩) 1 1 exN :=
  ⟨rfl, Nat.le_refl _, by decide, .inl rfl, by decide, rfl, Nat.le_refl _, by decide, h⟩

end Pn
end Go.Proofs.Ytdnkinajbebkoaa

set_option maxRecDepth 100000
namespace Go.Proofs.Ytdnkinajbebkoaa
open Go.RowKit
set_option linter.unusedVariables false
set_option linter.unusedSimpArgs false
namespace Pn
open Tx Df Sq Hk Tr Pr Fl

theorem allN_split {l : List Nm} {k : Nat} {x : Nm} (hx : l[k]? = some x) : allN l = allN (l.take k) ++ (x.l ++ allN (l.drop (k + 1))) := by
  have h1 : l = l.take k ++ x :: l.drop (k + 1) := by rw [← drop_at hx, List.take_append_drop]
  rw [← allN_cons, ← allN_app, ← h1]
theorem allN_pre {l : List Nm} {k j N : Nat} {x : Nm} (hx : l[k]? = some x) (hN : (allN l).length ≤ N) : (allN (l.take k) ++ x.l.take j).length ≤ N := by
  rw [allN_split hx] at hN
  simp only [List.length_append, List.length_take] at hN ⊢
  omega
theorem allN_len {l : List Nm} {k : Nat} {x : Nm} (hx : l[k]? = some x) : x.l.length ≤ (allN l).length := by
  rw [allN_split hx]
  simp only [List.length_append]
  omega
theorem allN_mem {l : List Nm} {k : Nat} {x : Nm} {q : Ch} (hx : l[k]? = some x) (hq : q ∈ x.l) : q ∈ allN l := by
  rw [allN_split hx]
  exact List.mem_append_right _ (List.mem_append_left _ hq)
theorem allN_next {l : List Nm} {k : Nat} {x : Nm} (hx : l[k]? = some x) : allN (l.take (k + 1)) = allN (l.take k) ++ x.l := by
  rw [take_at hx, allN_app]
  unfold allN
  simp
/-- Blocks made behind w that are not the row. -/
def NewIn (w W : World) (row : Option Nat) : Nat → Prop := fun b => w.heap.size ≤ b ∧ b < W.heap.size ∧ some b ≠ row
theorem newIn_up {w W W' : World} {row : Option Nat} (hs : W.heap.size ≤ W'.heap.size) : ∀ b, NewIn w W row b → NewIn w W' row b := fun b h => ⟨h.1, Nat.lt_of_lt_of_le h.2.1 hs, h.2.2⟩
/-- Changes in a row of one's own, their lines in memory made behind w. -/
abbrev OwnF (w W : World) (v : Value) (l : List Ch) : Prop := OwnS W (NewIn w W v.ownBlock) w.heap.size v l
section
variable {w W W' : World} {v : Value} {l u : List Ch}
theorem ownF_nil (w W : World) : OwnF w W (.slice none 0 0) [] := ⟨[], World.ownsRow_nil _ _ _ _, PCells.nil _ _ _⟩
theorem OwnF.below (h : OwnF w W v l) (hb : Below W.heap.size W W') : OwnF w W' v l := by
  obtain ⟨xs, h1, h2⟩ := h
  exact ⟨xs, own_gr h1 (below_gr_row hb), (h2.to (fun b _ hl => hb.block b hl)).mono (newIn_up hb.size)⟩
theorem run_ownF {ty : TypeId} {m c : Nat} {A : Option Addr} {ys : List Value} (h : OwnF w W v l) (hu : PCells W (NewIn w W v.ownBlock) u ys) (hyl : ys.length = u.length * 6) (hsrc : ∃ a, A = some a ∧ ∀ (j : Nat) x, ys[j]? = some x → W.cell? (a.add j) = some x)
    (hm : u.length = m) (h0 : 0 < m) (hn : l.length + m ≤ 100000) (hbase : w.heap.size ≤ W.heap.size) :
    ∃ v' W', (Builtin.append_ #[43, 43] ty #[v, .slice A m c]).run Try.prog W = .ok v' W' ∧ OwnF w W' v' (l ++ u) ∧ W.grownBy W' v.ownBlock := by
  obtain ⟨i0, hi0, hz0, hz1, hz2⟩ := info_parts info_prim
  obtain ⟨xs, hrow, hF⟩ := h
  have h1 := one6 hu hyl
  obtain ⟨a, rfl, hcell⟩ := hsrc
  obtain ⟨g, cap, W', hr, r1, r2, r3, r4⟩ := run_append_lies (P := Try.prog) (w := W) 43 ty w.heap.size 54 i0 _ 6 96 Try.underlying43 hi0 hz0 hz1 hz2 rfl (by decide) v l.length xs hrow a m c ys (by rw [hyl, hm]) hcell h1 (by omega) (by unfold maxLen; omega) (by omega) hbase W.heap.size rfl
  refine ⟨_, W', hr, ⟨xs ++ ys, by rw [List.length_append, hm]; exact r1, ?_⟩, r2⟩
  have hJ := (hF.append hrow.1 hu)
  have al : Fl.Alike (NewIn w W v.ownBlock) W W' := (alike_gr r2).mono fun b hb => hb.2.2
  refine (hJ.to al).mono fun b hb => ⟨hb.1, Nat.lt_of_lt_of_le hb.2.1 r2.size, ?_⟩
  rcases r3 with r3 | r3
  · rw [r3] at hb; exact hb.2.2
  · intro e
    injection e with e
    have e' : b = g := e
    have := hb.2.1
    omega
theorem wpList_ownF {ops : Array Oper} {rest : List Oper} {o : Oper} {a : Act} {Q : Exit → Act → World → Prop} (hgd : o.guard = none) (s x : Operand)
    (ho : o.op = .call { callee := .builtin .append, args := #[s, x], argTypes := #[43, 43] })
    (w : World) (m c : Nat) (v : Value) (A : Option Addr) (l u : List Ch) (ys : List Value) (hs : a.eval s = v) (hx : a.eval x = .slice A m c) (h : OwnF w W v l) (hu : PCells W (NewIn w W v.ownBlock) u ys) (hyl : ys.length = u.length * 6) (hsrc : ∃ a, A = some a ∧ ∀ (j : Nat) x, ys[j]? = some x → W.cell? (a.add j) = some x)
    (hm : u.length = m) (h0 : 0 < m) (hn : l.length + m ≤ 100000) (hbase : w.heap.size ≤ W.heap.size)
    (hK : ∀ v' W', OwnF w W' v' (l ++ u) → W.grownBy W' v.ownBlock → wpList Try.prog ops Q rest (a.put o.dst v') W') : wpList Try.prog ops Q (o :: rest) a W := by
  refine wpList_plain hgd fun K hK' => ?_
  obtain ⟨v', W', hrun, h2, h3⟩ := run_ownF (ty := o.type) (c := c) h hu hyl hsrc hm h0 hn hbase
  unfold Oper.wp execOp
  simp only [ho, resolve, invoke, builtin, Sem.run_bind, Sem.run_pure, Result.andThen_ok, List.map_toArray, List.map_cons, List.map_nil, hs, hx, hrun]
  exact hK' _ _ (hK v' W' h2 h3)
end

theorem ownC (A : Option Addr) (n c B : Nat) (ls : List (List UInt8)) (w : World) (hn : ls.length = n) (hle : n ≤ 100000) (hB : B ≤ w.heap.size) (hR : RdS w B A ls) :
    Calls Try.prog 61 #[.slice A n c] w (CopyLEnd w n ls) := by
  obtain ⟨j0, hj, hy0, hy1, hy2⟩ := info_parts info_str
  have HR := Lib.hid hR; have HN := Lib.hid hn
  clear hR hn
  go_enter Try.func61, Try.ntmps61
  go_wp2_with (at_builtin; refine wpList_nil' rfl (.const (.slice none 0 0)) (.tmp 3) 50 rfl 9 j0 (.string ⟨#[]⟩) 16 Try.underlying50 hj hy0 hy1 hy2 rfl rfl B A n c (ls.map strV) rfl (by rw [List.length_map]; exact HN.out) HR.out (strs_one _) (by unfold maxLen; omega) (by omega) ?_; intro D1 d1 w1 hA hg; have HA := Lib.hid hA; have HG := Lib.hid hg; clear hA hg)
  go_ret
  obtain ⟨A', c', e, hc, hr⟩ := rd_of_own HA.out
  injection e with e1 e2 e3
  subst e1 e3
  exact ⟨D1, d1, rfl, hc, hr, hi_own HA.out, HG.out⟩

set_option maxRecDepth 100000 in
set_option maxHeartbeats 8000000 in
theorem AllN (A : Option Addr) (n c : Nat) (l : List Nm) (w : World) (hn : l.length = n) (hle : n ≤ 100000) (hT : (allN l).length ≤ 1000) (hl : Lt (allN l)) (hR : RdN w w.heap.size A l) :
    Calls Try.prog 43 #[.slice A n c] w (LPHi w (allN l)) := by
  have HR := Lib.hid hR; have HN := Lib.hid hn; have HL := Lib.hid hl; have HT := Lib.hid hT
  clear hR hn hl hT
  go_enter Try.func43, Try.ntmps43
  go_wp2
  go_loopw [3, 10] (fun v3 i wr => ∃ (k : Nat) (A3 : Option Addr) (m3 f3 : Nat), k ≤ n ∧ i = .int .i64 (k : Int) ∧ v3 = .slice A3 m3 f3 ∧ OwnF w wr (.slice A3 m3 f3) (allN (l.take k)) ∧ Below w.heap.size w wr) (fun _ i _ => n - (intOf i).toNat)
  case atStart => exact ⟨0, none, 0, 0, Nat.zero_le _, rfl, rfl, ownF_nil _ _, Below.refl _ _⟩
  case round =>
    obtain ⟨k, A3, m3, f3, hk, rfl, rfl, hO, hbw⟩ := hrel
    have HBW := Lib.hid hbw; have HO := Lib.hid hO; clear hbw hO
    by_cases hlt : k < n
    · have hki : (k : Int) < (n : Int) := by omega
      obtain ⟨a, x, D, i, j, E, m, d, rfl, hS, hx, c0, c1, c2, c3, c4, c5⟩ := (HR.out.elem (k := k) (by rw [HN.out]; exact hlt))
      have hsb : (a.add (k * 5)).block < w.heap.size := by rw [add_block]; exact hS
      replace c0 := cellB c0 HBW.out hsb; replace c1 := cellB c1 HBW.out hsb; replace c2 := cellB c2 HBW.out hsb; replace c3 := cellB c3 HBW.out hsb; replace c4 := cellB c4 HBW.out hsb
      have HX := Lib.hid hx
      have HBA := Lib.hid (show Below wr.heap.size wr (wr.alloc (.cells #[.int .i64 x.id.1, .int .i64 x.id.2, .slice D i j, strV x.txt, .slice E m d] 45)) from (Below.refl _ _).alloc (Nat.le_refl _) _)
      have HXL := Lib.hid c5.l
      have HXR := Lib.hid c5.r
      have hm1 : m ≤ 1000 := by have h1 := allN_len HX.out; have h2 := HT.out; have h3 := HXL.out; omega
      have HO1 := Lib.hid (HO.out.below HBA.out)
      have HBW1 := Lib.hid (below_mv HBW.out HBA.out)
      clear hx c5 hS HO hsb
      go_wp2_with fail
      clear c0 c1 c2 c3 c4
      generalize (wr.alloc (.cells #[.int .i64 x.id.1, .int .i64 x.id.2, .slice D i j, strV x.txt, .slice E m d] 45)) = w1 at HBA HO1 HBW1 ⊢
      clear HBA HBW
      go_loopw [3, 17] (fun v3 i wr => ∃ (k2 : Nat) (A3 : Option Addr) (m3 f3 : Nat), k2 ≤ m ∧ i = .int .i64 (k2 : Int) ∧ v3 = .slice A3 m3 f3 ∧ OwnF w wr (.slice A3 m3 f3) (allN (l.take k) ++ x.l.take k2) ∧ Below w.heap.size w wr) (fun _ i _ => m - (intOf i).toNat)
      case atStart => exact ⟨0, A3, m3, f3, Nat.zero_le _, rfl, rfl, by rw [List.take_zero, List.append_nil]; exact HO1.out, HBW1.out⟩
      case round =>
        clear HO1 HBW1
        obtain ⟨k2, A4, m4, e4, hk2, rfl, rfl, hO, hbw⟩ := hrel
        have HBW2 := Lib.hid hbw; have HO := Lib.hid hO; clear hbw hO
        by_cases hlt2 : k2 < m
        · have hki2 : (k2 : Int) < (m : Int) := by omega
          obtain ⟨ad, q, B, n1, d1, G, m2, d2, rfl, hS, hq, c0, c1, c2, c3, c4, c5, hp⟩ := (HXR.out.elem (k := k2) (by rw [HXL.out]; exact hlt2))
          have hsb : (ad.add (k2 * 6)).block < w.heap.size := by rw [add_block]; exact hS
          replace c0 := cellB c0 HBW2.out hsb; replace c1 := cellB c1 HBW2.out hsb; replace c2 := cellB c2 HBW2.out hsb; replace c3 := cellB c3 HBW2.out hsb; replace c4 := cellB c4 HBW2.out hsb; replace c5 := cellB c5 HBW2.out hsb
          have HQ := Lib.hid hq
          have HLX := Lib.hid (lt_len hp (HL.out q (allN_mem HX.out (List.mem_of_getElem? hq))))
          have HBX := Lib.hid (Blk.new wr 54 #[.int .i64 q.k, strV q.nm, strV q.to, .int .i64 q.h.pos, .slice B n1 d1, .slice G m2 d2])
          have hba : Below wr.heap.size wr (wr.alloc (.cells #[.int .i64 q.k, strV q.nm, strV q.to, .int .i64 q.h.pos, .slice B n1 d1, .slice G m2 d2] 54)) := (Below.refl _ _).alloc (Nat.le_refl _) _
          have HBW3 := Lib.hid (below_mv HBW2.out hba)
          have HPW := Lib.hid (hp.pv.below HBW3.out); have HBA := Lib.hid hba
          have HLT := Lib.hid (ownS_lt HO.out)
          have HSZ := Lib.hid (show (wr.alloc (.cells #[.int .i64 q.k, strV q.nm, strV q.to, .int .i64 q.h.pos, .slice B n1 d1, .slice G m2 d2] 54)).heap.size = wr.heap.size + 1 by simp)
          clear hq hp hS hba hsb
          go_upto_region 8 with fail
          clear c0 c1 c2 c3 c4 c5
          generalize (wr.alloc (.cells #[.int .i64 q.k, strV q.nm, strV q.to, .int .i64 q.h.pos, .slice B n1 d1, .slice G m2 d2] 54)) = W at HBX HPW HBW3 HSZ HBA ⊢
          obtain ⟨z, hz⟩ : ∃ z, wr.heap.size = z := ⟨_, rfl⟩
          have HZ := Lib.hid hz
          rw [hz] at HBX HSZ HLT ⊢
          clear hz
          have hlx := HLX.out
          have PX : Hid (∀ X, Below W.heap.size W X → Calls Try.prog 61 #[.slice B n1 d1] X (fun e u => ∃ P p, e = .returned (.slice P n1 p) ∧ n1 ≤ p ∧ RdS u u.heap.size P q.h.old ∧ Hi X.heap.size P ∧ X.grownBy u none)) := Lib.hid (fun X hb => ownC B n1 d1 w.heap.size q.h.old X HPW.out.h.l (by omega) (Nat.le_trans HBW3.out.size hb.size) (Rd.below HPW.out.h.r (hb.mono HBW3.out.size)))
          have PY : Hid (∀ X, Below W.heap.size W X → Calls Try.prog 61 #[.slice G m2 d2] X (fun e u => ∃ P p, e = .returned (.slice P m2 p) ∧ m2 ≤ p ∧ RdS u u.heap.size P q.h.new ∧ Hi X.heap.size P ∧ X.grownBy u none)) := Lib.hid (fun X hb => ownC G m2 d2 w.heap.size q.h.new X HPW.out.h.l' (by omega) (Nat.le_trans HBW3.out.size hb.size) (Rd.below HPW.out.h.r' (hb.mono HBW3.out.size)))
          have HD := Lib.hid (show Below W.heap.size W W.drew from below_drewN (Below.refl W.heap.size W) 1)
          obtain ⟨z4, z5⟩ : W.cell? ⟨z, 4, none⟩ = some (.slice B n1 d1) ∧ W.cell? ⟨z, 5, none⟩ = some (.slice G m2 d2) := ⟨HBX.out.cell 4 rfl, HBX.out.cell 5 rfl⟩
          have hzl := HBX.out.lt
          go_region_with (first
            | (go_at_call 61; (with_reducible refine (PX.out W.drew HD.out).mono ?_); rintro e w5 ⟨P5, p5, rfl, hk5, hr5, hh5, hg5⟩; have hb5 := HD.out.trans (below_gr hg5); have B5 := HBX.out.below hb5 HBX.out.lt; have z4' := B5.cell 4 rfl; have z5' := B5.cell 5 rfl; have hzl5 := B5.lt; have HU5 := Lib.hid hb5; have HR5 := Lib.hid hr5; have HH5 := Lib.hid hh5; have HK5 := Lib.hid hk5; clear hg5 hb5 hr5 hh5 hk5 B5)
            | (go_at_call 61; (with_reducible refine (PY.out w5 HU5.out).mono ?_); rintro e w6 ⟨P6, p6, rfl, hk6, hr6, hh6, hg6⟩; have hb6 := below_gr hg6; have hu6 := HU5.out.trans (hb6.mono HU5.out.size); have B6 := HBX.out.below hu6 HBX.out.lt; have y4 := B6.cell 4 rfl; have y5 := B6.cell 5 rfl; have f4 := B6.frozen 4; have f5 := B6.frozen 5; have hzl6 := B6.lt; have HU6 := Lib.hid hu6; have HB6 := Lib.hid hb6; have HR6 := Lib.hid hr6; have HH6 := Lib.hid hh6; have HK6 := Lib.hid hk6; have HB6X := Lib.hid B6; clear hg6 hb6 hu6 hr6 hh6 hk6 B6))
          all_goals
            have b7 : Blk ((w6.setCell ⟨z, 4, none⟩ (.slice P5 n1 p5)).setCell ⟨z, 5, none⟩ (.slice P6 m2 p6)) z 54 #[.int .i64 q.k, strV q.nm, strV q.to, .int .i64 q.h.pos, .slice P5 n1 p5, .slice P6 m2 p6] := (HB6X.out.set 4 _).set 5 _
            have hb7 : Below wr.heap.size wr ((w6.setCell ⟨z, 4, none⟩ (.slice P5 n1 p5)).setCell ⟨z, 5, none⟩ (.slice P6 m2 p6)) := ((HBA.out.trans (HU6.out.mono HBA.out.size)).setCell (p := ⟨z, 4, none⟩) (by rw [HZ.out]; exact Nat.le_refl _) _).setCell (p := ⟨z, 5, none⟩) (by rw [HZ.out]; exact Nat.le_refl _) _
            have al : Fl.Alike (· ≠ z) w6 ((w6.setCell ⟨z, 4, none⟩ (.slice P5 n1 p5)).setCell ⟨z, 5, none⟩ (.slice P6 m2 p6)) := (alike_set w6 z 4 _).trans_ (alike_set _ z 5 _) (by simp)
            have hs5 : z + 1 ≤ w5.heap.size := by have := HSZ.out; have := HU5.out.size; omega
            have hs6 := HB6.out.size
            have r5 : RdG ((w6.setCell ⟨z, 4, none⟩ (.slice P5 n1 p5)).setCell ⟨z, 5, none⟩ (.slice P6 m2 p6)) (fun b => z + 1 ≤ b ∧ b < w6.heap.size) P5 (q.h.old.map strV) := ((rdG_hi (Rd.up (Rd.below HR5.out HB6.out) hs6) HH5.out).mono fun b hb => (by have h1 : W.heap.size ≤ b := hb.1; rw [HSZ.out] at h1; exact ⟨h1, hb.2⟩ : z + 1 ≤ b ∧ b < w6.heap.size)).to (al.mono fun b hb => by omega)
            have r6 : RdG ((w6.setCell ⟨z, 4, none⟩ (.slice P5 n1 p5)).setCell ⟨z, 5, none⟩ (.slice P6 m2 p6)) (fun b => z + 1 ≤ b ∧ b < w6.heap.size) P6 (q.h.new.map strV) := ((rdG_hi HR6.out HH6.out).mono fun b hb => (by have h1 : w5.heap.size ≤ b := hb.1; exact ⟨by omega, hb.2⟩ : z + 1 ≤ b ∧ b < w6.heap.size)).to (al.mono fun b hb => by omega)
            have hsx : ((w6.setCell ⟨z, 4, none⟩ (.slice P5 n1 p5)).setCell ⟨z, 5, none⟩ (.slice P6 m2 p6)).heap.size = w6.heap.size := by simp
            have R5 := Lib.hid r5; have R6 := Lib.hid r6; have HB7 := Lib.hid hb7; have HSX := Lib.hid hsx; have B7 := Lib.hid b7; have HSL := Lib.hid (Nat.le_trans hs5 hs6)
            clear b7 hb7 al hs5 hs6 r5 r6 hsx z4 z5 z4' z5' y4 y5 f4 f5 hzl hzl5 hzl6 PX PY HD HU5 HR5 HH5 HU6 HB6 HR6 HH6 HB6X HBA HBX HSZ
            generalize ((w6.setCell ⟨z, 4, none⟩ (.slice P5 n1 p5)).setCell ⟨z, 5, none⟩ (.slice P6 m2 p6)) = w7 at B7 HB7 R5 R6 HSX ⊢
            have x0 := B7.out.cell 0 rfl; have x1 := B7.out.cell 1 rfl; have x2 := B7.out.cell 2 rfl; have x3 := B7.out.cell 3 rfl; have x4 := B7.out.cell 4 rfl; have x5 := B7.out.cell 5 rfl
            have hzl := B7.out.lt
            have b8 := Blk.new w7 54 #[.int .i64 q.k, strV q.nm, strV q.to, .int .i64 q.h.pos, .slice P5 n1 p5, .slice P6 m2 p6]
            have hb8 : Below wr.heap.size wr (w7.alloc (.cells #[.int .i64 q.k, strV q.nm, strV q.to, .int .i64 q.h.pos, .slice P5 n1 p5, .slice P6 m2 p6] 54)) := HB7.out.alloc HB7.out.size _
            have ho8 := HO.out.below hb8
            have v := HPW.out
            have pg : PG (w7.alloc (.cells #[.int .i64 q.k, strV q.nm, strV q.to, .int .i64 q.h.pos, .slice P5 n1 p5, .slice P6 m2 p6] 54)) (NewIn w (w7.alloc (.cells #[.int .i64 q.k, strV q.nm, strV q.to, .int .i64 q.h.pos, .slice P5 n1 p5, .slice P6 m2 p6] 54)) (Value.slice A4 m4 e4).ownBlock) P5 n1 p5 P6 m2 p6 q := by
              have hout : ∀ b, (z + 1 ≤ b ∧ b < w6.heap.size) → NewIn w (w7.alloc (.cells #[.int .i64 q.k, strV q.nm, strV q.to, .int .i64 q.h.pos, .slice P5 n1 p5, .slice P6 m2 p6] 54)) (Value.slice A4 m4 e4).ownBlock b := fun b hb => ⟨by have h1 := HBW2.out.size; have h2 := HZ.out; omega, by have := HSX.out; simp; omega, fun e => by have := HLT.out b e.symm; omega⟩
              have hal : Fl.Alike (fun b => z + 1 ≤ b ∧ b < w6.heap.size) w7 (w7.alloc (.cells #[.int .i64 q.k, strV q.nm, strV q.to, .int .i64 q.h.pos, .slice P5 n1 p5, .slice P6 m2 p6] 54)) := (alike_below ((Below.refl w7.heap.size w7).alloc (Nat.le_refl _) _)).mono fun b hb => by have := HSX.out; omega
              exact ⟨v.h.l, v.h.l', HK5.out, HK6.out, v.h.m, v.h.m', (R5.out.to hal).mono hout, (R6.out.to hal).mono hout, v.h.p, v.k, v.nm, v.to, v.s, v.s'⟩
            have hc8 := PCells.one pg
            have HB8 := Lib.hid b8; have HW8 := Lib.hid (below_mv HBW2.out hb8); have HO8 := Lib.hid ho8; have HC8 := Lib.hid hc8
            have HLN := Lib.hid (allN_pre (j := k2) HX.out HT.out)
            clear b8 hb8 ho8 v pg hc8
            go_wp2_with (at_builtin; refine wpList_ownF rfl (.tmp 33) (.tmp 35) rfl w 1 1 (.slice A4 m4 e4) (some ⟨w7.heap.size, 0, none⟩) (allN (l.take k) ++ x.l.take k2) [q] _ rfl rfl HO8.out HC8.out rfl ⟨_, rfl, one_srcP HB8.out⟩ rfl (by decide) (by have := HLN.out; omega) HW8.out.size ?_; intro v' W' ho hg)
            obtain ⟨A9, c9, rfl, _⟩ := ownS_slice ho
            refine ⟨⟨k2 + 1, A9, _, c9, by omega, by go_num, rfl, ?_, HW8.out.grown hg HW8.out.size (fun g e => ownS_ge HO8.out g e)⟩, by simp [intOf]; omega⟩
            rw [take_at HQ.out, ← List.append_assoc]
            exact ho
        · go_wp2_with fail
          refine ⟨⟨k + 1, A4, m4, e4, by omega, by go_num, rfl, ?_, HBW2.out⟩, by simp [intOf]; omega⟩
          have ho := HO.out
          have e2 : x.l.take k2 = x.l := List.take_of_length_le (by rw [HXL.out]; omega)
          rw [e2, ← allN_next HX.out] at ho
          exact ho
    · go_wp2
      go_ret
      have e : l.take k = l := List.take_of_length_le (by rw [HN.out]; omega)
      have ho := HO.out
      rw [e] at ho
      obtain ⟨A9, c9, e9, h9⟩ := ownS_slice ho
      rw [e9] at ho ⊢
      exact ⟨A9, c9, rfl, h9, rdP_of_own_hi ho (fun b hb => ⟨hb.1, hb.2.1⟩) (Nat.le_refl _) rfl, HBW.out⟩

end Pn
end Go.Proofs.Ytdnkinajbebkoaa

set_option maxRecDepth 100000
namespace Go.Proofs.Ytdnkinajbebkoaa
open Go.RowKit Go.Shelf
set_option linter.unusedVariables false
set_option linter.unusedSimpArgs false
namespace Tg
open Tx Df Sq Hk Tr Pr Rg Fl Pn
attribute [local go_sem] Oper.semAt_some

/-- The copy of a patch in a box of its own. -/
def FirstEnd (w : World) (q : Nm) (dn m F : Nat) (W : World) : Prop :=
  ∃ D c A e, Blk W F 45 #[.int .i64 q.id.1, .int .i64 q.id.2, .slice D dn c, strV q.txt, .slice A m e] ∧ NG W (fun b => w.heap.size ≤ b ∧ b < W.heap.size ∧ b ≠ F) D dn c A m e q ∧ w.heap.size ≤ F ∧ Below w.heap.size w W
theorem first_d0 (w : World) (c : Array Value) : Below w.heap.size w (w.alloc (.cells c 45)).drew ∧ Blk (w.alloc (.cells c 45)).drew w.heap.size 45 c :=
  ⟨below_drewN ((Below.refl _ _).alloc (Nat.le_refl _) _) 1, (Blk.new w _ _).drewN 1⟩
theorem first_d2 (w : World) (c c' : Array Value) : Below w.heap.size w ((w.alloc (.cells c 45)).alloc (.cells c' 45)).drew ∧ (Below w.heap.size w ((w.alloc (.cells c 45)).alloc (.cells c' 45)).drew ∧ Blk ((w.alloc (.cells c 45)).alloc (.cells c' 45)).drew (w.heap.size + 1) 45 c') ∧ Blk ((w.alloc (.cells c 45)).alloc (.cells c' 45)).drew w.heap.size 45 c := by
  have h := below_drewN (two_box w (.cells c 45) (.cells c' 45)) 1
  have b := Blk.new (w.alloc (.cells c 45)) 45 c'
  rw [World.size_alloc] at b
  exact ⟨h, ⟨h, b.drewN 1⟩, ((Blk.new w 45 c).alloc _).drewN 1⟩
theorem first_all {X : World} {D E : Option Addr} {dn dc m k G : Nat} {q : Nm} (hm : m ≤ 1000) (hl : Lt q.l) (hv : NV X X.heap.size D dn dc E m k q) (hb : Blk X G 45 #[.int .i64 q.id.1, .int .i64 q.id.2, .slice D dn dc, strV q.txt, .slice E m k]) :
    Calls Try.prog 43 #[.slice (some ⟨G, 0, none⟩) 1 1] X (fun e u => ∃ A c, e = .returned (.slice A m c) ∧ m ≤ c ∧ RdP u (Since X u) A q.l ∧ Below X.heap.size X u) := by
  have he : allN [q] = q.l := by unfold allN; simp
  refine (AllN (some ⟨G, 0, none⟩) 1 1 [q] X rfl (by decide) (by rw [he, hv.l]; exact hm) (by rw [he]; exact hl) (rdN_lone hb hv hb.lt)).mono ?_
  rintro e u ⟨A, c, rfl, h1, h2, h3⟩
  rw [he] at h1 h2 ⊢
  rw [hv.l] at h1 ⊢
  exact ⟨A, c, rfl, h1, h2, h3⟩
theorem size4 (w : World) (o0 o1 o2 o3 : Obj) : ((((w.alloc o0).alloc o1).alloc o2).alloc o3).heap.size = w.heap.size + 4 := by simp
theorem size_lt1 (w : World) (o : Obj) : w.heap.size < (w.alloc o).drew.heap.size := by show _ < (w.alloc o).heap.size; simp
theorem size_lt1' (w : World) (o : Obj) : w.heap.size < (w.alloc o).heap.size := by simp
theorem size_lt2 (w : World) (o o' : Obj) : w.heap.size < ((w.alloc o).alloc o').drew.heap.size := by show _ < ((w.alloc o).alloc o').heap.size; simp; omega
theorem size_lt2' (w : World) (o o' : Obj) : w.heap.size + 1 < ((w.alloc o).alloc o').drew.heap.size := by show _ < ((w.alloc o).alloc o').heap.size; simp
theorem below_skip {u v : World} {o : Obj} (h : Below (u.alloc o).heap.size (u.alloc o) v) : Below u.heap.size u v := ((Below.refl _ _).alloc (Nat.le_refl _) o).trans (h.mono (by simp))
theorem first_lay {w0 w1 u1 u2 : World} {D E D2 A1 : Option Addr} {dn dc m k c1 c2 F : Nat} {X Y : World} {q : Nm} (hv : NV w0 w0.heap.size D dn dc E m k q) (hR1 : RdP u1 (Since X u1) A1 q.l) (hR2 : RdG u2 (Since Y u2) D2 (idsV q.deps)) (h12 : Below u1.heap.size u1 u2) (h1F : F < X.heap.size ∨ u1.heap.size ≤ F) (h2F : F < Y.heap.size) (hl1 : w1.heap.size ≤ X.heap.size) (hl2 : w1.heap.size ≤ Y.heap.size) (hFw : w1.heap.size ≤ F) (hU2 : Below w1.heap.size w1 u2) (tf : Blk u2 F 45 #[.int .i64 0, .int .i64 0, .slice none 0 0, .string ⟨#[]⟩, .slice none 0 0]) (hk1 : m ≤ c1) (hk2 : dn ≤ c2) :
    FirstEnd w1 q dn m F (((((u2.setCell ⟨F, 0, none⟩ (.int .i64 q.id.1)).setCell ⟨F, 1, none⟩ (.int .i64 q.id.2)).setCell ⟨F, 2, none⟩ (.slice D2 dn c2)).setCell ⟨F, 3, none⟩ (strV q.txt)).setCell ⟨F, 4, none⟩ (.slice A1 m c1)) := by
  have hs := h12.size
  have al := alike_set5 u2 F (.int .i64 q.id.1) (.int .i64 q.id.2) (.slice D2 dn c2) (strV q.txt) (.slice A1 m c1)
  have r1 := (hR1.to ((alike_below h12).mono fun b hb => hb.2)).to (al.mono fun b hb => by have := hb.1; have := hb.2; omega)
  have r2 := hR2.to (al.mono fun b hb => by have := hb.1; omega)
  refine ⟨D2, c2, A1, c1, blk5 tf _ _ _ _ _, ⟨hv.dl, hk2, hv.dm, r2.mono fun b hb => ?_, hv.tm, hv.l, hk1, hv.m, r1.mono fun b hb => ?_⟩, hFw, below_set5 hU2 hFw _ _ _ _ _⟩
  · have h1 := hb.1; have h2 := hb.2
    exact ⟨by omega, by simp; omega, by omega⟩
  · have h1 := hb.1; have h2 := hb.2
    exact ⟨by omega, by simp; omega, by omega⟩
theorem first_lay_d {w0 w1 u1 u2 : World} {D E D2 A1 : Option Addr} {dn dc m k c1 c2 : Nat} {X Y : World} {q : Nm} (hv : NV w0 w0.heap.size D dn dc E m k q) (hR1 : RdP u1 (Since X u1) A1 q.l) (hR2 : RdG u2 (Since Y u2) D2 (idsV q.deps)) (h12 : Below u1.heap.size u1 u2) (hl1 : w1.heap.size ≤ X.heap.size) (hl2 : w1.heap.size ≤ Y.heap.size) (hU2 : Below w1.heap.size w1 u2) (hk1 : m ≤ c1) (hk2 : dn ≤ c2) :
    FirstEnd w1 q dn m u2.heap.size (u2.alloc (.cells #[.int .i64 q.id.1, .int .i64 q.id.2, .slice D2 dn c2, strV q.txt, .slice A1 m c1] 45)) := by
  have hs := h12.size
  have hba : Below u2.heap.size u2 (u2.alloc (.cells #[.int .i64 q.id.1, .int .i64 q.id.2, .slice D2 dn c2, strV q.txt, .slice A1 m c1] 45)) := (Below.refl _ _).alloc (Nat.le_refl _) _
  have r1 := (hR1.to ((alike_below h12).mono fun b hb => hb.2)).to ((alike_below hba).mono fun b hb => by have := hb.2; omega)
  have r2 := hR2.to ((alike_below hba).mono fun b hb => hb.2)
  refine ⟨D2, c2, A1, c1, Blk.new _ _ _, ⟨hv.dl, hk2, hv.dm, r2.mono fun b hb => ?_, hv.tm, hv.l, hk1, hv.m, r1.mono fun b hb => ?_⟩, hU2.size, hU2.trans (hba.mono hU2.size)⟩
  · have h1 := hb.1; have h2 := hb.2
    exact ⟨by omega, by simp; omega, by omega⟩
  · have h1 := hb.1; have h2 := hb.2
    exact ⟨by omega, by simp; omega, by omega⟩

set_option maxRecDepth 100000 in
set_option maxHeartbeats 4000000 in
theorem OverN (A : Option Addr) (n c : Nat) (l : List Nm) (D : Option Addr) (dn dc : Nat) (E : Option Addr) (m k : Nat) (q : Nm) (w : World) (hle : n ≤ 1000) (hm : m ≤ 1000) (hd : dn ≤ 100000) (hl : Lt q.l) (hls : RdN w w.heap.size A l) (hln : l.length = n) (hall : ∀ p ∈ l, Lt p.l ∧ p.l.length ≤ 1000 ∧ p.deps.length ≤ 100000) (hv : NV w w.heap.size D dn dc E m k q) (xo : Nm) (ys : List Nm) (bo : Bool) (ho : outO (overN l q) = (xo, ys)) (hs : (overN l q).isSome = bo) :
    Calls Try.prog 25 #[.slice A n c, nmV q.id D dn dc q.txt E m k] w (NOverEnd w xo ys bo) := by
  have HO := Lib.hid ho; have HS := Lib.hid hs
  clear ho hs
  refine (callsIn_wide (n := 4)).1 ?_
  refine callsIn_of_wp_marks Try.func25 rfl trivial ?_ rfl
  simp only [Try.ntmps25, List.size_toArray, List.length_cons, List.length_nil, Nat.reduceAdd, Nat.reduceSub, Array.replicate_succ, Array.replicate_zero, List.push_toArray, List.append_toArray, List.nil_append, List.cons_append]
  gi_wp2_with fail
  refine wpIn_wide.2 ?_
  have hs1 := size4 w (.cells #[.int .i64 q.id.1, .int .i64 q.id.2, .slice D dn dc, strV q.txt, .slice E m k] 45) (.cells #[.int .i64 0, .int .i64 0, .slice none 0 0, .string ⟨#[]⟩, .slice none 0 0] 45) (.cells #[.slice none 0 0] 22) (.cells #[.bool false] 4)
  obtain ⟨b0, b1, b2, b3, hba⟩ := four_blk w 45 45 22 4 #[.int .i64 q.id.1, .int .i64 q.id.2, .slice D dn dc, strV q.txt, .slice E m k] #[.int .i64 0, .int .i64 0, .slice none 0 0, .string ⟨#[]⟩, .slice none 0 0] #[.slice none 0 0] #[.bool false]
  generalize ((((w.alloc (.cells #[.int .i64 q.id.1, .int .i64 q.id.2, .slice D dn dc, strV q.txt, .slice E m k] 45)).alloc (.cells #[.int .i64 0, .int .i64 0, .slice none 0 0, .string ⟨#[]⟩, .slice none 0 0] 45)).alloc (.cells #[.slice none 0 0] 22)).alloc (.cells #[.bool false] 4)) = w1 at b0 b1 b2 b3 hba hs1 ⊢
  obtain ⟨z, hz⟩ : ∃ z, w.heap.size = z := ⟨_, rfl⟩
  rw [hz] at b0 b1 b2 b3 hs1 ⊢
  have HZ := Lib.hid hz; have HS1 := Lib.hid hs1
  have HB0 := Lib.hid b0; have HB1 := Lib.hid b1; have HB2 := Lib.hid b2; have HB3 := Lib.hid b3; have HBW := Lib.hid hba
  have HV := Lib.hid (hv.mv hba)
  clear b0 b1 b2 b3 hba hz hv hs1
  have HSB : Hid (∀ X : World, Blk X z 45 #[.int .i64 q.id.1, .int .i64 q.id.2, .slice D dn dc, strV q.txt, .slice E m k] → X.cell? ⟨z, 0, none⟩ = some (.int .i64 q.id.1) ∧ X.cell? ⟨z, 1, none⟩ = some (.int .i64 q.id.2) ∧ X.cell? ⟨z, 2, none⟩ = some (.slice D dn dc) ∧ X.cell? ⟨z, 3, none⟩ = some (strV q.txt) ∧ X.cell? ⟨z, 4, none⟩ = some (.slice E m k)) := Lib.hid (fun X h1 => ⟨h1.cell 0 rfl, h1.cell 1 rfl, h1.cell 2 rfl, h1.cell 3 rfl, h1.cell 4 rfl⟩)
  have HC : Hid (∀ X, Below w1.heap.size w1 X → X.cell? ⟨z, 0, none⟩ = some (.int .i64 q.id.1) ∧ X.cell? ⟨z, 1, none⟩ = some (.int .i64 q.id.2) ∧ X.cell? ⟨z, 2, none⟩ = some (.slice D dn dc) ∧ X.cell? ⟨z, 3, none⟩ = some (strV q.txt) ∧ X.cell? ⟨z, 4, none⟩ = some (.slice E m k)) := Lib.hid (fun X hb => HSB.out X (HB0.out.below hb HB0.out.lt))
  have HF : Hid (∀ (X : World) (F : Nat) (v0 v1 v2 v3 v4 : Value), Below w1.heap.size w1 X → w1.heap.size ≤ F → (((((X.setCell ⟨F, 0, none⟩ v0).setCell ⟨F, 1, none⟩ v1).setCell ⟨F, 2, none⟩ v2).setCell ⟨F, 3, none⟩ v3).setCell ⟨F, 4, none⟩ v4).cell? ⟨z, 0, none⟩ = some (.int .i64 q.id.1) ∧ (((((X.setCell ⟨F, 0, none⟩ v0).setCell ⟨F, 1, none⟩ v1).setCell ⟨F, 2, none⟩ v2).setCell ⟨F, 3, none⟩ v3).setCell ⟨F, 4, none⟩ v4).cell? ⟨z, 1, none⟩ = some (.int .i64 q.id.2) ∧ (((((X.setCell ⟨F, 0, none⟩ v0).setCell ⟨F, 1, none⟩ v1).setCell ⟨F, 2, none⟩ v2).setCell ⟨F, 3, none⟩ v3).setCell ⟨F, 4, none⟩ v4).cell? ⟨z, 2, none⟩ = some (.slice D dn dc) ∧ (((((X.setCell ⟨F, 0, none⟩ v0).setCell ⟨F, 1, none⟩ v1).setCell ⟨F, 2, none⟩ v2).setCell ⟨F, 3, none⟩ v3).setCell ⟨F, 4, none⟩ v4).cell? ⟨z, 3, none⟩ = some (strV q.txt) ∧ (((((X.setCell ⟨F, 0, none⟩ v0).setCell ⟨F, 1, none⟩ v1).setCell ⟨F, 2, none⟩ v2).setCell ⟨F, 3, none⟩ v3).setCell ⟨F, 4, none⟩ v4).cell? ⟨z, 4, none⟩ = some (.slice E m k)) := Lib.hid (fun X F v0 v1 v2 v3 v4 hb hF => HSB.out _ (blk_set5 (HB0.out.below hb HB0.out.lt) (by have := HB0.out.lt; omega) v0 v1 v2 v3 v4))
  have HD0 := Lib.hid (first_d0 w1 #[.int .i64 q.id.1, .int .i64 q.id.2, .slice D dn dc, strV q.txt, .slice E m k]); have HDZ := Lib.hid (first_d0 w1 #[.int .i64 0, .int .i64 0, .slice none 0 0, .string ⟨#[]⟩, .slice none 0 0]); have HDA := Lib.hid (first_d2 w1 #[.int .i64 0, .int .i64 0, .slice none 0 0, .string ⟨#[]⟩, .slice none 0 0] #[.int .i64 q.id.1, .int .i64 q.id.2, .slice D dn dc, strV q.txt, .slice E m k]); have HDB := Lib.hid (first_d2 w1 #[.int .i64 q.id.1, .int .i64 q.id.2, .slice D dn dc, strV q.txt, .slice E m k] #[.int .i64 0, .int .i64 0, .slice none 0 0, .string ⟨#[]⟩, .slice none 0 0])
  have PA : Hid (∀ (X : World) (G : Nat), (Below w1.heap.size w1 X ∧ Blk X G 45 #[.int .i64 q.id.1, .int .i64 q.id.2, .slice D dn dc, strV q.txt, .slice E m k]) → Calls Try.prog 43 #[.slice (some ⟨G, 0, none⟩) 1 1] X (fun e u => ∃ A c, e = .returned (.slice A m c) ∧ m ≤ c ∧ RdP u (Since X u) A q.l ∧ Below X.heap.size X u)) := Lib.hid (fun X G h => first_all hm hl (HV.out.mv h.1) h.2)
  have PW : Hid (∀ (X : World) A c, Below w1.heap.size w1 X → Calls Try.prog 48 #[nmV q.id D dn dc q.txt E m k, .slice A m c] X (WithEnd X q dn A m c)) := Lib.hid (fun X A c hb => With D dn dc E m k q A m c X hd HV.out.dl (RdI.mv HV.out.dr hb))
  have HKD := Lib.hid (HC.out w1.drew (below_drewN (Below.refl _ _) 1))
  go_cut [7, 14, 15] from 16 (fun s7 s14 s15 wx => ∃ F, s7 = .pointer (some ⟨F, 0, none⟩) ∧ s14 = nmV q.id D dn dc q.txt E m k ∧ s15 = nmV q.id D dn dc q.txt E m k ∧ FirstEnd w1 q dn m F wx)
  case first =>
    obtain ⟨z0, z1, z2, z3, z4⟩ := HC.out w1 (Below.refl _ _)
    go_region_held3 (fun X => X.cell? ⟨z, 0, none⟩ = some (.int .i64 q.id.1) ∧ X.cell? ⟨z, 1, none⟩ = some (.int .i64 q.id.2) ∧ X.cell? ⟨z, 2, none⟩ = some (.slice D dn dc) ∧ X.cell? ⟨z, 3, none⟩ = some (strV q.txt) ∧ X.cell? ⟨z, 4, none⟩ = some (.slice E m k))
      (first | (with_reducible exact HKD.out) | (with_reducible exact HC.out _ HD0.out.1) | (with_reducible exact HC.out _ HDZ.out.1) | (with_reducible exact HC.out _ HDA.out.1) | (with_reducible exact HC.out _ HDB.out.1) | (with_reducible exact hS1) | (with_reducible exact hS2) | (with_reducible exact HC.out _ HE1.out) | (with_reducible exact HC.out _ HE2.out) | (with_reducible exact HC.out _ HE3.out) | (with_reducible exact HF.out _ _ _ _ _ _ _ HU2.out hFle))
      (first
        | (go_at_call 43; (with_reducible refine (PA.out (w1.alloc (.cells #[.int .i64 q.id.1, .int .i64 q.id.2, .slice D dn dc, strV q.txt, .slice E m k] 45)).drew _ HD0.out).mono ?_); rintro e u1 ⟨A1, c1, rfl, hk1, hr1, hb1⟩; have hbu := HD0.out.1.trans (hb1.mono HD0.out.1.size); have HE1 := Lib.hid (hbu.alloc hbu.size (.cells #[.int .i64 0, .int .i64 0, .slice none 0 0, .string ⟨#[]⟩, .slice none 0 0] 45)); have hS1 := HC.out u1 hbu; have HU1 := Lib.hid hbu; have HR1 := Lib.hid hr1; have HB1u := Lib.hid hb1; have HK1 := Lib.hid hk1; clear hb1 hbu hr1 hk1)
        | (go_at_call 43; (with_reducible refine (PA.out ((w1.alloc (.cells #[.int .i64 0, .int .i64 0, .slice none 0 0, .string ⟨#[]⟩, .slice none 0 0] 45)).alloc (.cells #[.int .i64 q.id.1, .int .i64 q.id.2, .slice D dn dc, strV q.txt, .slice E m k] 45)).drew _ HDA.out.2.1).mono ?_); rintro e u1 ⟨A1, c1, rfl, hk1, hr1, hb1⟩; have hbu := HDA.out.1.trans (hb1.mono HDA.out.1.size); have tf := HDA.out.2.2.below hb1 HDA.out.2.2.lt; have hFle := Nat.le_refl w1.heap.size; have hS1 := HC.out u1 hbu; have HU1 := Lib.hid hbu; have HR1 := Lib.hid hr1; have HB1u := Lib.hid hb1; have HK1 := Lib.hid hk1; clear hb1 hbu hr1 hk1)
        | (go_at_call 43; (with_reducible refine (PA.out ((w1.alloc (.cells #[.int .i64 q.id.1, .int .i64 q.id.2, .slice D dn dc, strV q.txt, .slice E m k] 45)).alloc (.cells #[.int .i64 0, .int .i64 0, .slice none 0 0, .string ⟨#[]⟩, .slice none 0 0] 45)).drew _ ⟨HDB.out.1, HDB.out.2.2⟩).mono ?_); rintro e u1 ⟨A1, c1, rfl, hk1, hr1, hb1⟩; have hbu := HDB.out.1.trans (hb1.mono HDB.out.1.size); have tf := HDB.out.2.1.2.below hb1 HDB.out.2.1.2.lt; have hFle := Nat.le_succ w1.heap.size; have hS1 := HC.out u1 hbu; have HU1 := Lib.hid hbu; have HR1 := Lib.hid hr1; have HB1u := Lib.hid hb1; have HK1 := Lib.hid hk1; clear hb1 hbu hr1 hk1)
        | (go_at_call 48; (with_reducible refine (PW.out u1 _ _ HU1.out).mono ?_); rintro e u2 ⟨D2, c2, rfl, hk2, hr2, hb2⟩; have hbu := HU1.out.trans (hb2.mono HU1.out.size); have hS2 := HC.out u2 hbu; have HU2 := Lib.hid hbu; have HB2u := Lib.hid hb2; have HR2 := Lib.hid hr2; have HK2 := Lib.hid hk2; have HE2 := Lib.hid (hbu.alloc hbu.size (.cells #[.int .i64 q.id.1, .int .i64 q.id.2, .slice D2 dn c2, strV q.txt, .slice A1 m c1] 45)); have HE3 := Lib.hid (hbu.alloc hbu.size (.cells #[.int .i64 0, .int .i64 0, .slice none 0 0, .string ⟨#[]⟩, .slice none 0 0] 45)); first | (have tf2 := tf.below hb2 tf.lt; have y0 := tf2.cell 0 rfl; have y1 := tf2.cell 1 rfl; have y2 := tf2.cell 2 rfl; have y3 := tf2.cell 3 rfl; have y4 := tf2.cell 4 rfl; have fz0 := tf2.frozen 0; have fz1 := tf2.frozen 1; have fz2 := tf2.frozen 2; have fz3 := tf2.frozen 3; have fz4 := tf2.frozen 4; have ylt := tf2.lt; clear hb2 hbu hr2 hk2) | (clear hb2 hbu hr2 hk2))
        | (go_at_call 48; (with_reducible refine (PW.out (u1.alloc (.cells #[.int .i64 0, .int .i64 0, .slice none 0 0, .string ⟨#[]⟩, .slice none 0 0] 45)) _ _ HE1.out).mono ?_); rintro e u2 ⟨D2, c2, rfl, hk2, hr2, hb2⟩; have hbu := HE1.out.trans (hb2.mono HE1.out.size); have hS2 := HC.out u2 hbu; have HU2 := Lib.hid hbu; have HB2u := Lib.hid hb2; have HR2 := Lib.hid hr2; have HK2 := Lib.hid hk2; have tf := Blk.new u1 45 #[.int .i64 0, .int .i64 0, .slice none 0 0, .string ⟨#[]⟩, .slice none 0 0]; have hFle := HU1.out.size; have tf2 := tf.below hb2 tf.lt; have y0 := tf2.cell 0 rfl; have y1 := tf2.cell 1 rfl; have y2 := tf2.cell 2 rfl; have y3 := tf2.cell 3 rfl; have y4 := tf2.cell 4 rfl; have fz0 := tf2.frozen 0; have fz1 := tf2.frozen 1; have fz2 := tf2.frozen 2; have fz3 := tf2.frozen 3; have fz4 := tf2.frozen 4; have ylt := tf2.lt; clear hb2 hbu hr2 hk2))
    all_goals (try go_wp2_with fail)
    all_goals go_meet
    (with_reducible exact ⟨_, rfl, rfl, rfl, first_lay_d HV.out HR1.out HR2.out HB2u.out (Nat.le_of_lt (size_lt1 w1 _)) HU1.out.size HU2.out HK1.out HK2.out⟩)
    (with_reducible exact ⟨_, rfl, rfl, rfl, first_lay HV.out HR1.out HR2.out (below_skip HB2u.out) (.inr (Nat.le_refl _)) (size_lt1' u1 _) (Nat.le_of_lt (size_lt1 w1 _)) (Nat.le_trans HU1.out.size (Nat.le_of_lt (size_lt1' u1 _))) HU1.out.size HU2.out tf2 HK1.out HK2.out⟩)
    (with_reducible exact ⟨_, rfl, rfl, rfl, first_lay HV.out HR1.out HR2.out HB2u.out (.inl (size_lt2' w1 _ _)) (Nat.lt_of_lt_of_le tf.lt (Nat.le_refl _)) (Nat.le_of_lt (size_lt2 w1 _ _)) HU1.out.size hFle HU2.out tf2 HK1.out HK2.out⟩)
    (with_reducible exact ⟨_, rfl, rfl, rfl, first_lay HV.out HR1.out HR2.out HB2u.out (.inl (size_lt2 w1 _ _)) (Nat.lt_of_lt_of_le tf.lt (Nat.le_refl _)) (Nat.le_of_lt (size_lt2 w1 _ _)) HU1.out.size hFle HU2.out tf2 HK1.out HK2.out⟩)
  case rest =>
    obtain ⟨F, rfl, rfl, rfl, D1, e1, E1, k1, hbf, hng, hFw, hb⟩ := hcut
    clear HSB HC HF HD0 HDZ HDA HDB PA PW HKD
    obtain ⟨j0, hj, hy0, hy1, hy2⟩ := info_parts info_named
    have hmk : ∀ W : World, (Instr.makeSlice 22 (.int .i64 (n : Int)) (.int .i64 (n : Int))).run Try.prog W = .ok (.slice (some ⟨W.heap.size, 0, none⟩) n n) (W.alloc (.cells (madeCells #[.int .i64 0, .int .i64 0, .slice none 0 0, .string ⟨#[]⟩, .slice none 0 0] (n * 5)) 45)) := by
      intro W
      have := run_make (P := Try.prog) W 22 45 j0 _ Try.underlying22 hj hy0 .i64 .i64 (n : Int) (n : Int) (by omega) (by omega) (by rw [hy2]; omega) (by omega)
      simp only [Int.toNat_natCast, hy1] at this
      exact this
    gi_wp2_with fail
    refine ⟨trivial, ?_⟩
    refine (backN_in 3 A n c _).mono ?_
    rintro e w' ⟨rfl, rfl⟩
    gi_wp2
    have hst := over_start (A := A) (l := l) (n := n) HZ.out (by rw [← HS1.out]) HBW.out HB1.out HB2.out HB3.out hbf hng hFw hb hls hln hle hl c
    dsimp only [noC] at hst
    obtain ⟨g, hg⟩ : ∃ g, wc.heap.size = g := ⟨_, rfl⟩
    rw [hg] at hst
    have hFg : F < g := by rw [← hg]; exact hbf.lt
    have hz4 : z + 4 ≤ F := by rw [← HS1.out]; exact hFw
    rw [hg]
    generalize (((wc.alloc (.cells (madeCells #[.int .i64 0, .int .i64 0, .slice none 0 0, .string ⟨#[]⟩, .slice none 0 0] (n * 5)) 45)).alloc (.cells #[.slice (some ⟨g, 0, none⟩) n n] 22)).alloc (.cells #[.slice A n c] 22)) = w5 at hst ⊢
    obtain ⟨hst, hbs, hsz, hc5⟩ := hst
    clear hmk hbf hng hb hg HB1 HB2 HB3 HB0 HV hj hy0 hy1 hy2
    have HZW : w.heap.size = z := HZ.out
    have HLN := Lib.hid hln; have HALL := Lib.hid hall
    clear hln hall
    refine range_law (n := 4) (gf := 56) (lb := #[.pointer (some ⟨g + 1 + 1, 0, none⟩)]) rfl (enters_of Try.func56 (by kernel_rfl) rfl) (Free := Plain) (fun _ h => h)
      (backN_gives 3 (g + 1 + 1) c n A (by omega) w5 hbs hc5) kpN_t (kpN_b (by rw [hsz]; omega)) (fun x vals W h => by obtain ⟨_, _, _, _, _, _, _, _, rfl, _⟩ := h; rfl)
      (OvJ w z F g n A l q dn m) (OvX w z l q) (ovJ_ab (by rw [hsz]; omega)) (ovX_ab (by rw [hsz]; omega)) hst
      (fun i a' X => ∃ b v0 v1 v2 v3 v4, a' = { tmps := #[.slice A n c, nmV q.id D dn dc q.txt E m k, undef, .pointer (some ⟨z, 0, none⟩), .pointer (some ⟨z + 1, 0, none⟩), .pointer (some ⟨z + 1 + 1, 0, none⟩), .pointer (some ⟨z + 1 + 1 + 1, 0, none⟩), .pointer (some ⟨F, 0, none⟩), .pointer (some ⟨g + 1, 0, none⟩), .int .i64 (i : Int), .pointer (some ⟨b, 0, none⟩), undef, undef, undef, nmV q.id D dn dc q.txt E m k, nmV q.id D dn dc q.txt E m k, u16, u17, u18, .slice A n c, .int .i64 (n : Int), .slice (some ⟨g, 0, none⟩) n n, .slice A n c, .func (.func 56) #[] #[.pointer (some ⟨g + 1 + 1, 0, none⟩)], .int .i64 (i : Int), .agg #[v0, v1, v2, v3, v4], u26, u27, u28, u29, u30, u31, u32, u33, u34, u35, u36, u37, u38, u39, u40, u41, u42], defers := [] } ∧ EN n A i #[.int .i64 (i : Int), .agg #[v0, v1, v2, v3, v4]] X ∧ Blk X b 45 #[v0, v1, v2, v3, v4])
      (fun i a' => ab_ex fun b => ab_ex fun v0 => ab_ex fun v1 => ab_ex fun v2 => ab_ex fun v3 => ab_ex fun v4 => Ab.and (ab_pure _ _ _) (Ab.and ab_EN (ab_blk fun _ => _))) ?assign ?body ?done ?stop
    case assign =>
      rintro y pre i vals X K hi hEL hK
      obtain ⟨x, post, Dx, dcx, Ex, kx, hI⟩ := id hi
      obtain ⟨p, D', dn', dc', E', m', k', hp, rfl, hv⟩ := EN.rd hEL hI.ls HLN.out
      clear hI hp hv
      gi_wp2
      exact hK _ _ ((KeepsOthers.alloc X _).from _) (kpN_new (World.grownBy_alloc X _ none)) ((ovJ_ab (Nat.le_refl _)).alloc _ hi) ⟨_, _, _, _, _, _, rfl, ab_EN.alloc (s := ()) (B := 0) _ hEL, Blk.new _ _ _⟩
    case body =>
      rintro y pre pst i a' X hfull hI ⟨b, v0, v1, v2, v3, v4, rfl, hEL, hb⟩
      have hi := dn_split hfull
      clear hfull
      obtain ⟨x, post, Dx, dcx, Ex, kx, hI⟩ := hI
      rw [show n - pre.length = i + 1 by omega] at hI
      obtain ⟨p, D', dn', dc', E', m', k', hp, hv, hpv⟩ := EN.rd hEL hI.ls HLN.out
      obtain ⟨rfl, rfl, rfl, rfl, rfl⟩ := valsN_eq hv
      have HPL := Lib.hid hp; have HI := Lib.hid hI; have HB := Lib.hid hb
      have HLP := Lib.hid (HALL.out p (List.mem_of_getElem? hp))
      have HPV := Lib.hid (hpv.up (show z ≤ X.heap.size by have := hI.r0.lt; omega))
      clear hpv hp hv hEL
      obtain ⟨x1, y1, ho⟩ : ∃ x1 y1, outN (passN p x) = (x1, y1) := ⟨_, _, rfl⟩
      obtain ⟨bo, hbo⟩ : ∃ bo, (passN p x).isSome = bo := ⟨_, rfl⟩
      have HO := Lib.hid ho; have HBO := Lib.hid hbo
      clear ho hbo
      have PC := Lib.hid (PassN D' dn' dc' E' m' k' Dx dn dcx Ex m kx p x x1 y1 X bo (by rw [← HPV.out.l]; exact HLP.out.2.1) hm (by rw [← HPV.out.dl]; exact HLP.out.2.2) hd HLP.out.1 hI.lx HPV.out (hI.ng.mono but_lt).nv HO.out HBO.out)
      have x0 := hb.cell 0 rfl; have x1' := hb.cell 1 rfl; have x2 := hb.cell 2 rfl; have x3 := hb.cell 3 rfl; have x4 := hb.cell 4 rfl
      have hbf := hI.bf
      have q0 := hbf.cell 0 (u := .int .i64 x.id.1) rfl; have q1 := hbf.cell 1 (u := .int .i64 x.id.2) rfl; have q2 := hbf.cell 2 (u := .slice Dx dn dcx) rfl; have q3 := hbf.cell 3 (u := strV x.txt) rfl; have q4 := hbf.cell 4 (u := .slice Ex m kx) rfl
      have l0 := hbf.lt
      clear hI hb hbf
      gi_wp2_with fail
      refine ⟨trivial, CallsIn.inRound y (callsIn_wide.2 (PC.out.mono ?_))⟩
      rintro e w2 ⟨D1, d1, c1, E1, m1, k1, D2, d2, c2, E2, m2, k2, rfl, n1, n2, hb2⟩
      clear x0 x1' x2 x3 x4 q0 q1 q2 q3 q4 PC l0
      have hbb := HI.out.bb; have hbf := HI.out.bf; have hr0 := HI.out.r0; have hr1 := HI.out.r1; have hr2 := HI.out.r2
      replace hbb := hbb.below hb2 hbb.lt; replace hbf := hbf.below hb2 hbf.lt; replace hr0 := hr0.below hb2 hr0.lt; replace hr1 := hr1.below hb2 hr1.lt; replace hr2 := hr2.below hb2 hr2.lt
      have HBB := Lib.hid hbb; have HBF := Lib.hid hbf; have HB2 := Lib.hid hb2; have HN1 := Lib.hid n1; have HN2 := Lib.hid n2
      clear n1 n2 hb2
      cases bo with
      | false =>
        have r0 := hr0.cell 0 (u := .int .i64 0) rfl; have r1 := hr0.cell 1 (u := .int .i64 0) rfl; have r2 := hr0.cell 2 (u := .slice none 0 0) rfl; have r3 := hr0.cell 3 (u := .string ⟨#[]⟩) rfl; have r4 := hr0.cell 4 (u := .slice none 0 0) rfl
        have f0 := hr0.frozen 0; have f1 := hr0.frozen 1; have f2 := hr0.frozen 2; have f3 := hr0.frozen 3; have f4 := hr0.frozen 4
        have s0 := hr1.cell 0 (u := .slice none 0 0) rfl; have g0 := hr1.frozen 0
        have t0 := hr2.cell 0 (u := .bool false) rfl; have h0 := hr2.frozen 0
        have hlt0 := hbf.lt; have hlt1 := hr0.lt; have hlt := hr1.lt; have hlt2 := hr2.lt; have hltz := Nat.lt_of_succ_lt hr0.lt
        clear hbb hbf hr0 hr1 hr2
        gi_wp2_with fail
        have HNN : Hid (passN p x = none) := Lib.hid (by
          have h := HBO.out
          cases hp : passN p x with
          | none => rfl
          | some z => rw [hp] at h; cases h)
        clear r0 r1 r2 r3 r4 f0 f1 f2 f3 f4 s0 g0 t0 h0 hlt0 hlt1 hlt hlt2 hltz
        exact over_no HI.out HB2.out HPL.out HNN.out _ _
      | true =>
        clear hbb hbf hr0 hr1 hr2
        have HSM : Hid (passN p x = some (x1, y1)) := Lib.hid (by
          have h := HBO.out; have ho := HO.out
          cases hp : passN p x with
          | none => rw [hp] at h; cases h
          | some z => rw [hp] at ho; exact congrArg some ho)
        obtain ⟨hid, hdp, htx, hll⟩ := (passN_keeps HSM.out).1
        obtain rfl : dn = d1 := by rw [← HN1.out.dl, hdp, HI.out.ng.dl]
        obtain rfl : m = m1 := by rw [← HN1.out.l, hll, HI.out.ng.l]
        clear hid hdp htx hll
        gi_wp2_with fail
        have b3 := (Blk.new w2 45 #[.int .i64 x1.id.1, .int .i64 x1.id.2, .slice D1 dn c1, strV x1.txt, .slice E1 m k1]).alloc (.cells #[.int .i64 y1.id.1, .int .i64 y1.id.2, .slice D2 d2 c2, strV y1.txt, .slice E2 m2 k2] 45)
        have b4 := Blk.new (w2.alloc (.cells #[.int .i64 x1.id.1, .int .i64 x1.id.2, .slice D1 dn c1, strV x1.txt, .slice E1 m k1] 45)) 45 #[.int .i64 y1.id.1, .int .i64 y1.id.2, .slice D2 d2 c2, strV y1.txt, .slice E2 m2 k2]
        have hb4 : Below w2.heap.size w2 ((w2.alloc (.cells #[.int .i64 x1.id.1, .int .i64 x1.id.2, .slice D1 dn c1, strV x1.txt, .slice E1 m k1] 45)).alloc (.cells #[.int .i64 y1.id.1, .int .i64 y1.id.2, .slice D2 d2 c2, strV y1.txt, .slice E2 m2 k2] 45)) := two_box _ _ _
        simp only [World.size_alloc] at b4
        generalize ((w2.alloc (.cells #[.int .i64 x1.id.1, .int .i64 x1.id.2, .slice D1 dn c1, strV x1.txt, .slice E1 m k1] 45)).alloc (.cells #[.int .i64 y1.id.1, .int .i64 y1.id.2, .slice D2 d2 c2, strV y1.txt, .slice E2 m2 k2] 45)) = w4 at b3 b4 hb4 ⊢
        have hw4 := hb4.size
        generalize hz2 : w2.heap.size = z2 at b3 b4 hw4 ⊢
        have hz0 : g + 1 < z2 := by rw [← hz2]; exact HBB.out.lt
        have HB4 := Lib.hid hb4
        have k4 := HBB.out.below hb4 HBB.out.lt; have qb := HBF.out.below hb4 HBF.out.lt
        have HSB : Hid (∀ Y : World, Blk Y (g + 1) 22 #[.slice (some ⟨g, 0, none⟩) n n] → Blk Y z2 45 #[.int .i64 x1.id.1, .int .i64 x1.id.2, .slice D1 dn c1, strV x1.txt, .slice E1 m k1] → Blk Y (z2 + 1) 45 #[.int .i64 y1.id.1, .int .i64 y1.id.2, .slice D2 d2 c2, strV y1.txt, .slice E2 m2 k2] → Y.cell? ⟨g + 1, 0, none⟩ = some (.slice (some ⟨g, 0, none⟩) n n) ∧ Y.cell? ⟨z2, 0, none⟩ = some (.int .i64 x1.id.1) ∧ Y.cell? ⟨z2, 1, none⟩ = some (.int .i64 x1.id.2) ∧ Y.cell? ⟨z2, 2, none⟩ = some (.slice D1 dn c1) ∧ Y.cell? ⟨z2, 3, none⟩ = some (strV x1.txt) ∧ Y.cell? ⟨z2, 4, none⟩ = some (.slice E1 m k1) ∧ Y.cell? ⟨z2 + 1, 0, none⟩ = some (.int .i64 y1.id.1) ∧ Y.cell? ⟨z2 + 1, 1, none⟩ = some (.int .i64 y1.id.2) ∧ Y.cell? ⟨z2 + 1, 2, none⟩ = some (.slice D2 d2 c2) ∧ Y.cell? ⟨z2 + 1, 3, none⟩ = some (strV y1.txt) ∧ Y.cell? ⟨z2 + 1, 4, none⟩ = some (.slice E2 m2 k2)) := Lib.hid (fun Y h1 h2 h3 => ⟨h1.cell 0 rfl, h2.cell 0 rfl, h2.cell 1 rfl, h2.cell 2 rfl, h2.cell 3 rfl, h2.cell 4 rfl, h3.cell 0 rfl, h3.cell 1 rfl, h3.cell 2 rfl, h3.cell 3 rfl, h3.cell 4 rfl⟩)
        have MID := Lib.hid (over_mid (w4 := w4) HI.out HB2.out hb4 HN1.out HN2.out)
        have HK6 := Lib.hid (blk_set5 k4 (g := F) (by omega) (.int .i64 x1.id.1) (.int .i64 x1.id.2) (.slice D1 dn c1) (strV x1.txt) (.slice E1 m k1))
        have HX6 := Lib.hid (blk_set5 b3 (g := F) (by omega) (.int .i64 x1.id.1) (.int .i64 x1.id.2) (.slice D1 dn c1) (strV x1.txt) (.slice E1 m k1))
        have HY6 := Lib.hid (blk_set5 b4 (g := F) (by omega) (.int .i64 x1.id.1) (.int .i64 x1.id.2) (.slice D1 dn c1) (strV x1.txt) (.slice E1 m k1))
        obtain ⟨kk0, e0, e1, e2, e3, e4, yy0, yy1, yy2, yy3, yy4⟩ := HSB.out w4 k4 b3 b4
        have q0 := qb.cell 0 (u := .int .i64 x.id.1) rfl; have q1 := qb.cell 1 (u := .int .i64 x.id.2) rfl; have q2 := qb.cell 2 (u := .slice Dx dn dcx) rfl; have q3 := qb.cell 3 (u := strV x.txt) rfl; have q4 := qb.cell 4 (u := .slice Ex m kx) rfl
        have f0 := qb.frozen 0; have f1 := qb.frozen 1; have f2 := qb.frozen 2; have f3 := qb.frozen 3; have f4 := qb.frozen 4
        have hqlt := qb.lt
        have hin : (i : Int) < (n : Int) := by omega
        clear k4 b3 b4 hb4 qb
        refine round_held (S := fun Y : World => Y.cell? ⟨g + 1, 0, none⟩ = some (.slice (some ⟨g, 0, none⟩) n n) ∧ Y.cell? ⟨z2, 0, none⟩ = some (.int .i64 x1.id.1) ∧ Y.cell? ⟨z2, 1, none⟩ = some (.int .i64 x1.id.2) ∧ Y.cell? ⟨z2, 2, none⟩ = some (.slice D1 dn c1) ∧ Y.cell? ⟨z2, 3, none⟩ = some (strV x1.txt) ∧ Y.cell? ⟨z2, 4, none⟩ = some (.slice E1 m k1) ∧ Y.cell? ⟨z2 + 1, 0, none⟩ = some (.int .i64 y1.id.1) ∧ Y.cell? ⟨z2 + 1, 1, none⟩ = some (.int .i64 y1.id.2) ∧ Y.cell? ⟨z2 + 1, 2, none⟩ = some (.slice D2 d2 c2) ∧ Y.cell? ⟨z2 + 1, 3, none⟩ = some (strV y1.txt) ∧ Y.cell? ⟨z2 + 1, 4, none⟩ = some (.slice E2 m2 k2)) (by kernel_rfl) (by kernel_rfl) ?hq ?hS (fun hS0 => ?_)
        case hq => rintro ⟨_, _, h⟩; exact h
        case hS => exact ⟨kk0, e0, e1, e2, e3, e4, yy0, yy1, yy2, yy3, yy4⟩
        refine wpAnyH_take (i := 0) (v := ?_) rfl (by kernel_rfl) (by kernel_rfl) (by kernel_rfl) (fun _ _ _ h => h) (Or.inl ⟨by rfl, ?_⟩) hS0 ?_
        rotate_left
        · intro Y hY
          obtain ⟨s0, s1, s2, s3, s4, s5, s6, s7, s8, s9, s10⟩ := hY
          go_simp
          try with_reducible rfl
        simp only [Act.put, List.getElem_toArray, List.getElem_cons_succ, List.getElem_cons_zero, List.setIfInBounds_toArray, List.set_cons_succ, List.set_cons_zero]
        refine wpAnyH_take (i := 1) (v := ?_) rfl (by kernel_rfl) (by kernel_rfl) (by kernel_rfl) (fun _ _ _ h => h) (Or.inl ⟨by rfl, ?_⟩) hS0 ?_
        rotate_left
        · intro Y hY
          obtain ⟨s0, s1, s2, s3, s4, s5, s6, s7, s8, s9, s10⟩ := hY
          go_simp
          try with_reducible rfl
        simp only [Act.put, List.getElem_toArray, List.getElem_cons_succ, List.getElem_cons_zero, List.setIfInBounds_toArray, List.set_cons_succ, List.set_cons_zero]
        refine wpAnyH_take (i := 2) (v := ?_) rfl (by kernel_rfl) (by kernel_rfl) (by kernel_rfl) (fun _ _ _ h => h) (Or.inl ⟨by rfl, ?_⟩) hS0 ?_
        rotate_left
        · intro Y hY
          obtain ⟨s0, s1, s2, s3, s4, s5, s6, s7, s8, s9, s10⟩ := hY
          go_simp
          try with_reducible rfl
        simp only [Act.put, List.getElem_toArray, List.getElem_cons_succ, List.getElem_cons_zero, List.setIfInBounds_toArray, List.set_cons_succ, List.set_cons_zero]
        refine wpAnyH_take (i := 3) (v := ?_) rfl (by kernel_rfl) (by kernel_rfl) (by kernel_rfl) (fun _ _ _ h => h) (Or.inl ⟨by rfl, ?_⟩) hS0 ?_
        rotate_left
        · intro Y hY
          obtain ⟨s0, s1, s2, s3, s4, s5, s6, s7, s8, s9, s10⟩ := hY
          go_simp
          try with_reducible rfl
        simp only [Act.put, List.getElem_toArray, List.getElem_cons_succ, List.getElem_cons_zero, List.setIfInBounds_toArray, List.set_cons_succ, List.set_cons_zero]
        refine wpAnyH_ready (rs := [4]) (by kernel_rfl) (by simp) ?_
        refine AllReadyH.cons rfl (fun K1 hK => ?_) AllReadyH.nil
        go_simp
        clear hS0 kk0 e0 e1 e2 e3 e4 yy0 yy1 yy2 yy3 yy4 q0 q1 q2 q3 q4 f0 f1 f2 f3 f4 hqlt
        obtain ⟨a1, a2, a3, a4, a5, a6, a7, a8, a9, a10, a11, a12⟩ := MID.out
        clear MID
        generalize (World.setCell (World.setCell (World.setCell (World.setCell (World.setCell w4 ⟨F, 0, none⟩ (.int .i64 x1.id.1)) ⟨F, 1, none⟩ (.int .i64 x1.id.2)) ⟨F, 2, none⟩ (.slice D1 dn c1)) ⟨F, 3, none⟩ (strV x1.txt)) ⟨F, 4, none⟩ (.slice E1 m k1)) = w6 at *
        refine hK.out _ _ (HSB.out w6.drew (HK6.out.drewN 1) (HX6.out.drewN 1) (HY6.out.drewN 1)) (fun hS1 => ?_)
        clear hK K1
        have hlrow := rep_len HI.out.eq HLN.out (by omega)
        obtain ⟨_, _, _, _, _, _, c0, c1', c2', c3', c4', cf, _⟩ := a1.elem (k := i) (x := noN) hlrow (by rw [List.getElem?_append_left (by simp), List.getElem?_replicate, if_pos (by omega)])
        have f0 := cf (i * 5); have f1 := cf (i * 5 + 1); have f2 := cf (i * 5 + 2); have f3 := cf (i * 5 + 3); have f4 := cf (i * 5 + 4)
        have HF := Lib.hid (over_fin HI.out.pos HI.out.eq HI.out.lx HPL.out HLP.out.1 HLN.out HSM.out a1 a2 a3 a4 a5 a6 a7 a8 a9 a10)
        have HA := Lib.hid (And.intro a11 a12)
        clear a1 a2 a3 a4 a5 a6 a7 a8 a9 a10 a11 a12 cf
        refine wpAnyH_take (i := 5) (v := ?_) rfl (by kernel_rfl) (by kernel_rfl) (by kernel_rfl) (fun _ _ _ h => h) (Or.inl ⟨by rfl, ?_⟩) hS1 ?_
        rotate_left
        · intro Y hY
          obtain ⟨s0, s1, s2, s3, s4, s5, s6, s7, s8, s9, s10⟩ := hY
          go_simp
          try with_reducible rfl
        simp only [Act.put, List.getElem_toArray, List.getElem_cons_succ, List.getElem_cons_zero, List.setIfInBounds_toArray, List.set_cons_succ, List.set_cons_zero]
        refine wpAnyH_ready (rs := [6]) (by kernel_rfl) (by simp) ?_
        refine AllReadyH.cons rfl (fun K1 hK => ?_) AllReadyH.nil
        go_simp
        obtain ⟨t1, t2, t3⟩ := HF.out
        have hk9 := blk_row5 HK6.out (g := g) (by omega) i (.int .i64 y1.id.1) (.int .i64 y1.id.2) (.slice D2 d2 c2) (strV y1.txt) (.slice E2 m2 k2)
        have hx9 := blk_row5 HX6.out (g := g) (by omega) i (.int .i64 y1.id.1) (.int .i64 y1.id.2) (.slice D2 d2 c2) (strV y1.txt) (.slice E2 m2 k2)
        have hy9 := blk_row5 HY6.out (g := g) (by omega) i (.int .i64 y1.id.1) (.int .i64 y1.id.2) (.slice D2 d2 c2) (strV y1.txt) (.slice E2 m2 k2)
        clear HF c0 c1' c2' c3' c4' f0 f1 f2 f3 f4
        generalize (World.setCell (World.setCell (World.setCell (World.setCell (World.setCell w6 ⟨g, i * 5, none⟩ (.int .i64 y1.id.1)) ⟨g, i * 5 + 1, none⟩ (.int .i64 y1.id.2)) ⟨g, i * 5 + 2, none⟩ (.slice D2 d2 c2)) ⟨g, i * 5 + 3, none⟩ (strV y1.txt)) ⟨g, i * 5 + 4, none⟩ (.slice E2 m2 k2)) = w9 at *
        refine hK.out _ _ (HSB.out w9.drew (hk9.drewN 1) (hx9.drewN 1) (hy9.drewN 1)) (fun _ => wpAnyH_done (by kernel_rfl) ?_ _)
        clear hK K1 hS1
        have hj : n - (pre ++ [i]).length = i := by rw [List.length_append, List.length_singleton]; omega
        have hd : Below w9.heap.size w9 w9.drew := below_drewN (Below.refl _ _) 1
        refine ⟨((HA.out.1 _).trans (t2 _)).trans (keepsFrom_below _ hd), ⟨fun v hv => t3 _ v (by omega) (HA.out.2 _ v (by omega) hv), fun _ => cells5_below (cells5_rd t1.ls HLN.out) hd⟩, x1, y1 :: post, D1, c1, E1, k1, ?_⟩
        rw [hj]
        exact t1.mv hd
    case done =>
      rintro E9 W hE hI hK
      obtain ⟨x, post, Dx, dcx, Ex, kx, hI⟩ := hI
      rw [dn_length, Nat.sub_self] at hI
      have hbf := hI.bf; have hbb := hI.bb; have hr0 := hI.r0; have hr1 := hI.r1; have hr2 := hI.r2
      have q0 := hbf.cell 0 (u := .int .i64 x.id.1) rfl; have q1 := hbf.cell 1 (u := .int .i64 x.id.2) rfl; have q2 := hbf.cell 2 (u := .slice Dx dn dcx) rfl; have q3 := hbf.cell 3 (u := strV x.txt) rfl; have q4 := hbf.cell 4 (u := .slice Ex m kx) rfl
      have bb0 := hbb.cell 0 (u := .slice (some ⟨g, 0, none⟩) n n) rfl
      have r0 := hr0.cell 0 (u := .int .i64 0) rfl; have r1 := hr0.cell 1 (u := .int .i64 0) rfl; have r2 := hr0.cell 2 (u := .slice none 0 0) rfl; have r3 := hr0.cell 3 (u := .string ⟨#[]⟩) rfl; have r4 := hr0.cell 4 (u := .slice none 0 0) rfl
      have f0 := hr0.frozen 0; have f1 := hr0.frozen 1; have f2 := hr0.frozen 2; have f3 := hr0.frozen 3; have f4 := hr0.frozen 4
      have s0 := hr1.cell 0 (u := .slice none 0 0) rfl; have g0 := hr1.frozen 0
      have t0 := hr2.cell 0 (u := .bool false) rfl; have h0 := hr2.frozen 0
      have hlt0 := hbf.lt; have hlt1 := hr0.lt; have hlt := hr1.lt; have hlt2 := hr2.lt; have hltz := Nat.lt_of_succ_lt hr0.lt; have hltb := hbb.lt
      have HI := Lib.hid hI
      have HD := Lib.hid (over_done hI (show w.heap.size ≤ E9 by omega) hK)
      clear hI hbf hbb hr0 hr1 hr2
      gi_wp2
      refine wpIn_wide.2 ?_
      have HSB : Hid (∀ Y : World, Blk Y (g + 1) 22 #[.slice (some ⟨g, 0, none⟩) n n] → Blk Y F 45 #[.int .i64 x.id.1, .int .i64 x.id.2, .slice Dx dn dcx, strV x.txt, .slice Ex m kx] → Y.cell? ⟨g + 1, 0, none⟩ = some (.slice (some ⟨g, 0, none⟩) n n) ∧ Y.cell? ⟨F, 0, none⟩ = some (.int .i64 x.id.1) ∧ Y.cell? ⟨F, 1, none⟩ = some (.int .i64 x.id.2) ∧ Y.cell? ⟨F, 2, none⟩ = some (.slice Dx dn dcx) ∧ Y.cell? ⟨F, 3, none⟩ = some (strV x.txt) ∧ Y.cell? ⟨F, 4, none⟩ = some (.slice Ex m kx)) := Lib.hid (fun Y h1 h2 => ⟨h1.cell 0 rfl, h2.cell 0 rfl, h2.cell 1 rfl, h2.cell 2 rfl, h2.cell 3 rfl, h2.cell 4 rfl⟩)
      have HKD := Lib.hid (HSB.out W.drew (HI.out.bb.drewN 1) (HI.out.bf.drewN 1))
      have HKA := Lib.hid (HSB.out (World.setCell (World.setCell (World.setCell (World.setCell (World.setCell W ⟨z + 1, 0, none⟩ (.int .i64 x.id.1)) ⟨z + 1, 1, none⟩ (.int .i64 x.id.2)) ⟨z + 1, 2, none⟩ (.slice Dx dn dcx)) ⟨z + 1, 3, none⟩ (strV x.txt)) ⟨z + 1, 4, none⟩ (.slice Ex m kx)).drew ((blk_set5 HI.out.bb (show g + 1 ≠ z + 1 by omega) (.int .i64 x.id.1) (.int .i64 x.id.2) (.slice Dx dn dcx) (strV x.txt) (.slice Ex m kx)).drewN 1) ((blk_set5 HI.out.bf (show F ≠ z + 1 by omega) (.int .i64 x.id.1) (.int .i64 x.id.2) (.slice Dx dn dcx) (strV x.txt) (.slice Ex m kx)).drewN 1))
      have HKB := Lib.hid (HSB.out (World.setCell (World.setCell (World.setCell (World.setCell (World.setCell (World.setCell W ⟨z + 1, 0, none⟩ (.int .i64 x.id.1)) ⟨z + 1, 1, none⟩ (.int .i64 x.id.2)) ⟨z + 1, 2, none⟩ (.slice Dx dn dcx)) ⟨z + 1, 3, none⟩ (strV x.txt)) ⟨z + 1, 4, none⟩ (.slice Ex m kx)) ⟨z + 1 + 1, 0, none⟩ (.slice (some ⟨g, 0, none⟩) n n)).drew (((blk_set5 HI.out.bb (show g + 1 ≠ z + 1 by omega) (.int .i64 x.id.1) (.int .i64 x.id.2) (.slice Dx dn dcx) (strV x.txt) (.slice Ex m kx)).set_ne (show g + 1 ≠ z + 1 + 1 by omega) 0 (.slice (some ⟨g, 0, none⟩) n n)).drewN 1) (((blk_set5 HI.out.bf (show F ≠ z + 1 by omega) (.int .i64 x.id.1) (.int .i64 x.id.2) (.slice Dx dn dcx) (strV x.txt) (.slice Ex m kx)).set_ne (show F ≠ z + 1 + 1 by omega) 0 (.slice (some ⟨g, 0, none⟩) n n)).drewN 1))
      have HKC := Lib.hid (HSB.out (World.setCell (World.setCell (World.setCell (World.setCell (World.setCell (World.setCell (World.setCell W ⟨z + 1, 0, none⟩ (.int .i64 x.id.1)) ⟨z + 1, 1, none⟩ (.int .i64 x.id.2)) ⟨z + 1, 2, none⟩ (.slice Dx dn dcx)) ⟨z + 1, 3, none⟩ (strV x.txt)) ⟨z + 1, 4, none⟩ (.slice Ex m kx)) ⟨z + 1 + 1, 0, none⟩ (.slice (some ⟨g, 0, none⟩) n n)) ⟨z + 1 + 1 + 1, 0, none⟩ (.bool true)).drew ((((blk_set5 HI.out.bb (show g + 1 ≠ z + 1 by omega) (.int .i64 x.id.1) (.int .i64 x.id.2) (.slice Dx dn dcx) (strV x.txt) (.slice Ex m kx)).set_ne (show g + 1 ≠ z + 1 + 1 by omega) 0 (.slice (some ⟨g, 0, none⟩) n n)).set_ne (show g + 1 ≠ z + 1 + 1 + 1 by omega) 0 (.bool true)).drewN 1) ((((blk_set5 HI.out.bf (show F ≠ z + 1 by omega) (.int .i64 x.id.1) (.int .i64 x.id.2) (.slice Dx dn dcx) (strV x.txt) (.slice Ex m kx)).set_ne (show F ≠ z + 1 + 1 by omega) 0 (.slice (some ⟨g, 0, none⟩) n n)).set_ne (show F ≠ z + 1 + 1 + 1 by omega) 0 (.bool true)).drewN 1))
      go_region_held3 (fun Y => Y.cell? ⟨g + 1, 0, none⟩ = some (.slice (some ⟨g, 0, none⟩) n n) ∧ Y.cell? ⟨F, 0, none⟩ = some (.int .i64 x.id.1) ∧ Y.cell? ⟨F, 1, none⟩ = some (.int .i64 x.id.2) ∧ Y.cell? ⟨F, 2, none⟩ = some (.slice Dx dn dcx) ∧ Y.cell? ⟨F, 3, none⟩ = some (strV x.txt) ∧ Y.cell? ⟨F, 4, none⟩ = some (.slice Ex m kx))
        (first | (with_reducible exact HKD.out) | (with_reducible exact HKA.out) | (with_reducible exact HKB.out) | (with_reducible exact HKC.out))
        (fail)
      have hd := over_done (OvI.mv HI.out (show Below W.heap.size W W.drew from below_drewN (Below.refl _ _) 1)) (show w.heap.size ≤ E9 by omega) hK
      dsimp only [nmC] at hd
      simp only [World.setCell_drew] at hd
      have HD := Lib.hid hd
      clear hd HKD HKA HKB HKC HSB bb0 q0 q1 q2 q3 q4 r0 r1 r2 r3 r4 f0 f1 f2 f3 f4 s0 g0 t0 h0 hlt0 hlt1 hlt hlt2 hltz hltb
      gi_wp2
      obtain ⟨d1, d2, d3, d4, d5, d6, d7⟩ := HD.out
      refine ⟨by simp, .inl ⟨_, _, rfl, run_takeDeferred d1, ?_⟩⟩
      clear d1 hK
      generalize (World.putObj (World.setCell (World.setCell (World.setCell (World.setCell (World.setCell (World.setCell (World.setCell W ⟨z + 1, 0, none⟩ (.int .i64 x.id.1)) ⟨z + 1, 1, none⟩ (.int .i64 x.id.2)) ⟨z + 1, 2, none⟩ (.slice Dx dn dcx)) ⟨z + 1, 3, none⟩ (strV x.txt)) ⟨z + 1, 4, none⟩ (.slice Ex m kx)) ⟨z + 1 + 1, 0, none⟩ (.slice (some ⟨g, 0, none⟩) n n)) ⟨z + 1 + 1 + 1, 0, none⟩ (.bool true)).drew E9 (.deferred none)) = W9 at *
      have u0 := d2.cell 0 (u := .int .i64 x.id.1) rfl; have u1 := d2.cell 1 (u := .int .i64 x.id.2) rfl; have u2 := d2.cell 2 (u := .slice Dx dn dcx) rfl; have u3 := d2.cell 3 (u := strV x.txt) rfl; have u4 := d2.cell 4 (u := .slice Ex m kx) rfl
      have y0 := d3.cell 0 (u := .slice (some ⟨g, 0, none⟩) n n) rfl; have z0 := d4.cell 0 (u := .bool true) rfl
      refine ⟨.tuple #[.agg #[.int .i64 x.id.1, .int .i64 x.id.2, .slice Dx dn dcx, strV x.txt, .slice Ex m kx], .slice (some ⟨g, 0, none⟩) n n, .bool true], by simp [results, Try.results25, go_sem, u0, u1, u2, u3, u4, y0, z0], ?_⟩
      have he := HI.out.eq
      rw [List.drop_zero] at he
      have ho := HO.out; have hs := HS.out
      rw [he] at ho hs
      injection ho with e1 e2
      subst e1 e2 hs
      exact ⟨Dx, dn, dcx, Ex, m, kx, _, rfl, d5, d6, d7⟩
    case stop =>
      rintro E9 c' pre post W hE hpp ⟨rfl, ho, r0, r1, r2, fr⟩ hK
      gi_wp2
      refine ⟨by simp, .inl ⟨_, _, rfl, run_takeDeferred hK, ?_⟩⟩
      obtain ⟨p1, p2, _, _, _⟩ := over_put (show w.heap.size ≤ E9 by omega) hK fr
      have d2 := p2 _ _ _ r0; have d3 := p2 _ _ _ r1; have d4 := p2 _ _ _ r2
      clear hK r0 r1 r2 fr p2
      generalize (World.putObj W E9 (.deferred none)) = W9 at *
      have u0 := d2.cell 0 (u := .int .i64 0) rfl; have u1 := d2.cell 1 (u := .int .i64 0) rfl; have u2 := d2.cell 2 (u := .slice none 0 0) rfl; have u3 := d2.cell 3 (u := .string ⟨#[]⟩) rfl; have u4 := d2.cell 4 (u := .slice none 0 0) rfl
      have y0 := d3.cell 0 (u := .slice none 0 0) rfl; have z0 := d4.cell 0 (u := .bool false) rfl
      refine ⟨.tuple #[.agg #[.int .i64 0, .int .i64 0, .slice none 0 0, .string ⟨#[]⟩, .slice none 0 0], .slice none 0 0, .bool false], by simp [results, Try.results25, go_sem, u0, u1, u2, u3, u4, y0, z0], ?_⟩
      have ho' := HO.out; have hs := HS.out
      rw [ho] at ho' hs
      injection ho' with e1 e2
      subst e1 e2 hs
      exact ⟨none, 0, 0, none, 0, 0, _, rfl, ng_no _ _, ⟨[], World.ownsRow_nil _ _ _ _, fun k x hx => by simp at hx⟩, p1⟩

end Tg
end Go.Proofs.Ytdnkinajbebkoaa

set_option maxRecDepth 100000
namespace Go.Proofs.Ytdnkinajbebkoaa
open Go.RowKit
set_option linter.unusedVariables false
set_option linter.unusedSimpArgs false
namespace Tg
open Tx Df Sq Hk Tr Pr Fl Pn
attribute [local go_sem] eq_id

end Tg
end Go.Proofs.Ytdnkinajbebkoaa

namespace Go.Proofs.Ytdnkinajbebkoaa
open Go.RowKit
set_option linter.unusedVariables false
namespace Tg
open Tx Df Sq Hk Tr Pr Fl Pn

/-- Where two patches lie, made since w; what there was in u is as it was, but for their blocks. -/
def Lay5 (w u W : World) (T U : Nat) (x y : Array Value) : Prop := Blk W T 45 x ∧ Blk W U 45 y ∧ w.heap.size ≤ T ∧ w.heap.size ≤ U ∧ Below w.heap.size w W ∧ u.heap.size ≤ W.heap.size ∧ Fl.Alike (fun b => b < u.heap.size ∧ b ≠ T ∧ b ≠ U) u W
section
variable {w u : World} {T U X Y : Nat} {x0 x1 x2 x3 x4 y0 y1 y2 y3 y4 : Value}
theorem Lay5.swap {W : World} {x y : Array Value} (h : Lay5 w u W T U x y) : Lay5 w u W U T y x := ⟨h.2.1, h.1, h.2.2.2.1, h.2.2.1, h.2.2.2.2.1, h.2.2.2.2.2.1, h.2.2.2.2.2.2.mono fun b hb => ⟨hb.1, hb.2.2, hb.2.1⟩⟩
theorem size_set5 (W : World) (b : Nat) (v0 v1 v2 v3 v4 : Value) : (((((W.setCell ⟨b, 0, none⟩ v0).setCell ⟨b, 1, none⟩ v1).setCell ⟨b, 2, none⟩ v2).setCell ⟨b, 3, none⟩ v3).setCell ⟨b, 4, none⟩ v4).heap.size = W.heap.size := by simp
theorem lay5_aa (hw : Below w.heap.size w u) : Lay5 w u ((u.alloc (.cells #[x0, x1, x2, x3, x4] 45)).alloc (.cells #[y0, y1, y2, y3, y4] 45)) u.heap.size (u.heap.size + 1) #[x0, x1, x2, x3, x4] #[y0, y1, y2, y3, y4] := by
  have h2 := Blk.new (u.alloc (.cells #[x0, x1, x2, x3, x4] 45)) 45 #[y0, y1, y2, y3, y4]
  simp only [World.size_alloc] at h2
  have hb := Cut2.bel2 u (.cells #[x0, x1, x2, x3, x4] 45) (.cells #[y0, y1, y2, y3, y4] 45)
  exact ⟨(Blk.new u _ _).alloc _, h2, hw.size, Nat.le_succ_of_le hw.size, hw.trans (hb.mono hw.size), hb.size, (alike_below hb).mono fun b h => h.1⟩
theorem lay5_sa (hw : Below w.heap.size w u) (hX : Blk u X 45 noC) (hle : w.heap.size ≤ X) :
    Lay5 w u ((((((u.setCell ⟨X, 0, none⟩ x0).setCell ⟨X, 1, none⟩ x1).setCell ⟨X, 2, none⟩ x2).setCell ⟨X, 3, none⟩ x3).setCell ⟨X, 4, none⟩ x4).alloc (.cells #[y0, y1, y2, y3, y4] 45)) X u.heap.size #[x0, x1, x2, x3, x4] #[y0, y1, y2, y3, y4] := by
  have h2 := Blk.new (((((u.setCell ⟨X, 0, none⟩ x0).setCell ⟨X, 1, none⟩ x1).setCell ⟨X, 2, none⟩ x2).setCell ⟨X, 3, none⟩ x3).setCell ⟨X, 4, none⟩ x4) 45 #[y0, y1, y2, y3, y4]
  rw [size_set5] at h2
  have hb := below_set5 hw hle x0 x1 x2 x3 x4
  refine ⟨(blk5 hX _ _ _ _ _).alloc _, h2, hle, hw.size, hb.alloc hb.size _, by simp, ?_⟩
  refine ((alike_set5 u X x0 x1 x2 x3 x4).mono fun b h => h.2.1).trans_ ((alike_below (Cut2.bel1 _ _)).mono fun b h => ?_) (by simp)
  rw [size_set5]
  exact h.1
theorem lay5_ss (hw : Below w.heap.size w u) (hX : Blk u X 45 noC) (hY : Blk u Y 45 noC) (hne : X ≠ Y) (hle : w.heap.size ≤ X) (hle' : w.heap.size ≤ Y) :
    Lay5 w u ((((((((((u.setCell ⟨X, 0, none⟩ x0).setCell ⟨X, 1, none⟩ x1).setCell ⟨X, 2, none⟩ x2).setCell ⟨X, 3, none⟩ x3).setCell ⟨X, 4, none⟩ x4).setCell ⟨Y, 0, none⟩ y0).setCell ⟨Y, 1, none⟩ y1).setCell ⟨Y, 2, none⟩ y2).setCell ⟨Y, 3, none⟩ y3).setCell ⟨Y, 4, none⟩ y4) X Y #[x0, x1, x2, x3, x4] #[y0, y1, y2, y3, y4] := by
  refine ⟨blk_set5 (blk5 hX _ _ _ _ _) hne _ _ _ _ _, blk5 (blk_set5 hY (fun e => hne e.symm) _ _ _ _ _) _ _ _ _ _, hle, hle', below_set5 (below_set5 hw hle _ _ _ _ _) hle' _ _ _ _ _, by simp, ?_⟩
  exact ((alike_set5 u X x0 x1 x2 x3 x4).mono fun b h => h.2.1).trans_ ((alike_set5 _ Y y0 y1 y2 y3 y4).mono fun b h => h.2.2) (by simp)
end

/-- The blocks that S names, and those behind g. -/
def QS (S : Nat → Prop) (g : Nat) (W : World) : Nat → Prop := fun b => S b ∨ (g < b ∧ b < W.heap.size)
/-- The blocks that S names and those made since w, but for a row's own. -/
def Else (S : Nat → Prop) (w w' : World) (v : Value) : Nat → Prop := fun b => Also S w w' b ∧ some b ≠ v.ownBlock
/-- How the document's own Over ends that tells x, ys and bo: in blocks that S names, or in memory that is new. -/
def ROEndS (w : World) (S : Nat → Prop) (x : Nm) (ys : List Nm) (bo : Bool) (e : Ending) (w' : World) : Prop :=
  ∃ D d c E m k A n ca, e = .returned (.tuple #[nmV x.id D d c x.txt E m k, .slice A n ca, .bool bo]) ∧ NG w' (Else S w w' (.slice A n ca)) D d c E m k x ∧ ys.length = n ∧ OwnT w' (Else S w w' (.slice A n ca)) w.heap.size (.slice A n ca) ys ∧ Below w.heap.size w w'
/-- How it ends, in short. -/
def ROEnd (w : World) (x : Nm) (ys : List Nm) (bo : Bool) (e : Ending) (w' : World) : Prop :=
  ∃ D d c E m k A n ca, e = .returned (.tuple #[nmV x.id D d c x.txt E m k, .slice A n ca, .bool bo]) ∧ NV w' w'.heap.size D d c E m k x ∧ ys.length = n ∧ n ≤ ca ∧ RdN w' w'.heap.size A ys ∧ Below w.heap.size w w'
theorem ownT_nil (W : World) (S : Nat → Prop) (base : Nat) : OwnT W S base (.slice none 0 0) [] := ⟨[], World.ownsRow_nil _ _ _ _, fun k x hx => by simp at hx⟩
theorem OwnT.base {W : World} {S : Nat → Prop} {b b' : Nat} {v : Value} {l : List Nm} (h : OwnT W S b v l) (hb : b' ≤ b) : OwnT W S b' v l := by
  obtain ⟨xs, h1, h2⟩ := h
  exact ⟨xs, own_mono h1 hb, h2⟩
theorem ROEndS.short {w w' : World} {S : Nat → Prop} {x : Nm} {ys : List Nm} {bo : Bool} {e : Ending} (hS : ∀ b, S b → b < w.heap.size) (h : ROEndS w S x ys bo e w') : ROEnd w x ys bo e w' := by
  obtain ⟨D, d, c, E, m, k, A, n, ca, h0, h1, h2, h3, h4⟩ := h
  have up : ∀ b, Else S w w' (.slice A n ca) b → b < w'.heap.size := fun b hb => by
    rcases hb.1 with h | h
    · exact Nat.lt_of_lt_of_le (hS b h) h4.size
    · exact h.2
  obtain ⟨A', c', e', g1, g2⟩ := rdN_ownT h3 up
  rw [h2] at e' g1
  injection e' with e1 e2 e3
  subst e1 e3
  exact ⟨D, d, c, E, m, k, A, n, ca, h0, (h1.mono up).nv, h2, g1, g2, h4⟩

end Tg
end Go.Proofs.Ytdnkinajbebkoaa

namespace Go.Proofs.Ytdnkinajbebkoaa
open Go.RowKit
set_option linter.unusedVariables false
set_option linter.unusedSimpArgs false
namespace Tg
open Tx Df Sq Hk Tr Pr Fl Pn

end Tg
end Go.Proofs.Ytdnkinajbebkoaa

set_option maxRecDepth 100000
namespace Go.Proofs.Ytdnkinajbebkoaa
open Go.RowKit
set_option linter.unusedVariables false
namespace Bb
open Tx Df Sq Hk Tr Pr Fl Pn Tg

/-- The blocks there are that are no row's of the two. -/
def PS (W : World) (v u : Value) : Nat → Prop := fun b => b < W.heap.size ∧ some b ≠ v.ownBlock ∧ some b ≠ u.ownBlock
/-- Two rows of patches, made since w. -/
structure Rows2 (w W : World) (v u : Value) (s g : List Nm) : Prop where
  a : Tg.OwnT W (PS W v u) w.heap.size v s
  b : Tg.OwnT W (PS W v u) w.heap.size u g
  ne : ∀ k, v.ownBlock = some k → u.ownBlock ≠ some k
  bw : Below w.heap.size w W
section
variable {w W W' : World} {v u v' u' : Value} {s g t : List Nm}
theorem ps_swap : ∀ b, PS W v u b → PS W u v b := fun b h => ⟨h.1, h.2.2, h.2.1⟩
theorem ps_size (hs : W.heap.size ≤ W'.heap.size) : ∀ b, PS W v u b → PS W' v u b := fun b h => ⟨Nat.lt_of_lt_of_le h.1 hs, h.2⟩
theorem Rows2.swap (h : Rows2 w W v u s g) : Rows2 w W u v g s := ⟨h.b.mono ps_swap, h.a.mono ps_swap, fun k e e' => h.ne k e' e, h.bw⟩
theorem Rows2.below (h : Rows2 w W v u s g) (hb : Below W.heap.size W W') : Rows2 w W' v u s g := ⟨(h.a.below hb).mono (ps_size hb.size), (h.b.below hb).mono (ps_size hb.size), h.ne, below_mv h.bw hb⟩
/-- What is older than both lies in no row of theirs. -/
theorem Rows2.old (h : Rows2 w W v u s g) : ∀ b, b < w.heap.size → PS W v u b := fun b hb =>
  ⟨Nat.lt_of_lt_of_le hb h.bw.size, fun e => by have := Tg.ownT_ge h.a b e.symm; omega, fun e => by have := Tg.ownT_ge h.b b e.symm; omega⟩
/-- Appended onto the first one. -/
theorem Rows2.app (h : Rows2 w W v u s g) (ho : Tg.OwnT W' (PS W v u) w.heap.size v' t) (hg : W.grownBy W' v.ownBlock) (hw : ∀ b, v'.ownBlock = some b → v.ownBlock = some b ∨ W.heap.size ≤ b) : Rows2 w W' v' u t g := by
  have up : ∀ b, PS W v u b → PS W' v' u b := fun b hb => ⟨Nat.lt_of_lt_of_le hb.1 hg.size, fun e => by
    rcases hw b e.symm with h | h
    · exact hb.2.1 h.symm
    · have := hb.1; omega, hb.2.2⟩
  refine ⟨ho.mono up, (h.b.other hg ?_ fun b hb => hb.2.1).mono up, fun k e e' => ?_, h.bw.grown hg h.bw.size (fun k e => Tg.ownT_ge h.a k e)⟩
  · cases e : u.ownBlock with
    | none => exact .inl rfl
    | some k => exact .inr fun e' => h.ne k e'.symm e
  · rcases hw k e with h1 | h1
    · exact h.ne k h1 e'
    · have := Tg.ownT_lt h.b k e'; omega
theorem else_ps (h : Rows2 w W v u s g) (hx : Tg.OwnT W' (Else (PS W v u) W W' u') W.heap.size u' t) (hb : Below W.heap.size W W') : ∀ b, Else (PS W v u) W W' u' b → PS W' v u' b := fun b hq => by
  rcases hq.1 with h1 | h1
  · exact ⟨Nat.lt_of_lt_of_le h1.1 hb.size, h1.2.1, hq.2⟩
  · exact ⟨h1.2, fun e => by have := Tg.ownT_lt h.a b e.symm; omega, hq.2⟩
/-- Another one in the second one's place. -/
theorem Rows2.over (h : Rows2 w W v u s g) (hx : Tg.OwnT W' (Else (PS W v u) W W' u') W.heap.size u' t) (hb : Below W.heap.size W W') : Rows2 w W' v u' s t := by
  refine ⟨(h.a.below hb).mono fun b hq => ⟨Nat.lt_of_lt_of_le hq.1 hb.size, hq.2.1, fun e => ?_⟩, (hx.mono (else_ps h hx hb)).base h.bw.size, fun k e e' => ?_, below_mv h.bw hb⟩
  · have := Tg.ownT_ge hx b e.symm; have := hq.1; omega
  · have := Tg.ownT_ge hx k e'; have := Tg.ownT_lt h.a k e; omega
theorem ps_lt : ∀ b, PS W v u b → b < W.heap.size := fun b h => h.1
end

/-- How a function ends that tells two lists of patches. -/
def PartEnd (w : World) (s g : List Nm) (e : Ending) (w' : World) : Prop :=
  ∃ A1 n1 c1 A2 n2 c2, e = .returned (.tuple #[.slice A1 n1 c1, .slice A2 n2 c2]) ∧ s.length = n1 ∧ n1 ≤ c1 ∧ RdN w' w'.heap.size A1 s ∧ g.length = n2 ∧ n2 ≤ c2 ∧ RdN w' w'.heap.size A2 g ∧ Below w.heap.size w w'
theorem Rows2.end_ {w W : World} {A1 A2 : Option Addr} {n1 c1 n2 c2 : Nat} {s g : List Nm} (h : Rows2 w W (.slice A1 n1 c1) (.slice A2 n2 c2) s g) : PartEnd w s g (.returned (.tuple #[.slice A1 n1 c1, .slice A2 n2 c2])) W := by
  obtain ⟨A, c, e, h1, h2⟩ := rdN_ownT h.a ps_lt
  injection e with e1 e2 e3
  subst e1 e2 e3
  obtain ⟨A, c, e, g1, g2⟩ := rdN_ownT h.b ps_lt
  injection e with e1 e2 e3
  subst e1 e2 e3
  exact ⟨_, _, _, _, _, _, rfl, rfl, h1, h2, rfl, g1, g2, h.bw⟩

end Bb
end Go.Proofs.Ytdnkinajbebkoaa

set_option maxRecDepth 100000
namespace Go.Proofs.Ytdnkinajbebkoaa
open Go.RowKit
set_option linter.unusedVariables false
namespace Bb
open Tx Df Sq Hk Tr Pr Fl Pn Tg

/-- All that there was is as it was, but for the blocks that R names. -/
structure Mine (R : Nat → Prop) (W W' : World) : Prop where
  os : W'.os = W.os
  tape : W'.tape = W.tape
  output : W'.output = W.output
  size : W.heap.size ≤ W'.heap.size
  block : ∀ k, k < W.heap.size → ¬ R k → W'.heap[k]? = W.heap[k]?
section
variable {R T : Nat → Prop} {W W' X : World}
theorem Mine.refl (R : Nat → Prop) (W : World) : Mine R W W := ⟨rfl, rfl, rfl, Nat.le_refl _, fun _ _ _ => rfl⟩
theorem mine_below (h : Below W.heap.size W W') : Mine R W W' := ⟨h.os, h.tape, h.output, h.size, fun k hk _ => h.block k hk⟩
theorem mine_grown {row : Option Nat} (h : W.grownBy W' row) (hr : ∀ k, row = some k → R k) : Mine R W W' := ⟨h.os, h.tape, h.output, h.size, fun k hk hn => h.block k hk fun e => hn (hr k e.symm)⟩
theorem mine_set (W : World) {b : Nat} (hR : R b) (j : Nat) (x : Value) : Mine R W (W.setCell ⟨b, j, none⟩ x) := mine_grown (grownBy_set W b j x) fun k e => by injection e with e; exact e ▸ hR
theorem Mine.trans (h : Mine R W X) (k : Mine T X W') (hT : ∀ b, T b → R b ∨ W.heap.size ≤ b) : Mine R W W' :=
  ⟨k.os.trans h.os, k.tape.trans h.tape, k.output.trans h.output, Nat.le_trans h.size k.size, fun b hb hn => (k.block b (Nat.lt_of_lt_of_le hb h.size) fun e => (hT b e).elim hn (fun h => by omega)).trans (h.block b hb hn)⟩
theorem Mine.mono (h : Mine R W W') (hT : ∀ b, R b → T b) : Mine T W W' := ⟨h.os, h.tape, h.output, h.size, fun b hb hn => h.block b hb fun e => hn (hT b e)⟩
theorem Mine.setn (h : Mine R W X) {b : Nat} (hb : R b ∨ W.heap.size ≤ b) (j : Nat) (x : Value) : Mine R W (X.setCell ⟨b, j, none⟩ x) := h.trans (mine_set (R := fun c => c = b) X rfl j x) (fun c e => e ▸ hb)
theorem Mine.set5 (h : Mine R W X) {b : Nat} (hb : R b ∨ W.heap.size ≤ b) (v0 v1 v2 v3 v4 : Value) : Mine R W (((((X.setCell ⟨b, 0, none⟩ v0).setCell ⟨b, 1, none⟩ v1).setCell ⟨b, 2, none⟩ v2).setCell ⟨b, 3, none⟩ v3).setCell ⟨b, 4, none⟩ v4) :=
  ((((h.setn hb 0 v0).setn hb 1 v1).setn hb 2 v2).setn hb 3 v3).setn hb 4 v4
theorem Mine.blk {b : Nat} {t : TypeId} {cs : Array Value} (h : Mine R W W') (hb : Blk W b t cs) (hn : ¬ R b) : Blk W' b t cs := (h.block b hb.lt hn).trans hb
theorem Mine.keeps (h : Mine R W W') (hR : ∀ b, R b → ∃ c t f, W.heap[b]? = some (.cells c t f)) (B : Nat) : KeepsFrom B W W' := ⟨h.size, fun k o _ hk ho => by
  refine (h.block k (Array.getElem?_eq_some_iff.1 hk).1 fun e => ?_).trans hk
  obtain ⟨c, t, f, e'⟩ := hR k e
  rw [hk] at e'
  cases e'
  cases ho⟩
theorem Mine.below {n : Nat} {w : World} (h : Mine R W W') (hb : Below n w W) (hR : ∀ b, R b → n ≤ b) (hn : n ≤ W.heap.size) : Below n w W' :=
  ⟨h.os.trans hb.os, h.tape.trans hb.tape, h.output.trans hb.output, Nat.le_trans hb.size h.size, fun k hk => (h.block k (by omega) fun e => by have := hR k e; omega).trans (hb.block k hk)⟩
theorem Mine.cells5 {A : Option Addr} {m : Nat} (h : Mine R W W') (hc : Cells5 W A m) (hA : ∀ a, A = some a → ¬ R a.block) : Cells5 W' A m := fun i hi => by
  obtain ⟨a, v0, v1, v2, v3, v4, rfl, c0, c1, c2, c3, c4⟩ := hc i hi
  have key : ∀ {p : Addr} {u : Value}, p.block = a.block → W.cell? p = some u → W'.cell? p = some u := fun {p u} e hu => (World.cell?_of_block (h.block p.block (World.block_lt_of_cell? W p hu) (by rw [e]; exact hA a rfl))).trans hu
  exact ⟨a, v0, v1, v2, v3, v4, rfl, key (add_block _ _) c0, key (add_block _ _) c1, key (add_block _ _) c2, key (add_block _ _) c3, key (add_block _ _) c4⟩
end

/-- The blocks there are that are no row's of the two, and that R does not name. -/
def PR (R : Nat → Prop) (W : World) (v u : Value) : Nat → Prop := fun b => b < W.heap.size ∧ ¬ R b ∧ some b ≠ v.ownBlock ∧ some b ≠ u.ownBlock
/-- Two rows of patches, made since w, beside the blocks that R names. -/
structure Rows3 (R : Nat → Prop) (w W : World) (v u : Value) (g s : List Nm) : Prop where
  a : Tg.OwnT W (PR R W v u) w.heap.size v g
  b : Tg.OwnT W (PR R W v u) w.heap.size u s
  ne : ∀ k, v.ownBlock = some k → u.ownBlock ≠ some k
  na : ∀ k, v.ownBlock = some k → ¬ R k
  nb : ∀ k, u.ownBlock = some k → ¬ R k
  bw : Below w.heap.size w W
  rl : ∀ k, R k → w.heap.size ≤ k ∧ k < W.heap.size
section
variable {R T : Nat → Prop} {w W W' : World} {v u v' u' : Value} {s g t : List Nm}
theorem pr_swap : ∀ b, PR R W v u b → PR R W u v b := fun b h => ⟨h.1, h.2.1, h.2.2.2, h.2.2.1⟩
theorem pr_size (hs : W.heap.size ≤ W'.heap.size) : ∀ b, PR R W v u b → PR R W' v u b := fun b h => ⟨Nat.lt_of_lt_of_le h.1 hs, h.2⟩
theorem pr_lt : ∀ b, PR R W v u b → b < W.heap.size := fun b h => h.1
theorem Rows3.swap (h : Rows3 R w W v u g s) : Rows3 R w W u v s g := ⟨h.b.mono pr_swap, h.a.mono pr_swap, fun k e e' => h.ne k e' e, h.nb, h.na, h.bw, h.rl⟩
theorem Rows3.below (h : Rows3 R w W v u g s) (hb : Below W.heap.size W W') : Rows3 R w W' v u g s :=
  ⟨(h.a.below hb).mono (pr_size hb.size), (h.b.below hb).mono (pr_size hb.size), h.ne, h.na, h.nb, below_mv h.bw hb, fun k e => ⟨(h.rl k e).1, Nat.lt_of_lt_of_le (h.rl k e).2 hb.size⟩⟩
/-- Other boxes, which are new. -/
theorem Rows3.more (h : Rows3 R w W v u g s) (hT : ∀ b, T b → R b ∨ W.heap.size ≤ b) (hb : Below W.heap.size W W') (hl : ∀ b, T b → b < W'.heap.size) : Rows3 T w W' v u g s := by
  have up : ∀ b, PR R W v u b → PR T W' v u b := fun b hq => ⟨Nat.lt_of_lt_of_le hq.1 hb.size, fun e => (hT b e).elim hq.2.1 (fun e => by have := hq.1; omega), hq.2.2⟩
  have lt1 : ∀ k, v.ownBlock = some k → k < W.heap.size := Tg.ownT_lt h.a
  have lt2 : ∀ k, u.ownBlock = some k → k < W.heap.size := Tg.ownT_lt h.b
  refine ⟨(h.a.below hb).mono up, (h.b.below hb).mono up, h.ne, fun k e e' => ?_, fun k e e' => ?_, below_mv h.bw hb, fun k e => ⟨?_, hl k e⟩⟩
  · rcases hT k e' with h1 | h1
    · exact h.na k e h1
    · have := lt1 k e; omega
  · rcases hT k e' with h1 | h1
    · exact h.nb k e h1
    · have := lt2 k e; omega
  · rcases hT k e with h1 | h1
    · exact (h.rl k h1).1
    · exact Nat.le_trans h.bw.size h1
/-- Fewer boxes. -/
theorem Rows3.less (h : Rows3 R w W v u g s) (hT : ∀ b, T b → R b) : Rows3 T w W v u g s := by
  have up : ∀ b, PR R W v u b → PR T W v u b := fun b hq => ⟨hq.1, fun e => hq.2.1 (hT b e), hq.2.2⟩
  exact ⟨h.a.mono up, h.b.mono up, h.ne, fun k e e' => h.na k e (hT k e'), fun k e e' => h.nb k e (hT k e'), h.bw, fun k e => h.rl k (hT k e)⟩
/-- A box is written. -/
theorem Rows3.set (h : Rows3 R w W v u g s) {b : Nat} (hb : R b) (j : Nat) (x : Value) : Rows3 R w (W.setCell ⟨b, j, none⟩ x) v u g s := by
  have hs : W.heap.size = (W.setCell ⟨b, j, none⟩ x).heap.size := by simp
  have up : ∀ c, PR R W v u c → PR R (W.setCell ⟨b, j, none⟩ x) v u c := pr_size (Nat.le_of_eq hs)
  exact ⟨(h.a.set (fun e => h.na b e.symm hb) (fun e => e.2.1 hb) j x).mono up, (h.b.set (fun e => h.nb b e.symm hb) (fun e => e.2.1 hb) j x).mono up, h.ne, h.na, h.nb, h.bw.setCell (p := ⟨b, j, none⟩) (h.rl b hb).1 x, fun k e => ⟨(h.rl k e).1, by rw [← hs]; exact (h.rl k e).2⟩⟩
theorem Rows3.set5 (h : Rows3 R w W v u g s) {b : Nat} (hb : R b) (v0 v1 v2 v3 v4 : Value) : Rows3 R w (((((W.setCell ⟨b, 0, none⟩ v0).setCell ⟨b, 1, none⟩ v1).setCell ⟨b, 2, none⟩ v2).setCell ⟨b, 3, none⟩ v3).setCell ⟨b, 4, none⟩ v4) v u g s :=
  ((((h.set hb 0 v0).set hb 1 v1).set hb 2 v2).set hb 3 v3).set hb 4 v4
/-- The first row is written, or appended onto. -/
theorem Rows3.app (h : Rows3 R w W v u g s) (ho : Tg.OwnT W' (PR R W v u) w.heap.size v' t) (hg : W.grownBy W' v.ownBlock) (hw : ∀ b, v'.ownBlock = some b → v.ownBlock = some b ∨ W.heap.size ≤ b) : Rows3 R w W' v' u t s := by
  have up : ∀ b, PR R W v u b → PR R W' v' u b := fun b hb => ⟨Nat.lt_of_lt_of_le hb.1 hg.size, hb.2.1, fun e => by
    rcases hw b e.symm with h | h
    · exact hb.2.2.1 h.symm
    · have := hb.1; omega, hb.2.2.2⟩
  refine ⟨ho.mono up, (h.b.other hg ?_ fun b hb => hb.2.2.1).mono up, fun k e e' => ?_, fun k e e' => ?_, h.nb, h.bw.grown hg h.bw.size (fun k e => Tg.ownT_ge h.a k e), fun k e => ⟨(h.rl k e).1, Nat.lt_of_lt_of_le (h.rl k e).2 hg.size⟩⟩
  · cases e : u.ownBlock with
    | none => exact .inl rfl
    | some k => exact .inr fun e' => h.ne k e'.symm e
  · rcases hw k e with h1 | h1
    · exact h.ne k h1 e'
    · have := Tg.ownT_lt h.b k e'; omega
  · rcases hw k e with h1 | h1
    · exact h.na k h1 e'
    · have := (h.rl k e').2; omega
/-- Another one, all of it new, in the first one's place. -/
theorem Rows3.over (h : Rows3 R w W v u g s) (hx : Tg.OwnT W' (fun b => Since W W' b ∧ some b ≠ v'.ownBlock) W.heap.size v' t) (hb : Below W.heap.size W W') : Rows3 R w W' v' u t s := by
  have lt2 : ∀ k, u.ownBlock = some k → k < W.heap.size := Tg.ownT_lt h.b
  have ge : ∀ k, v'.ownBlock = some k → W.heap.size ≤ k := Tg.ownT_ge hx
  have up1 : ∀ b, (Since W W' b ∧ some b ≠ v'.ownBlock) → PR R W' v' u b := fun b hq =>
    ⟨hq.1.2, fun e => by have := (h.rl b e).2; have := hq.1.1; omega, hq.2, fun e => by have := lt2 b e.symm; have := hq.1.1; omega⟩
  have up2 : ∀ b, PR R W v u b → PR R W' v' u b := fun b hq => ⟨Nat.lt_of_lt_of_le hq.1 hb.size, hq.2.1, fun e => by have := ge b e.symm; have := hq.1; omega, hq.2.2.2⟩
  exact ⟨(hx.mono up1).base h.bw.size, (h.b.below hb).mono up2, fun k e e' => by have := ge k e; have := lt2 k e'; omega, fun k e e' => by have := ge k e; have := (h.rl k e').2; omega, h.nb, below_mv h.bw hb, fun k e => ⟨(h.rl k e).1, Nat.lt_of_lt_of_le (h.rl k e).2 hb.size⟩⟩
/-- A block that is no row of cells is turned. -/
theorem Rows3.plain {row : Option Nat} (h : Rows3 R w W v u g s) (hg : W.grownBy W' row) (hr : ∀ r, row = some r → ∃ o : Obj, W.heap[r]? = some o ∧ o.isCells = false) (hB : ∀ r, row = some r → w.heap.size ≤ r) : Rows3 R w W' v u g s :=
  ⟨(h.a.plain hg hr).mono (pr_size hg.size), (h.b.plain hg hr).mono (pr_size hg.size), h.ne, h.na, h.nb, h.bw.grown hg h.bw.size hB, fun k e => ⟨(h.rl k e).1, Nat.lt_of_lt_of_le (h.rl k e).2 hg.size⟩⟩
/-- What is older than both lies in no row of theirs, and in no box. -/
theorem Rows3.old (h : Rows3 R w W v u g s) : ∀ b, b < w.heap.size → PR R W v u b := fun b hb =>
  ⟨Nat.lt_of_lt_of_le hb h.bw.size, fun e => by have := (h.rl b e).1; omega, fun e => by have := Tg.ownT_ge h.a b e.symm; omega, fun e => by have := Tg.ownT_ge h.b b e.symm; omega⟩
theorem rows3_nil (w : World) {W : World} (hb : Below w.heap.size w W) (hR : ∀ k, R k → w.heap.size ≤ k ∧ k < W.heap.size) : Rows3 R w W (.slice none 0 0) (.slice none 0 0) [] [] := ⟨Tg.ownT_nil _ _ _, Tg.ownT_nil _ _ _, fun k h => (by cases h), fun k h => (by cases h), fun k h => (by cases h), hb, hR⟩
theorem Rows3.rows (h : Rows3 R w W v u g s) : Rows2 w W v u g s := ⟨h.a.mono fun b hb => ⟨hb.1, hb.2.2⟩, h.b.mono fun b hb => ⟨hb.1, hb.2.2⟩, h.ne, h.bw⟩
/-- The blocks that a step of the kept row writes: its box, its row. -/
def RK (K : Nat) (v : Value) : Nat → Prop := fun b => b = K ∨ some b = v.ownBlock
theorem rk_cells {K : Nat} {t : TypeId} {cs : Array Value} (h : Rows3 R w W v u g s) (hb : Blk W K t cs) : ∀ b, RK K v b → ∃ c t f, W.heap[b]? = some (.cells c t f) := fun b hb' => by
  rcases hb' with rfl | e
  · exact ⟨_, _, _, hb⟩
  · obtain ⟨xs, hw, _⟩ := h.a
    rcases hw.2 with ⟨rfl, _⟩ | ⟨g, cap, cur, rfl, _, hgb, _⟩
    · cases e
    · injection e with e
      have e : b = g := e
      subst e
      exact ⟨_, _, _, hgb⟩
end

/-- What keep leaves. -/
def KeepEnd (R : Nat → Prop) (K : Nat) (w : World) (v u : Value) (g s : List Nm) (W : World) (e : Ending) (W' : World) : Prop :=
  ∃ v', e = .returned (.tuple #[]) ∧ Rows3 R w W' v' u g s ∧ Blk W' K 58 #[v'] ∧ Mine (RK K v) W W'
/-- What ahead and behind leave: the patch as it is then, and those that are kept. -/
def GoneEnd (R : Nat → Prop) (K : Nat) (w : World) (v u : Value) (g s : List Nm) (o : Option (Nm × List Nm)) (W : World) (e : Ending) (W' : World) : Prop :=
  ∃ D d c A m k v', e = .returned (.tuple #[nmV (o.getD (noN, g)).1.id D d c (o.getD (noN, g)).1.txt A m k, .bool o.isSome]) ∧ NG W' (PR R W' v' u) D d c A m k (o.getD (noN, g)).1 ∧ Rows3 R w W' v' u (o.getD (noN, g)).2 s ∧ Blk W' K 58 #[v'] ∧ Mine (fun b => b = K) W W'

end Bb
end Go.Proofs.Ytdnkinajbebkoaa

set_option maxRecDepth 100000
namespace Go.Proofs.Ytdnkinajbebkoaa
open Go.RowKit
set_option linter.unusedVariables false
set_option linter.unusedSimpArgs false
namespace Bb
open Tx Df Sq Hk Tr Pr Fl Pn Tg

/-- How own ends. -/
def OwnNEnd (w : World) (q : Nm) (dn m : Nat) (e : Ending) (w' : World) : Prop :=
  ∃ D c A d, e = .returned (nmV q.id D dn c q.txt A m d) ∧ NG w' (Since w w') D dn c A m d q ∧ Below w.heap.size w w'

set_option maxRecDepth 100000 in
set_option maxHeartbeats 4000000 in
theorem OwnNC (D : Option Addr) (dn dc : Nat) (E : Option Addr) (m k : Nat) (q : Nm) (w : World) (hm : m ≤ 1000) (hd : dn ≤ 100000) (hl : Lt q.l) (hv : NV w w.heap.size D dn dc E m k q) :
    Calls Try.prog 53 #[nmV q.id D dn dc q.txt E m k] w (OwnNEnd w q dn m) := by
  have b0 := (Blk.new w 45 #[.int .i64 q.id.1, .int .i64 q.id.2, .slice D dn dc, strV q.txt, .slice E m k]).alloc (.cells #[.int .i64 0, .int .i64 0, .slice none 0 0, .string ⟨#[]⟩, .slice none 0 0] 45)
  have b1 := Blk.new (w.alloc (.cells #[.int .i64 q.id.1, .int .i64 q.id.2, .slice D dn dc, strV q.txt, .slice E m k] 45)) 45 #[.int .i64 0, .int .i64 0, .slice none 0 0, .string ⟨#[]⟩, .slice none 0 0]
  have hba := two_box w (.cells #[.int .i64 q.id.1, .int .i64 q.id.2, .slice D dn dc, strV q.txt, .slice E m k] 45) (.cells #[.int .i64 0, .int .i64 0, .slice none 0 0, .string ⟨#[]⟩, .slice none 0 0] 45)
  simp only [World.size_alloc] at b1
  go_enter Try.func53, Try.ntmps53
  go_upto_region 1 with fail
  generalize ((w.alloc (.cells #[.int .i64 q.id.1, .int .i64 q.id.2, .slice D dn dc, strV q.txt, .slice E m k] 45)).alloc (.cells #[.int .i64 0, .int .i64 0, .slice none 0 0, .string ⟨#[]⟩, .slice none 0 0] 45)) = w1 at b0 b1 hba ⊢
  obtain ⟨z, hz⟩ : ∃ z, w.heap.size = z := ⟨_, rfl⟩
  have HV := Lib.hid (NV.mv hv hba)
  rw [hz] at b0 b1 ⊢
  have HB0 := Lib.hid b0; have HB1 := Lib.hid b1; have HBA := Lib.hid hba; have HZ := Lib.hid hz; have HM := Lib.hid hm; have HLQ := Lib.hid hl
  obtain ⟨N, hN⟩ : ∃ N, w1.heap.size = N := ⟨_, rfl⟩
  have HNW := Lib.hid hN
  have HA := Lib.hid (show Below w1.heap.size w1 (w1.alloc (.cells #[.int .i64 q.id.1, .int .i64 q.id.2, .slice D dn dc, strV q.txt, .slice E m k] 45)).drew from below_drewN ((Below.refl _ _).alloc (Nat.le_refl _) _) 1)
  have HBB := Lib.hid (show Below w1.heap.size w1 w1.drew from below_drewN (Below.refl _ _) 1)
  have HZA := Lib.hid (show Blk (w1.alloc (.cells #[.int .i64 q.id.1, .int .i64 q.id.2, .slice D dn dc, strV q.txt, .slice E m k] 45)).drew w1.heap.size 45 #[.int .i64 q.id.1, .int .i64 q.id.2, .slice D dn dc, strV q.txt, .slice E m k] from (Blk.new w1 _ _).drewN 1)
  have HSA := Lib.hid (RdI.mv HV.out.dr HA.out); have HSB := Lib.hid (RdI.mv HV.out.dr HBB.out)
  have HDL := Lib.hid HV.out.dl
  have HL1 : Hid (([] : List Id_).length + dn ≤ 100000) := Lib.hid (by simp; omega)
  have HLA : Hid (N ≤ (w1.alloc (.cells #[.int .i64 q.id.1, .int .i64 q.id.2, .slice D dn dc, strV q.txt, .slice E m k] 45)).drew.heap.size) := Lib.hid (by rw [← hN]; exact HA.out.size)
  have HLB : Hid (N ≤ w1.drew.heap.size) := Lib.hid (by rw [← hN]; exact HBB.out.size)
  have PA : Hid (∀ (X : World) (G : Nat), Below w1.heap.size w1 X → Blk X G 45 #[.int .i64 q.id.1, .int .i64 q.id.2, .slice D dn dc, strV q.txt, .slice E m k] → Calls Try.prog 43 #[.slice (some ⟨G, 0, none⟩) 1 1] X (fun e u => ∃ A c, e = .returned (.slice A m c) ∧ m ≤ c ∧ RdP u (Since X u) A q.l ∧ Below X.heap.size X u)) := Lib.hid (fun X G h1 h2 => first_all HM.out HLQ.out (HV.out.mv h1) h2)
  have PA0 := Lib.hid (PA.out _ _ HA.out HZA.out)
  have x0 := b0.cell 0 rfl; have x1 := b0.cell 1 rfl; have x2 := b0.cell 2 rfl; have x3 := b0.cell 3 rfl; have x4 := b0.cell 4 rfl; have zl := b0.lt
  clear b0 b1 hba hz hm hd hl hv hN
  go_region_law (first
    | ((with_reducible refine step_ownI (W := (w1.alloc (.cells #[.int .i64 q.id.1, .int .i64 q.id.2, .slice D dn dc, strV q.txt, .slice E m k] 45)).drew) (base := N) (c := dc) ?_ (.const (.slice none 0 0)) (.tmp 4) ?_ ?_ ?_ (ownI_nil _ N) HSA.out HDL.out HL1.out HLA.out ?_); rfl; rfl; rfl; rfl; intro v1 u1 ho hg; have hb1 := below_gr hg; have HU1 := Lib.hid (below_mv HA.out hb1); have HQ1 := Lib.hid (HZA.out.below hb1 HZA.out.lt); have PA1 := Lib.hid (PA.out _ _ HU1.out HQ1.out); obtain ⟨A2, c2, hv, hc2, hr2⟩ := rdI_own_hi ho; rw [List.nil_append] at hv hc2 hr2; rw [HDL.out] at hv hc2; subst hv; have HR2 := Lib.hid hr2; have HK2 := Lib.hid hc2; have HX1 := Lib.hid (Below.refl u1.heap.size u1); have pu := HB0.out.below HU1.out HB0.out.lt; have pu0 := pu.cell 0 rfl; have pu1 := pu.cell 1 rfl; have pu2 := pu.cell 2 rfl; have pu3 := pu.cell 3 rfl; have pu4 := pu.cell 4 rfl; have pul := pu.lt; clear hb1 ho hg hr2 hc2 pu)
    | ((with_reducible refine step_ownI (W := w1.drew) (base := N) (c := dc) ?_ (.const (.slice none 0 0)) (.tmp 4) ?_ ?_ ?_ (ownI_nil _ N) HSB.out HDL.out HL1.out HLB.out ?_); rfl; rfl; rfl; rfl; intro v1 u1 ho hg; have hb1 := below_gr hg; have HU0 := Lib.hid (below_mv HBB.out hb1); have hbx : Below u1.heap.size u1 (u1.alloc (.cells #[.int .i64 q.id.1, .int .i64 q.id.2, .slice D dn dc, strV q.txt, .slice E m k] 45)) := (Below.refl _ _).alloc (Nat.le_refl _) _; have HU1 := Lib.hid (below_mv HU0.out hbx); have PA1 := Lib.hid (PA.out _ _ HU1.out (Blk.new u1 45 #[.int .i64 q.id.1, .int .i64 q.id.2, .slice D dn dc, strV q.txt, .slice E m k])); obtain ⟨A2, c2, hv, hc2, hr2⟩ := rdI_own_hi ho; rw [List.nil_append] at hv hc2 hr2; rw [HDL.out] at hv hc2; subst hv; have HR2 := Lib.hid hr2; have HK2 := Lib.hid hc2; have HX1 := Lib.hid hbx; have pu := HB0.out.below HU0.out HB0.out.lt; have pu0 := pu.cell 0 rfl; have pu1 := pu.cell 1 rfl; have pu2 := pu.cell 2 rfl; have pu3 := pu.cell 3 rfl; have pu4 := pu.cell 4 rfl; have pul := pu.lt; clear hb1 hbx ho hg hr2 hc2 pu)
    | (go_simp; go_at_call 43; (with_reducible refine (PA1.out).mono ?_); rintro e u2 ⟨A1, c1, rfl, hk1, hr1, hb1⟩; have HU2 := Lib.hid (below_mv HU1.out hb1); have HR1 := Lib.hid (hr1.mono fun b h => (⟨Nat.le_trans HU1.out.size h.1, h.2⟩ : w1.heap.size ≤ b ∧ b < u2.heap.size)); have HK1 := Lib.hid hk1; have HD2 := Lib.hid ((HR2.out.to (fun b _ hl => (below_mv HX1.out hb1).block b hl)).mono fun b h => (⟨by have := HNW.out; have := h.1; omega, Nat.lt_of_lt_of_le h.2 (below_mv HX1.out hb1).size⟩ : w1.heap.size ≤ b ∧ b < u2.heap.size)); have pv := HB0.out.below HU2.out HB0.out.lt; have pv2 := pv.cell 2 rfl; have pv4 := pv.cell 4 rfl; have pf2 := pv.frozen 2; have pf4 := pv.frozen 4; have pvl := pv.lt; clear hb1 hr1 hk1 pv)
    | (go_simp; go_at_call 43; (with_reducible refine (PA0.out).mono ?_); rintro e u0 ⟨A1, c1, rfl, hk1, hr1, hb1⟩; have HU0 := Lib.hid (below_mv HA.out hb1); have HR0 := Lib.hid (hr1.mono fun b h => (⟨Nat.le_trans HA.out.size h.1, h.2⟩ : w1.heap.size ≤ b ∧ b < u0.heap.size)); have HK1 := Lib.hid hk1; have HSC := Lib.hid (RdI.mv HV.out.dr HU0.out); have HLC : Hid (N ≤ u0.heap.size) := Lib.hid (by rw [← HNW.out]; exact HU0.out.size); have pu := HB0.out.below HU0.out HB0.out.lt; have pu0 := pu.cell 0 rfl; have pu1 := pu.cell 1 rfl; have pu2 := pu.cell 2 rfl; have pu3 := pu.cell 3 rfl; have pu4 := pu.cell 4 rfl; have pul := pu.lt; clear hb1 hr1 hk1 pu)
    | ((with_reducible refine step_ownI (W := u0) (base := N) (c := dc) ?_ (.const (.slice none 0 0)) (.tmp 4) ?_ ?_ ?_ (ownI_nil _ N) HSC.out HDL.out HL1.out HLC.out ?_); rfl; rfl; rfl; rfl; intro v1 u2 ho hg; have hb1 := below_gr hg; have HU2 := Lib.hid (below_mv HU0.out hb1); obtain ⟨A2, c2, hv, hc2, hr2⟩ := rdI_own_hi ho; rw [List.nil_append] at hv hc2 hr2; rw [HDL.out] at hv hc2; subst hv; have HD2 := Lib.hid (hr2.mono fun b h => (⟨by have := HNW.out; have := h.1; omega, h.2⟩ : w1.heap.size ≤ b ∧ b < u2.heap.size)); have HK2 := Lib.hid hc2; have HR1 := Lib.hid ((HR0.out.to ((alike_below hb1).mono fun b h => h.2)).mono fun b h => (⟨h.1, Nat.lt_of_lt_of_le h.2 hb1.size⟩ : w1.heap.size ≤ b ∧ b < u2.heap.size)); have pv := HB0.out.below HU2.out HB0.out.lt; have pv2 := pv.cell 2 rfl; have pv4 := pv.cell 4 rfl; have pf2 := pv.frozen 2; have pf4 := pv.frozen 4; have pvl := pv.lt; clear hb1 ho hg hr2 hc2 pv))
  all_goals
    have b2 : Blk ((u2.setCell ⟨z, 2, none⟩ (.slice A2 dn c2)).setCell ⟨z, 4, none⟩ (.slice A1 m c1)) z 45 #[.int .i64 q.id.1, .int .i64 q.id.2, .slice A2 dn c2, strV q.txt, .slice A1 m c1] := ((HB0.out.below HU2.out HB0.out.lt).set 2 _).set 4 _
    have b3 : Blk ((u2.setCell ⟨z, 2, none⟩ (.slice A2 dn c2)).setCell ⟨z, 4, none⟩ (.slice A1 m c1)) (z + 1) 45 #[.int .i64 0, .int .i64 0, .slice none 0 0, .string ⟨#[]⟩, .slice none 0 0] := ((HB1.out.below HU2.out HB1.out.lt).set_ne (by omega) 2 _).set_ne (by omega) 4 _
    have hb3 : Below w.heap.size w ((u2.setCell ⟨z, 2, none⟩ (.slice A2 dn c2)).setCell ⟨z, 4, none⟩ (.slice A1 m c1)) := ((below_mv HBA.out HU2.out).setCell (p := ⟨z, 2, none⟩) (Nat.le_of_eq HZ.out) _).setCell (p := ⟨z, 4, none⟩) (Nat.le_of_eq HZ.out) _
    have hz1 : z + 1 < w1.heap.size := HB1.out.lt
    have al : Fl.Alike (· ≠ z) u2 ((u2.setCell ⟨z, 2, none⟩ (.slice A2 dn c2)).setCell ⟨z, 4, none⟩ (.slice A1 m c1)) := (alike_set u2 z 2 _).trans_ (alike_set _ z 4 _) (by simp)
    have hd3 := HD2.out.to (al.mono fun b h => by have := h.1; omega)
    have hr3 := HR1.out.to (al.mono fun b h => by have := h.1; omega)
    have hs3 : ((u2.setCell ⟨z, 2, none⟩ (.slice A2 dn c2)).setCell ⟨z, 4, none⟩ (.slice A1 m c1)).heap.size = u2.heap.size := by simp
    generalize ((u2.setCell ⟨z, 2, none⟩ (.slice A2 dn c2)).setCell ⟨z, 4, none⟩ (.slice A1 m c1)) = w3 at *
    have HZ1 := Lib.hid hz1; have HB3 := Lib.hid hb3; have HD3 := Lib.hid hd3; have HR3 := Lib.hid hr3; have HS3 := Lib.hid hs3; have B2 := Lib.hid b2; have B3 := Lib.hid b3
    clear hz1 hb3 hd3 hr3 hs3 b2 b3 al pv2 pv4 pf2 pf4 pvl x0 x1 x2 x3 x4 zl PA PA0
    have x0 := B2.out.cell 0 rfl; have x1 := B2.out.cell 1 rfl; have x2 := B2.out.cell 2 rfl; have x3 := B2.out.cell 3 rfl; have x4 := B2.out.cell 4 rfl
    have y0 := B3.out.cell 0 rfl; have y1 := B3.out.cell 1 rfl; have y2 := B3.out.cell 2 rfl; have y3 := B3.out.cell 3 rfl; have y4 := B3.out.cell 4 rfl
    have g0 := B3.out.frozen 0; have g1 := B3.out.frozen 1; have g2 := B3.out.frozen 2; have g3 := B3.out.frozen 3; have g4 := B3.out.frozen 4
    have hl0 := B2.out.lt; have hl1 := B3.out.lt
    go_wp2_with fail
    have b14 := Tg.blk5 B3.out (.int .i64 q.id.1) (.int .i64 q.id.2) (.slice A2 dn c2) (strV q.txt) (.slice A1 m c1)
    have hb4 := below_set5 HB3.out (show w.heap.size ≤ z + 1 by have := HZ.out; omega) (.int .i64 q.id.1) (.int .i64 q.id.2) (.slice A2 dn c2) (strV q.txt) (.slice A1 m c1)
    have al4 := alike_set5 w3 (z + 1) (.int .i64 q.id.1) (.int .i64 q.id.2) (.slice A2 dn c2) (strV q.txt) (.slice A1 m c1)
    have hd4 := HD3.out.to (al4.mono fun b h => by have := h.1; have := HZ1.out; omega)
    have hr4 := HR3.out.to (al4.mono fun b h => by have := h.1; have := HZ1.out; omega)
    have hs4 : (World.setCell (World.setCell (World.setCell (World.setCell (World.setCell w3 ⟨z + 1, 0, none⟩ (.int .i64 q.id.1)) ⟨z + 1, 1, none⟩ (.int .i64 q.id.2)) ⟨z + 1, 2, none⟩ (.slice A2 dn c2)) ⟨z + 1, 3, none⟩ (strV q.txt)) ⟨z + 1, 4, none⟩ (.slice A1 m c1)).heap.size = w3.heap.size := by simp
    generalize (World.setCell (World.setCell (World.setCell (World.setCell (World.setCell w3 ⟨z + 1, 0, none⟩ (.int .i64 q.id.1)) ⟨z + 1, 1, none⟩ (.int .i64 q.id.2)) ⟨z + 1, 2, none⟩ (.slice A2 dn c2)) ⟨z + 1, 3, none⟩ (strV q.txt)) ⟨z + 1, 4, none⟩ (.slice A1 m c1)) = w4 at *
    have t0 := b14.cell 0 rfl; have t1 := b14.cell 1 rfl; have t2 := b14.cell 2 rfl; have t3 := b14.cell 3 rfl; have t4 := b14.cell 4 rfl
    refine bodyPost_ret (v := .agg #[.int .i64 q.id.1, .int .i64 q.id.2, .slice A2 dn c2, strV q.txt, .slice A1 m c1]) (by simp [results, Try.results53, go_sem, t0, t1, t2, t3, t4]) rfl ?_
    have hw := HBA.out.size
    have hs3 := HS3.out
    exact ⟨A2, c2, A1, c1, rfl, ⟨HV.out.dl, HK2.out, HV.out.dm, hd4.mono fun b h => (⟨Nat.le_trans hw h.1, by have := h.2; omega⟩ : w.heap.size ≤ b ∧ b < w4.heap.size), HV.out.tm, HV.out.l, HK1.out, HV.out.m, hr4.mono fun b h => (⟨Nat.le_trans hw h.1, by have := h.2; omega⟩ : w.heap.size ≤ b ∧ b < w4.heap.size)⟩, hb4⟩

end Bb
end Go.Proofs.Ytdnkinajbebkoaa

set_option maxRecDepth 100000
namespace Go.Proofs.Ytdnkinajbebkoaa
open Go.RowKit
set_option linter.unusedVariables false
set_option linter.unusedSimpArgs false
namespace Tg
open Tx Df Sq Hk Tr Pr Fl Pn

def exB : Ch := ⟨0, [98], [], ⟨0, [], []⟩⟩
def exQ : Nm := ⟨(0, 2), [], [], [exB]⟩
theorem pg_exB (W : World) (S : Nat → Prop) : PG W S none 0 0 none 0 0 exB :=
  ⟨rfl, rfl, Nat.le_refl _, Nat.le_refl _, by decide, by decide, .inl rfl, .inl rfl, by unfold I64; decide, by unfold I64; decide, by decide, by decide, (fun x hx => by cases hx), (fun x hx => by cases hx)⟩
theorem nv_exQ {W : World} {N b : Nat} (h : RdP W (· < N) (some ⟨b, 0, none⟩) [exB]) : NV W N none 0 0 (some ⟨b, 0, none⟩) 1 1 exQ :=
  ⟨rfl, Nat.le_refl _, by decide, .inl rfl, by decide, rfl, Nat.le_refl _, by decide, h⟩
theorem lt_exN : Lt exN.l := fun x hx => by
  have : x = exA := by simpa [exN] using hx
  rw [this]
  decide
theorem lt_exB : Lt [exB] := fun x hx => by
  have : x = exB := by simpa using hx
  rw [this]
  decide
theorem lt_exQ : Lt exQ.l := lt_exB
instance : DecidableEq Nm := fun p q => decidable_of_iff (sameN p q = true) sameN_iff
theorem three_blk (w : World) (t0 t1 t2 : TypeId) (c0 c1 c2 : Array Value) : let W := ((w.alloc (.cells c0 t0)).alloc (.cells c1 t1)).alloc (.cells c2 t2)
    Blk W w.heap.size t0 c0 ∧ Blk W (w.heap.size + 1) t1 c1 ∧ Blk W (w.heap.size + 1 + 1) t2 c2 ∧ Below w.heap.size w W := by
  intro W
  have b0 := ((Blk.new w t0 c0).alloc (.cells c1 t1)).alloc (.cells c2 t2)
  have b1 := (Blk.new (w.alloc (.cells c0 t0)) t1 c1).alloc (.cells c2 t2)
  have b2 := Blk.new ((w.alloc (.cells c0 t0)).alloc (.cells c1 t1)) t2 c2
  simp only [World.size_alloc] at b1 b2
  exact ⟨b0, b1, b2, ((((Below.refl _ _).alloc (Nat.le_refl _) _).alloc (by simp) _).alloc (by simp; omega) _)⟩

end Tg
end Go.Proofs.Ytdnkinajbebkoaa

set_option maxRecDepth 100000
namespace Go.Proofs.Ytdnkinajbebkoaa
open Go.RowKit
set_option linter.unusedVariables false
namespace Tg
open Tx Df Sq Hk Tr Pr Fl Pn

theorem lightN_lt {p : Nm} {m : Nat} (h : lightN p m = true) : Lt p.l ∧ p.l.length ≤ m ∧ p.deps.length ≤ 100 := by
  have h0 := h
  unfold lightN fewP at h
  simp only [Bool.and_eq_true, decide_eq_true_eq, List.all_eq_true] at h
  exact ⟨fun x hx => okP_light (h.1.2 x hx), h.1.1, h.2.1⟩
theorem few_all {l : List Nm} {m : Nat} (h : fewN l m = true) : ∀ p ∈ l, Lt p.l ∧ p.l.length ≤ 10 ∧ p.deps.length ≤ 100 := fun p hp => lightN_lt (fewN_all h p hp)
/-- What two patches tell. -/
theorem outN_some {o : Option (Nm × Nm)} {x y : Nm} (h : outN o = (x, y)) (hs : o.isSome = true) : o = some (x, y) := by
  cases o with
  | none => cases hs
  | some z => exact congrArg some h
theorem outN_none {o : Option (Nm × Nm)} {x y : Nm} (h : outN o = (x, y)) (hs : o.isSome = false) : x = noN ∧ y = noN := by
  cases o with
  | none => injection h with h1 h2; exact ⟨h1.symm, h2.symm⟩
  | some z => cases hs
theorem noN_lt : Lt noN.l := fun x hx => by cases hx
/-- What is told is of few changes, and light. -/
theorem out_few {p q x y : Nm} {bo : Bool} (ho : outN (passN p q) = (x, y)) (hs : (passN p q).isSome = bo) (hp : Lt p.l ∧ p.l.length ≤ 10 ∧ p.deps.length ≤ 100) (hq : Lt q.l ∧ q.l.length ≤ 10 ∧ q.deps.length ≤ 100) :
    (Lt x.l ∧ x.l.length ≤ 10 ∧ x.deps.length ≤ 100) ∧ (Lt y.l ∧ y.l.length ≤ 10 ∧ y.deps.length ≤ 100) := by
  cases bo with
  | false =>
    obtain ⟨rfl, rfl⟩ := outN_none ho hs
    exact ⟨⟨noN_lt, Nat.zero_le _, Nat.zero_le _⟩, noN_lt, Nat.zero_le _, Nat.zero_le _⟩
  | true =>
    have h := outN_some ho hs
    obtain ⟨⟨_, a2, _, a4⟩, _, b2, _, b4⟩ := passN_keeps h
    obtain ⟨l1, l2⟩ := passN_lt h hp.1 hq.1
    exact ⟨⟨l1, by rw [a4]; exact hq.2.1, by rw [a2]; exact hq.2.2⟩, l2, by rw [b4]; exact hp.2.1, by rw [b2]; exact hp.2.2⟩

end Tg
end Go.Proofs.Ytdnkinajbebkoaa
