/-
  Words and contracts, joined: TgWords PnEx PnAll TgOver GK BbRow BbKept BbOwn TgAwake TgLaw TgList BbKeep BbUnder BbBehW BbAll BbRef BbSpW BbSplit.
-/
import Derived.Deep.RegionWith
import Derived.Deep.Cut
import Derived.Deep.RegionHeld3
import Derived.Laws.StructEq
import Derived.BigQuiet
import Derived.Deep.RegionLaw
import Derived.OwnWalkIn
import Derived.Test.YtdnkinajbebkoaaBS3
set_option maxRecDepth 100000
namespace Go.Proofs.Ytdnkinajbebkoaa
open Go.RowKit Go.Shelf
set_option linter.unusedVariables false
set_option linter.unusedSimpArgs false
namespace Tg
open Tx Df Sq Hk Tr Pr Rg Fl Pn

abbrev noC : Array Value := #[.int .i64 0, .int .i64 0, .slice none 0 0, .string ⟨#[]⟩, .slice none 0 0]
/-- What there was ahead of Over, and the blocks that it keeps for itself: boxes, the first one's box, the row, the row's box. -/
def OvR (z F g : Nat) : Nat → Prop := fun b => b < z + 4 ∨ b = F ∨ b = g ∨ b = g + 1
theorem overN_len {l m : List Nm} {q x : Nm} (h : overN l q = some (x, m)) : m.length = l.length := one_len passN h
theorem passN_lt {p q x y : Nm} (h : passN p q = some (x, y)) (hp : Lt p.l) (hq : Lt q.l) : Lt x.l ∧ Lt y.l := passF_lt (passN_inv h).2.1 hp hq
/-- What is told lies at places that patches may have. -/
structure OvI (w : World) (z F g n : Nat) (A : Option Addr) (l : List Nm) (q : Nm) (dn m j : Nat) (x : Nm) (post : List Nm) (D : Option Addr) (dc : Nat) (E : Option Addr) (k : Nat) (W : World) : Prop where
  pos : w.heap.size = z ∧ z + 4 ≤ F ∧ F < g
  eq : overN (l.drop j) q = some (x, post)
  lx : Lt x.l
  row : OwnT W (But W (OvR z F g)) w.heap.size (.slice (some ⟨g, 0, none⟩) n n) (List.replicate j noN ++ post)
  ng : NG W (But W (OvR z F g)) D dn dc E m k x
  bf : Blk W F 45 (nmC x D dn dc E m k)
  r0 : Blk W (z + 1) 45 noC
  r1 : Blk W (z + 1 + 1) 22 #[.slice none 0 0]
  r2 : Blk W (z + 1 + 1 + 1) 4 #[.bool false]
  bb : Blk W (g + 1) 22 #[.slice (some ⟨g, 0, none⟩) n n]
  ls : RdN W z A l
  fr : Below w.heap.size w W
def OvJ (w : World) (z F g n : Nat) (A : Option Addr) (l : List Nm) (q : Nm) (dn m : Nat) (pre : List Nat) (W : World) : Prop := ∃ x post D dc E k, OvI w z F g n A l q dn m (n - pre.length) x post D dc E k W
def OvX (w : World) (z : Nat) (l : List Nm) (q : Nm) (c : Code) (_ : List Nat) (W : World) : Prop :=
  c = .ret ∧ overN l q = none ∧ Blk W (z + 1) 45 noC ∧ Blk W (z + 1 + 1) 22 #[.slice none 0 0] ∧ Blk W (z + 1 + 1 + 1) 4 #[.bool false] ∧ Below w.heap.size w W

section
variable {W W' : World} {B : Nat} {A D E : Option Addr} {dn dc n c : Nat} {p : Nm} {l : List Nm}
theorem NV.kc_ (h : NV W B D dn dc A n c p) (hk : KeepC (fun _ => True) W W') : NV W' B D dn dc A n c p := ((ng_of h).kc fun b c t f _ hb => hk b c t f trivial hb).nv
theorem RdN.kc_ (h : RdN W B A l) (hk : KeepC (fun _ => True) W W') : RdN W' B A l := h.imp id fun ⟨a, e, h1, h2⟩ => ⟨a, e, h1, fun k x hx => by
  obtain ⟨c0, c1, c3, D, dn, dc, A, n, c, c2, c4, c5⟩ := h2 k x hx
  exact ⟨hk.cell trivial c0, hk.cell trivial c1, hk.cell trivial c3, D, dn, dc, A, n, c, hk.cell trivial c2, hk.cell trivial c4, NV.kc_ c5 hk⟩⟩
end
section
variable {w : World} {z F g n B : Nat} {A : Option Addr} {l : List Nm} {q : Nm} {dn m : Nat}
theorem ovJ_ab (hB : w.heap.size ≤ B) : Ab Plain B (OvJ w z F g n A l q dn m) := fun s W W' row hs hg hr => by
  obtain ⟨x, post, D, dc, E, k, h⟩ := hs
  have bl : ∀ {b : Nat} {t : TypeId} {cs : Array Value}, Blk W b t cs → Blk W' b t cs := fun h => ab_blk (β := Unit) (B := B) (fun _ => _) () W W' row h hg hr
  have kc : ∀ S, KeepC S W W' := fun S => keepC_plain hg (fun r e => (hr r e).2)
  exact ⟨x, post, D, dc, E, k, h.pos, h.eq, h.lx, (h.row.plain hg (fun r e => (hr r e).2)).mono (but_up hg.size), (h.ng.kc (kc _)).mono (but_up hg.size), bl h.bf, bl h.r0, bl h.r1, bl h.r2, bl h.bb, RdN.kc_ h.ls (kc _), h.fr.grown hg h.fr.size (fun r e => Nat.le_trans hB (hr r e).1)⟩
theorem ovX_ab (hB : w.heap.size ≤ B) (c : Code) : Ab Plain B (OvX w z l q c) := fun s W W' row hs hg hr => by
  obtain ⟨h1, h2, h3, h4, h5, h6⟩ := hs
  have bl : ∀ {b : Nat} {t : TypeId} {cs : Array Value}, Blk W b t cs → Blk W' b t cs := fun h => ab_blk (β := Unit) (B := B) (fun _ => _) () W W' row h hg hr
  exact ⟨h1, h2, bl h3, bl h4, bl h5, h6.grown hg h6.size (fun r e => Nat.le_trans hB (hr r e).1)⟩
end
/-- The values that are handed over, with the cells they come from. -/
theorem ab_EN {β : Type} {n : Nat} {A : Option Addr} {i : Nat} {vals : Array Value} {B : Nat} : Ab (β := β) Plain B (fun _ W => EN n A i vals W) := fun s W W' row hs hg hr => by
  have hk : KeepC (fun _ => True) W W' := keepC_plain hg (fun r e => (hr r e).2)
  obtain ⟨hi, a, v0, v1, v2, v3, v4, h1, h2, c0, c1, c2, c3, c4⟩ := hs
  exact ⟨hi, a, v0, v1, v2, v3, v4, h1, h2, hk.cell trivial c0, hk.cell trivial c1, hk.cell trivial c2, hk.cell trivial c3, hk.cell trivial c4⟩
theorem EN.rd {X : World} {B n i : Nat} {A : Option Addr} {l : List Nm} {vals : Array Value} (h : EN n A i vals X) (hr : RdN X B A l) (hl : l.length = n) :
    ∃ p D dn dc E m k, l[i]? = some p ∧ vals = #[.int .i64 (i : Int), .agg (nmC p D dn dc E m k)] ∧ NV X B D dn dc E m k p := by
  obtain ⟨hi, a, v0, v1, v2, v3, v4, rfl, rfl, c0, c1, c2, c3, c4⟩ := h
  obtain ⟨a', p, D, dn, dc, E, m, k, e, _, hp, g0, g1, g2, g3, g4, hv⟩ := hr.elem (k := i) (by omega)
  injection e with e
  subst e
  have e0 := Option.some.inj (c0.symm.trans g0)
  have e1 := Option.some.inj (c1.symm.trans g1)
  have e2 := Option.some.inj (c2.symm.trans g2)
  have e3 := Option.some.inj (c3.symm.trans g3)
  have e4 := Option.some.inj (c4.symm.trans g4)
  subst e0 e1 e2 e3 e4
  exact ⟨p, D, dn, dc, E, m, k, hp, rfl, hv⟩
theorem valsN_eq {i : Int} {v0 v1 v2 v3 v4 : Value} {p : Nm} {D E : Option Addr} {dn dc m k : Nat} (h : #[Value.int .i64 i, .agg #[v0, v1, v2, v3, v4]] = #[.int .i64 i, .agg (nmC p D dn dc E m k)]) :
    v0 = .int .i64 p.id.1 ∧ v1 = .int .i64 p.id.2 ∧ v2 = .slice D dn dc ∧ v3 = strV p.txt ∧ v4 = .slice E m k := by
  simpa using h

theorem rep_set {i : Nat} {post : List Nm} {y : Nm} : (List.replicate (i + 1) noN ++ post).set i y = List.replicate i noN ++ y :: post := by
  rw [List.replicate_succ', List.append_assoc, List.set_append_right _ _ (by simp), List.length_replicate, Nat.sub_self]
  rfl
theorem rep_len {i n : Nat} {l post : List Nm} {q x : Nm} (h : overN (l.drop i) q = some (x, post)) (hl : l.length = n) (hi : i ≤ n) : (List.replicate i noN ++ post).length = n := by
  rw [List.length_append, List.length_replicate, overN_len h, List.length_drop]; omega

section
variable {w W W' X : World} {r : Option Nat} {B b g k : Nat} {v0 v1 v2 v3 v4 : Value}
theorem keeps_set5 (W : World) (B b : Nat) (v0 v1 v2 v3 v4 : Value) : KeepsFrom B W (((((W.setCell ⟨b, 0, none⟩ v0).setCell ⟨b, 1, none⟩ v1).setCell ⟨b, 2, none⟩ v2).setCell ⟨b, 3, none⟩ v3).setCell ⟨b, 4, none⟩ v4) :=
  (((((KeepsOthers.setCell _ _ _).from B).trans ((KeepsOthers.setCell _ _ _).from B)).trans ((KeepsOthers.setCell _ _ _).from B)).trans ((KeepsOthers.setCell _ _ _).from B)).trans ((KeepsOthers.setCell _ _ _).from B)
theorem keeps_row5 (W : World) (B b k : Nat) (v0 v1 v2 v3 v4 : Value) : KeepsFrom B W (((((W.setCell ⟨b, k * 5, none⟩ v0).setCell ⟨b, k * 5 + 1, none⟩ v1).setCell ⟨b, k * 5 + 2, none⟩ v2).setCell ⟨b, k * 5 + 3, none⟩ v3).setCell ⟨b, k * 5 + 4, none⟩ v4) :=
  (((((KeepsOthers.setCell _ _ _).from B).trans ((KeepsOthers.setCell _ _ _).from B)).trans ((KeepsOthers.setCell _ _ _).from B)).trans ((KeepsOthers.setCell _ _ _).from B)).trans ((KeepsOthers.setCell _ _ _).from B)
end
theorem RdN.alk {W W' : World} {B : Nat} {A : Option Addr} {l : List Nm} (h : RdN W B A l) (ha : Fl.Alike (· < B) W W') : RdN W' B A l := h.imp id fun ⟨a, e, h1, h2⟩ => ⟨a, e, h1, fun k x hx => by
  obtain ⟨c0, c1, c3, D, dn, dc, A, n, c, c2, c4, c5⟩ := h2 k x hx
  have hk : (a.add (k * 5)).block < B := by rw [add_block]; exact h1
  exact ⟨Fl.cell_to ha hk c0, Fl.cell_to ha hk c1, Fl.cell_to ha hk c3, D, dn, dc, A, n, c, Fl.cell_to ha hk c2, Fl.cell_to ha hk c4, ((ng_of c5).to_ ha).nv⟩⟩

theorem OvI.mv {w W W' : World} {z F g n : Nat} {A : Option Addr} {l : List Nm} {q : Nm} {dn m j : Nat} {x : Nm} {post : List Nm} {D : Option Addr} {dc : Nat} {E : Option Addr} {k : Nat} (h : OvI w z F g n A l q dn m j x post D dc E k W) (hb : Below W.heap.size W W') : OvI w z F g n A l q dn m j x post D dc E k W' :=
  ⟨h.pos, h.eq, h.lx, (h.row.below hb).mono (but_up hb.size), (h.ng.to_ (fun b _ hl => hb.block b hl)).mono (but_up hb.size), h.bf.below hb h.bf.lt, h.r0.below hb h.r0.lt, h.r1.below hb h.r1.lt, h.r2.below hb h.r2.lt, h.bb.below hb h.bb.lt, h.ls.below (hb.mono (by have := h.pos; have := h.r0.lt; omega)), below_mv h.fr hb⟩

/-- A round that tells that the patch can't pass. -/
theorem over_no {w X w2 : World} {z F g n i : Nat} {A : Option Addr} {l : List Nm} {q x p : Nm} {dn m : Nat} {post : List Nm} {D : Option Addr} {dc : Nat} {E : Option Addr} {k B : Nat} {pre : List Nat} (hI : OvI w z F g n A l q dn m (i + 1) x post D dc E k X) (hb2 : Below X.heap.size X w2) (hx : l[i]? = some p) (hn : passN p x = none) (o o' : Obj) :
    KeepsFrom B X (((((World.setCell (World.setCell (World.setCell (World.setCell (World.setCell w2 ⟨z + 1, 0, none⟩ (.int .i64 0)) ⟨z + 1, 1, none⟩ (.int .i64 0)) ⟨z + 1, 2, none⟩ (.slice none 0 0)) ⟨z + 1, 3, none⟩ (.string ⟨#[]⟩)) ⟨z + 1, 4, none⟩ (.slice none 0 0)).setCell ⟨z + 1 + 1, 0, none⟩ (.slice none 0 0)).setCell ⟨z + 1 + 1 + 1, 0, none⟩ (.bool false)).alloc o).alloc o') ∧
    OvX w z l q .ret pre (((((World.setCell (World.setCell (World.setCell (World.setCell (World.setCell w2 ⟨z + 1, 0, none⟩ (.int .i64 0)) ⟨z + 1, 1, none⟩ (.int .i64 0)) ⟨z + 1, 2, none⟩ (.slice none 0 0)) ⟨z + 1, 3, none⟩ (.string ⟨#[]⟩)) ⟨z + 1, 4, none⟩ (.slice none 0 0)).setCell ⟨z + 1 + 1, 0, none⟩ (.slice none 0 0)).setCell ⟨z + 1 + 1 + 1, 0, none⟩ (.bool false)).alloc o).alloc o') := by
  have h0 := hI.r0.below hb2 hI.r0.lt
  have h1 := hI.r1.below hb2 hI.r1.lt
  have h2 := hI.r2.below hb2 hI.r2.lt
  have hz := hI.pos.1
  refine ⟨((((((keepsFrom_below B hb2).trans (keeps_set5 w2 B (z + 1) _ _ _ _ _)).trans ((KeepsOthers.setCell _ _ _).from B)).trans ((KeepsOthers.setCell _ _ _).from B)).trans ((KeepsOthers.alloc _ o).from B)).trans ((KeepsOthers.alloc _ o').from B)), rfl, one_step_none passN hx hI.eq hn, ?_, ?_, ?_, ?_⟩
  · exact ((((blk5 h0 (.int .i64 0) (.int .i64 0) (.slice none 0 0) (.string ⟨#[]⟩) (.slice none 0 0)).set_ne (by omega) 0 (.slice none 0 0)).set_ne (by omega) 0 (.bool false)).alloc o).alloc o'
  · exact ((((blk_set5 h1 (g := z + 1) (by omega) (.int .i64 0) (.int .i64 0) (.slice none 0 0) (.string ⟨#[]⟩) (.slice none 0 0)).set 0 (.slice none 0 0)).set_ne (by omega) 0 (.bool false)).alloc o).alloc o'
  · exact ((((blk_set5 h2 (g := z + 1) (by omega) (.int .i64 0) (.int .i64 0) (.slice none 0 0) (.string ⟨#[]⟩) (.slice none 0 0)).set_ne (by omega) 0 (.slice none 0 0)).set 0 (.bool false)).alloc o).alloc o'
  · have h5 := below_set5 (below_mv hI.fr hb2) (show w.heap.size ≤ z + 1 by omega) (.int .i64 0) (.int .i64 0) (.slice none 0 0) (.string ⟨#[]⟩) (.slice none 0 0)
    have h6 := (h5.setCell (p := ⟨z + 1 + 1, 0, none⟩) (show w.heap.size ≤ z + 1 + 1 by omega) (.slice none 0 0)).setCell (p := ⟨z + 1 + 1 + 1, 0, none⟩) (show w.heap.size ≤ z + 1 + 1 + 1 by omega) (.bool false)
    have h7 := h6.alloc h6.size o
    exact h7.alloc h7.size o'

/-- A round in which both pass: first the patch is stored, then the one of the list. -/
theorem over_mid {w X w2 w4 : World} {z F g n i : Nat} {A : Option Addr} {l : List Nm} {q x x1 y1 : Nm} {dn m : Nat} {post : List Nm} {D : Option Addr} {dc : Nat} {E : Option Addr} {k : Nat} {D1 E1 D2 E2 : Option Addr} {c1 k1 d2 c2 m2 k2 : Nat}
    (hI : OvI w z F g n A l q dn m (i + 1) x post D dc E k X) (hb2 : Below X.heap.size X w2) (hb4 : Below w2.heap.size w2 w4) (n1 : NG w2 (Since X w2) D1 dn c1 E1 m k1 x1) (n2 : NG w2 (Since X w2) D2 d2 c2 E2 m2 k2 y1) :
    let w6 := ((((w4.setCell ⟨F, 0, none⟩ (.int .i64 x1.id.1)).setCell ⟨F, 1, none⟩ (.int .i64 x1.id.2)).setCell ⟨F, 2, none⟩ (.slice D1 dn c1)).setCell ⟨F, 3, none⟩ (strV x1.txt)).setCell ⟨F, 4, none⟩ (.slice E1 m k1)
    OwnT w6 (But w6 (OvR z F g)) w.heap.size (.slice (some ⟨g, 0, none⟩) n n) (List.replicate (i + 1) noN ++ post) ∧ NG w6 (But w6 (OvR z F g)) D1 dn c1 E1 m k1 x1 ∧ NG w6 (But w6 (OvR z F g)) D2 d2 c2 E2 m2 k2 y1 ∧
    Blk w6 F 45 (nmC x1 D1 dn c1 E1 m k1) ∧ Blk w6 (z + 1) 45 noC ∧ Blk w6 (z + 1 + 1) 22 #[.slice none 0 0] ∧ Blk w6 (z + 1 + 1 + 1) 4 #[.bool false] ∧ Blk w6 (g + 1) 22 #[.slice (some ⟨g, 0, none⟩) n n] ∧ RdN w6 z A l ∧ Below w.heap.size w w6 ∧
    (∀ B, KeepsFrom B X w6) ∧ (∀ Bs v, Bs ≠ F → Boxed X Bs 22 v → Boxed w6 Bs 22 v) := by
  intro w6
  obtain ⟨hz, hF, hFg⟩ := hI.pos
  have hX : g + 1 < X.heap.size := hI.bb.lt
  have hb : Below X.heap.size X w4 := hb2.trans (hb4.mono hb2.size)
  have hs4 : w4.heap.size = w6.heap.size := by simp [w6]
  have h2 : w2.heap.size ≤ w4.heap.size := hb4.size
  have hS : ∀ b, Since X w2 b → But w4 (OvR z F g) b := fun b h => ⟨by have := h.2; omega, fun e => by have := h.1; rcases e with e | e | e | e <;> omega⟩
  have hne : ∀ b, But w4 (OvR z F g) b → b ≠ F := fun b h e => h.2 (.inr (.inl e))
  have al := (alike_set5 w4 F (.int .i64 x1.id.1) (.int .i64 x1.id.2) (.slice D1 dn c1) (strV x1.txt) (.slice E1 m k1))
  have up := but_up (R := OvR z F g) (Nat.le_of_eq hs4)
  have l0 := hI.r0.lt; have l1 := hI.r1.lt; have l2 := hI.r2.lt; have l3 := hI.bf.lt
  refine ⟨?_, ?_, ?_, ?_, ?_, ?_, ?_, ?_, ?_, ?_, ?_, ?_⟩
  · exact (((hI.row.below hb).mono (but_up hb.size)).set5 (b := F) (fun e => by injection e with e; have e : F = g := e; omega) (fun h => hne _ h rfl) _ _ _ _ _).mono up
  · exact (((n1.to_ (fun b h hl => hb4.block b hl)).mono hS).to_ (al.mono hne)).mono up
  · exact (((n2.to_ (fun b h hl => hb4.block b hl)).mono hS).to_ (al.mono hne)).mono up
  · exact blk5 (hI.bf.below hb l3) _ _ _ _ _
  · exact blk_set5 (hI.r0.below hb l0) (by omega) _ _ _ _ _
  · exact blk_set5 (hI.r1.below hb l1) (by omega) _ _ _ _ _
  · exact blk_set5 (hI.r2.below hb l2) (by omega) _ _ _ _ _
  · exact blk_set5 (hI.bb.below hb hX) (by omega) _ _ _ _ _
  · exact RdN.alk (hI.ls.below (hb.mono (by omega))) (al.mono fun b hb => by omega)
  · exact below_set5 (below_mv hI.fr hb) (by omega) _ _ _ _ _
  · exact fun B => (keepsFrom_below B hb).trans (keeps_set5 _ _ _ _ _ _ _ _)
  · exact fun Bs v hB hv => blk_set5 (Blk.below (show Blk X Bs 22 #[v] from hv) hb hv.lt) (by omega) _ _ _ _ _

theorem over_fin {w w6 : World} {z F g n i : Nat} {A : Option Addr} {l : List Nm} {q x p x1 y1 : Nm} {dn m : Nat} {post : List Nm} {D1 E1 D2 E2 : Option Addr} {c1 k1 d2 c2 m2 k2 : Nat}
    (hp : w.heap.size = z ∧ z + 4 ≤ F ∧ F < g) (he : overN (l.drop (i + 1)) q = some (x, post)) (hlx : Lt x.l) (hx : l[i]? = some p) (hlp : Lt p.l) (hn : l.length = n) (hs : passN p x = some (x1, y1))
    (h1 : OwnT w6 (But w6 (OvR z F g)) w.heap.size (.slice (some ⟨g, 0, none⟩) n n) (List.replicate (i + 1) noN ++ post)) (h2 : NG w6 (But w6 (OvR z F g)) D1 dn c1 E1 m k1 x1) (h3 : NG w6 (But w6 (OvR z F g)) D2 d2 c2 E2 m2 k2 y1)
    (h4 : Blk w6 F 45 (nmC x1 D1 dn c1 E1 m k1)) (h5 : Blk w6 (z + 1) 45 noC) (h6 : Blk w6 (z + 1 + 1) 22 #[.slice none 0 0]) (h7 : Blk w6 (z + 1 + 1 + 1) 4 #[.bool false]) (h8 : Blk w6 (g + 1) 22 #[.slice (some ⟨g, 0, none⟩) n n]) (h9 : RdN w6 z A l) (h10 : Below w.heap.size w w6) :
    let w9 := ((((w6.setCell ⟨g, i * 5, none⟩ (.int .i64 y1.id.1)).setCell ⟨g, i * 5 + 1, none⟩ (.int .i64 y1.id.2)).setCell ⟨g, i * 5 + 2, none⟩ (.slice D2 d2 c2)).setCell ⟨g, i * 5 + 3, none⟩ (strV y1.txt)).setCell ⟨g, i * 5 + 4, none⟩ (.slice E2 m2 k2)
    OvI w z F g n A l q dn m i x1 (y1 :: post) D1 c1 E1 k1 w9 ∧ (∀ B, KeepsFrom B w6 w9) ∧ (∀ Bs v, Bs ≠ g → Boxed w6 Bs 22 v → Boxed w9 Bs 22 v) := by
  intro w9
  obtain ⟨hz, hF, hFg⟩ := hp
  have hi : i < l.length := (List.getElem?_eq_some_iff.1 hx).1
  have hs9 : w6.heap.size = w9.heap.size := by simp [w9]
  have hne : ∀ b, But w6 (OvR z F g) b → b ≠ g := fun b h e => h.2 (.inr (.inr (.inl e)))
  have up := but_up (R := OvR z F g) (Nat.le_of_eq hs9)
  have al := alike_row5 w6 g i (.int .i64 y1.id.1) (.int .i64 y1.id.2) (.slice D2 d2 c2) (strV y1.txt) (.slice E2 m2 k2)
  have hrow : OwnT w9 (But w9 (OvR z F g)) w.heap.size (.slice (some ⟨g, 0, none⟩) n n) (List.replicate i noN ++ y1 :: post) := by
    have := (h1.store (k := i) (rep_len he hn (by omega)) (fun h => hne _ h rfl) h3).mono up
    rw [rep_set] at this
    exact this
  refine ⟨⟨⟨hz, hF, hFg⟩, one_step passN hx he hs, (passN_lt hs hlp hlx).1, hrow, ?_, ?_, ?_, ?_, ?_, ?_, ?_, ?_⟩, fun B => keeps_row5 _ _ _ _ _ _ _ _ _, fun Bs v hB hv => ?_⟩
  · exact (h2.to_ (al.mono hne)).mono up
  · exact blk_row5 h4 (by omega) i _ _ _ _ _
  · exact blk_row5 h5 (by omega) i _ _ _ _ _
  · exact blk_row5 h6 (by omega) i _ _ _ _ _
  · exact blk_row5 h7 (by omega) i _ _ _ _ _
  · exact blk_row5 h8 (by omega) i _ _ _ _ _
  · exact RdN.alk h9 (al.mono fun b hb => by omega)
  · exact below_row5 h10 (by omega) i _ _ _ _ _
  · exact blk_row5 (show Blk w6 Bs 22 #[v] from hv) hB i _ _ _ _ _

/-- The row that is made: patches that have nothing. -/
theorem made_at {c : Array Value} {n i : Nat} (hi : i < n) : (madeCells c n)[i]? = some c[i % c.size]! := by
  unfold madeCells
  rw [Array.getElem?_map, Array.getElem?_range, if_pos hi]
  rfl
theorem ownT_made (W : World) (n : Nat) (S : Nat → Prop) (hn : n ≤ 1000) : OwnT (W.alloc (.cells (madeCells noC (n * 5)) 45)) S W.heap.size (.slice (some ⟨W.heap.size, 0, none⟩) n n) (List.replicate n noN) := by
  have hrow := World.ownsRow_lit (base := W.heap.size) (e := 45) (size := 5) W (madeCells noC (n * 5)) n (Nat.le_refl _) (by unfold maxLen; omega) (by rw [size_madeCells])
  refine ⟨_, by rw [List.length_replicate]; exact hrow, fun k x hx => ?_⟩
  have hk := (List.getElem?_eq_some_iff.1 hx).1
  rw [List.length_replicate] at hk
  rw [List.getElem?_replicate, if_pos hk] at hx
  injection hx with hx
  subst hx
  have key : ∀ j, j < 5 → (madeCells noC (n * 5)).toList[k * 5 + j]? = some noC[j]! := fun j hj => by
    rw [Array.getElem?_toList, made_at (by omega)]
    have e : (k * 5 + j) % noC.size = j := by
      show (k * 5 + j) % 5 = j
      omega
    rw [e]
  exact ⟨none, 0, 0, none, 0, 0, key 0 (by decide), key 1 (by decide), key 2 (by decide), key 3 (by decide), key 4 (by decide), ng_no _ _⟩

/-- The memory in which the range begins. -/
theorem over_start {w w1 wc : World} {z F n dn m c k : Nat} {A D E : Option Addr} {l : List Nm} {q : Nm} (hz : w.heap.size = z) (hw1 : w1.heap.size = z + 4) (hbw : Below w.heap.size w w1)
    (r0 : Blk w1 (z + 1) 45 noC) (r1 : Blk w1 (z + 1 + 1) 22 #[.slice none 0 0]) (r2 : Blk w1 (z + 1 + 1 + 1) 4 #[.bool false])
    (hbf : Blk wc F 45 (nmC q D dn c E m k)) (hng : NG wc (fun b => w1.heap.size ≤ b ∧ b < wc.heap.size ∧ b ≠ F) D dn c E m k q) (hF : w1.heap.size ≤ F) (hb : Below w1.heap.size w1 wc) (hls : RdN w w.heap.size A l) (hl : l.length = n) (hn : n ≤ 1000) (hlq : Lt q.l) (c' : Nat) :
    let w5 := ((wc.alloc (.cells (madeCells noC (n * 5)) 45)).alloc (.cells #[.slice (some ⟨wc.heap.size, 0, none⟩) n n] 22)).alloc (.cells #[.slice A n c'] 22)
    OvJ w z F wc.heap.size n A l q dn m [] w5 ∧ Boxed w5 (wc.heap.size + 1 + 1) 22 (.slice A n c') ∧ w5.heap.size = wc.heap.size + 3 ∧ Cells5 w5 A n := by
  intro w5
  have hwc : w1.heap.size ≤ wc.heap.size := hb.size
  have h5 : Below wc.heap.size wc w5 := (((Below.refl _ _).alloc (Nat.le_refl _) _).alloc (by simp) _).alloc (by simp; omega) _
  have hsz : w5.heap.size = wc.heap.size + 3 := by simp [w5]
  have hall : Below w1.heap.size w1 w5 := below_mv hb h5
  have hbb := (Blk.new (wc.alloc (.cells (madeCells noC (n * 5)) 45)) 22 #[.slice (some ⟨wc.heap.size, 0, none⟩) n n]).alloc (.cells #[.slice A n c'] 22)
  have hbx := Boxed.new ((wc.alloc (.cells (madeCells noC (n * 5)) 45)).alloc (.cells #[.slice (some ⟨wc.heap.size, 0, none⟩) n n] 22)) 22 (.slice A n c')
  simp only [World.size_alloc] at hbb hbx
  have hFl := hbf.lt
  have hmd := ownT_made wc n (But w5 (OvR z F wc.heap.size)) hn
  have hm2 : Below (wc.alloc (.cells (madeCells noC (n * 5)) 45)).heap.size (wc.alloc (.cells (madeCells noC (n * 5)) 45)) w5 := ((Below.refl _ _).alloc (Nat.le_refl _) _).alloc (by simp) _
  have hls5 : RdN w5 z A l := by
    rw [← hz]
    exact hls.below (below_mv hbw hall)
  refine ⟨⟨q, [], D, c, E, k, ⟨hz, by omega, hFl⟩, ?_, hlq, ?_, ?_, hbf.below h5 hFl, r0.below hall r0.lt, r1.below hall r1.lt, r2.below hall r2.lt, hbb, hls5, below_mv hbw hall⟩, hbx, hsz, cells5_rd hls5 hl⟩
  · rw [List.length_nil, Nat.sub_zero, List.drop_of_length_le (by rw [hl]; exact Nat.le_refl _)]; rfl
  · rw [List.length_nil, Nat.sub_zero, List.append_nil]
    obtain ⟨xs, x1, x2⟩ := hmd.below hm2
    exact ⟨xs, own_mono x1 (Nat.le_trans hbw.size hwc), x2⟩
  · refine (hng.to_ ((alike_below h5).mono fun b hb => hb.2.1)).mono fun b hb => ⟨by have := hb.2.1; omega, fun e => ?_⟩
    have h1 := hb.1; have h2 := hb.2.1; have h3 := hb.2.2
    rcases e with e | e | e | e <;> omega

/-- How Over ends that tells x, ys and bo: in memory that is new, the list in a row of one's own. -/
def NOverEnd (w : World) (x : Nm) (ys : List Nm) (bo : Bool) (e : Ending) (w' : World) : Prop :=
  ∃ D d c E m k v, e = .returned (.tuple #[nmV x.id D d c x.txt E m k, v, .bool bo]) ∧ NG w' (fun b => Since w w' b ∧ some b ≠ v.ownBlock) D d c E m k x ∧ OwnT w' (fun b => Since w w' b ∧ some b ≠ v.ownBlock) w.heap.size v ys ∧ Below w.heap.size w w'
def outO (o : Option (Nm × List Nm)) : Nm × List Nm := o.getD (noN, [])

theorem over_put {w W : World} {E : Nat} (hE : w.heap.size ≤ E) (hK : W.heap[E]? = some (.deferred (some []))) (hb : Below w.heap.size w W) : Below w.heap.size w (W.putObj E (.deferred none)) ∧ (∀ b t cs, Blk W b t cs → Blk (W.putObj E (.deferred none)) b t cs) ∧
    (∀ S base v l, OwnT W S base v l → OwnT (W.putObj E (.deferred none)) S base v l) ∧ (∀ S D dn dc A n c x, NG W S D dn dc A n c x → NG (W.putObj E (.deferred none)) S D dn dc A n c x) ∧ W.heap.size = (W.putObj E (.deferred none)).heap.size := by
  have hp := grownBy_putObj' W E (.deferred none)
  have hr : ∀ r, some E = some r → ∃ o : Obj, W.heap[r]? = some o ∧ o.isCells = false := fun r e => by injection e with e; subst e; exact ⟨_, hK, rfl⟩
  refine ⟨hb.grown hp hb.size (fun r e => by injection e with e; omega), fun b t cs h => h.gr hp (fun e => ?_), fun S base v l h => h.plain hp hr, fun S D dn dc A n c x h => h.kc (keepC_plain hp hr), by simp⟩
  injection e with e
  subst e
  rw [show W.heap[b]? = _ from h] at hK
  cases hK

theorem over_done {w W : World} {z F g n E : Nat} {A : Option Addr} {l : List Nm} {q x : Nm} {dn m : Nat} {post : List Nm} {D : Option Addr} {dc : Nat} {Ad : Option Addr} {k : Nat}
    (hI : OvI w z F g n A l q dn m 0 x post D dc Ad k W) (hE : w.heap.size ≤ E) (hK : W.heap[E]? = some (.deferred (some []))) :
    let W9 := ((World.setCell (World.setCell (World.setCell (World.setCell (World.setCell W ⟨z + 1, 0, none⟩ (.int .i64 x.id.1)) ⟨z + 1, 1, none⟩ (.int .i64 x.id.2)) ⟨z + 1, 2, none⟩ (.slice D dn dc)) ⟨z + 1, 3, none⟩ (strV x.txt)) ⟨z + 1, 4, none⟩ (.slice Ad m k)).setCell ⟨z + 1 + 1, 0, none⟩ (.slice (some ⟨g, 0, none⟩) n n)).setCell ⟨z + 1 + 1 + 1, 0, none⟩ (.bool true)
    W9.heap[E]? = some (.deferred (some [])) ∧ Blk (W9.putObj E (.deferred none)) (z + 1) 45 (nmC x D dn dc Ad m k) ∧ Blk (W9.putObj E (.deferred none)) (z + 1 + 1) 22 #[.slice (some ⟨g, 0, none⟩) n n] ∧ Blk (W9.putObj E (.deferred none)) (z + 1 + 1 + 1) 4 #[.bool true] ∧
      NG (W9.putObj E (.deferred none)) (fun b => Since w (W9.putObj E (.deferred none)) b ∧ some b ≠ (Value.slice (some ⟨g, 0, none⟩) n n).ownBlock) D dn dc Ad m k x ∧ OwnT (W9.putObj E (.deferred none)) (fun b => Since w (W9.putObj E (.deferred none)) b ∧ some b ≠ (Value.slice (some ⟨g, 0, none⟩) n n).ownBlock) w.heap.size (.slice (some ⟨g, 0, none⟩) n n) post ∧ Below w.heap.size w (W9.putObj E (.deferred none)) := by
  intro W9
  obtain ⟨hz, hF, hFg⟩ := hI.pos
  have hsz : W.heap.size = W9.heap.size := by simp [W9]
  have hne : ∀ b, But W (OvR z F g) b → ¬ b < z + 4 := fun b h e => h.2 (.inl e)
  have k9 : W9.heap[E]? = some (.deferred (some [])) := (((keeps_set5 W E (z + 1) _ _ _ _ _).trans ((KeepsOthers.setCell _ _ _).from E)).trans ((KeepsOthers.setCell _ _ _).from E)).same E _ (Nat.le_refl _) hK rfl
  have h5 := below_set5 hI.fr (show w.heap.size ≤ z + 1 by omega) (.int .i64 x.id.1) (.int .i64 x.id.2) (.slice D dn dc) (strV x.txt) (.slice Ad m k)
  have g9 : Below w.heap.size w W9 := (h5.setCell (p := ⟨z + 1 + 1, 0, none⟩) (show w.heap.size ≤ z + 1 + 1 by omega) _).setCell (p := ⟨z + 1 + 1 + 1, 0, none⟩) (show w.heap.size ≤ z + 1 + 1 + 1 by omega) _
  obtain ⟨p1, p2, p3, p4, p5⟩ := over_put hE k9 g9
  have hrow := hI.row
  rw [List.replicate_zero, List.nil_append] at hrow
  have up : ∀ b, But W (OvR z F g) b → Since w (W9.putObj E (.deferred none)) b ∧ some b ≠ (Value.slice (some ⟨g, 0, none⟩) n n).ownBlock := fun b h => ⟨⟨by have := hne b h; omega, by have := h.1; omega⟩, fun e => h.2 (.inr (.inr (.inl (by injection e))))⟩
  have hv : ∀ b, b < z + 4 → some b ≠ (Value.slice (some ⟨g, 0, none⟩) n n).ownBlock := fun b hb e => by injection e with e; have e : b = g := e; omega
  refine ⟨k9, p2 _ _ _ ?_, p2 _ _ _ ?_, p2 _ _ _ ?_, (p4 _ _ _ _ _ _ _ _ ?_).mono up, (p3 _ _ _ _ ?_).mono up, p1⟩
  · exact ((blk5 hI.r0 _ _ _ _ _).set_ne (by omega) 0 _).set_ne (by omega) 0 _
  · exact ((blk_set5 hI.r1 (g := z + 1) (by omega) _ _ _ _ _).set 0 (.slice (some ⟨g, 0, none⟩) n n)).set_ne (by omega) 0 _
  · exact ((blk_set5 hI.r2 (g := z + 1) (by omega) _ _ _ _ _).set_ne (by omega) 0 _).set 0 (.bool true)
  · exact ((hI.ng.to_ ((alike_set5 W (z + 1) _ _ _ _ _).mono fun b h e => hne b h (by omega))).to_ ((alike_set _ _ _ _).mono fun b h e => hne b h (by omega))).to_ ((alike_set _ _ _ _).mono fun b h e => hne b h (by omega))
  · exact ((hrow.set5 (hv _ (by omega)) (fun h => hne _ h (by omega)) _ _ _ _ _).set (hv _ (by omega)) (fun h => hne _ h (by omega)) 0 _).set (hv _ (by omega)) (fun h => hne _ h (by omega)) 0 _

end Tg
end Go.Proofs.Ytdnkinajbebkoaa

set_option maxRecDepth 100000
namespace Go.Proofs.Ytdnkinajbebkoaa
open Go.RowKit
set_option linter.unusedVariables false
namespace Pn
open Tx Df Sq Hk Tr Pr Fl

def exA : Ch := ⟨0, [97], [], ⟨0, [], []⟩⟩
def exN : Nm := ⟨(0, 1), [], [], [exA]⟩
/-- One change in a block of its own is read as a list. -/
theorem rdP_lone {W : World} {S : Nat → Prop} {b : Nat} {A B : Option Addr} {n c m d : Nat} {x : Ch} (h : Blk W b 54 #[.int .i64 x.k, strV x.nm, strV x.to, .int .i64 x.h.pos, .slice A n c, .slice B m d]) (hp : PG W S A n c B m d x) (hS : S b) : RdP W S (some ⟨b, 0, none⟩) [x] :=
  .inr ⟨_, rfl, hS, fun k y hy => by
    cases k with
    | zero =>
      injection hy with hy
      subst hy
      have e : (⟨b, 0, none⟩ : Addr).add (0 * 6) = ⟨b, 0, none⟩ := rfl
      exact ⟨by rw [e]; exact h.cell 0 rfl, by rw [e]; exact h.cell 1 rfl, by rw [e]; exact h.cell 2 rfl, by rw [e]; exact h.cell 3 rfl, A, n, c, B, m, d, by rw [e]; exact h.cell 4 rfl, by rw [e]; exact h.cell 5 rfl, hp⟩
    | succ k => simp at hy⟩
/-- One patch in a block of its own is read as a list. -/
theorem rdN_lone {W : World} {N b : Nat} {D A : Option Addr} {dn dc n c : Nat} {x : Nm} (h : Blk W b 45 #[.int .i64 x.id.1, .int .i64 x.id.2, .slice D dn dc, strV x.txt, .slice A n c]) (hp : NV W N D dn dc A n c x) (hb : b < N) : RdN W N (some ⟨b, 0, none⟩) [x] :=
  .inr ⟨_, rfl, hb, fun k y hy => by
    cases k with
    | zero =>
      injection hy with hy
      subst hy
      have e : (⟨b, 0, none⟩ : Addr).add (0 * 5) = ⟨b, 0, none⟩ := rfl
      exact ⟨by rw [e]; exact h.cell 0 rfl, by rw [e]; exact h.cell 1 rfl, by rw [e]; exact h.cell 3 rfl, D, dn, dc, A, n, c, by rw [e]; exact h.cell 2 rfl, by rw [e]; exact h.cell 4 rfl, hp⟩
    | succ k => simp at hy⟩
theorem pg_ex (W : World) (S : Nat → Prop) : PG W S none 0 0 none 0 0 exA :=
  ⟨rfl, rfl, Nat.le_refl _, Nat.le_refl _, by decide, by decide, .inl rfl, .inl rfl, by unfold I64; decide, by unfold I64; decide, by decide, by decide, (fun x hx => by cases hx), (fun x hx => by cases hx)⟩
theorem nv_ex {W : World} {N b : Nat} (h : RdP W (· < N) (some ⟨b, 0, none⟩) [exA]) : NV W N none 0 0 (some ⟨b, 0, none⟩) 1 1 exN :=
  ⟨rfl, Nat.le_refl _, by decide, .inl rfl, by decide, rfl, Nat.le_refl _, by decide, h⟩

end Pn
end Go.Proofs.Ytdnkinajbebkoaa

set_option maxRecDepth 100000
namespace Go.Proofs.Ytdnkinajbebkoaa
open Go.RowKit
set_option linter.unusedVariables false
set_option linter.unusedSimpArgs false
namespace Pn
open Tx Df Sq Hk Tr Pr Fl

theorem allN_split {l : List Nm} {k : Nat} {x : Nm} (hx : l[k]? = some x) : allN l = allN (l.take k) ++ (x.l ++ allN (l.drop (k + 1))) := by
  have h1 : l = l.take k ++ x :: l.drop (k + 1) := by rw [← drop_at hx, List.take_append_drop]
  rw [← allN_cons, ← allN_app, ← h1]
theorem allN_pre {l : List Nm} {k j N : Nat} {x : Nm} (hx : l[k]? = some x) (hN : (allN l).length ≤ N) : (allN (l.take k) ++ x.l.take j).length ≤ N := by
  rw [allN_split hx] at hN
  simp only [List.length_append, List.length_take] at hN ⊢
  omega
theorem allN_len {l : List Nm} {k : Nat} {x : Nm} (hx : l[k]? = some x) : x.l.length ≤ (allN l).length := by
  rw [allN_split hx]
  simp only [List.length_append]
  omega
theorem allN_mem {l : List Nm} {k : Nat} {x : Nm} {q : Ch} (hx : l[k]? = some x) (hq : q ∈ x.l) : q ∈ allN l := by
  rw [allN_split hx]
  exact List.mem_append_right _ (List.mem_append_left _ hq)
theorem allN_next {l : List Nm} {k : Nat} {x : Nm} (hx : l[k]? = some x) : allN (l.take (k + 1)) = allN (l.take k) ++ x.l := by
  rw [take_at hx, allN_app]
  unfold allN
  simp
/-- Blocks made behind w that are not the row. -/
def NewIn (w W : World) (row : Option Nat) : Nat → Prop := fun b => w.heap.size ≤ b ∧ b < W.heap.size ∧ some b ≠ row
theorem newIn_up {w W W' : World} {row : Option Nat} (hs : W.heap.size ≤ W'.heap.size) : ∀ b, NewIn w W row b → NewIn w W' row b := fun b h => ⟨h.1, Nat.lt_of_lt_of_le h.2.1 hs, h.2.2⟩
/-- Changes in a row of one's own, their lines in memory made behind w. -/
abbrev OwnF (w W : World) (v : Value) (l : List Ch) : Prop := OwnS W (NewIn w W v.ownBlock) w.heap.size v l
section
variable {w W W' : World} {v : Value} {l u : List Ch}
theorem ownF_nil (w W : World) : OwnF w W (.slice none 0 0) [] := ⟨[], World.ownsRow_nil _ _ _ _, PCells.nil _ _ _⟩
theorem OwnF.below (h : OwnF w W v l) (hb : Below W.heap.size W W') : OwnF w W' v l := by
  obtain ⟨xs, h1, h2⟩ := h
  exact ⟨xs, own_gr h1 (below_gr_row hb), (h2.to (fun b _ hl => hb.block b hl)).mono (newIn_up hb.size)⟩
theorem run_ownF {ty : TypeId} {m c : Nat} {A : Option Addr} {ys : List Value} (h : OwnF w W v l) (hu : PCells W (NewIn w W v.ownBlock) u ys) (hyl : ys.length = u.length * 6) (hsrc : ∃ a, A = some a ∧ ∀ (j : Nat) x, ys[j]? = some x → W.cell? (a.add j) = some x)
    (hm : u.length = m) (h0 : 0 < m) (hn : l.length + m ≤ 100000) (hbase : w.heap.size ≤ W.heap.size) :
    ∃ v' W', (Builtin.append_ #[43, 43] ty #[v, .slice A m c]).run Try.prog W = .ok v' W' ∧ OwnF w W' v' (l ++ u) ∧ W.grownBy W' v.ownBlock := by
  obtain ⟨i0, hi0, hz0, hz1, hz2⟩ := info_parts info_prim
  obtain ⟨xs, hrow, hF⟩ := h
  have h1 := one6 hu hyl
  obtain ⟨a, rfl, hcell⟩ := hsrc
  obtain ⟨g, cap, W', hr, r1, r2, r3, r4⟩ := run_append_lies (P := Try.prog) (w := W) 43 ty w.heap.size 54 i0 _ 6 96 Try.underlying43 hi0 hz0 hz1 hz2 rfl (by decide) v l.length xs hrow a m c ys (by rw [hyl, hm]) hcell h1 (by omega) (by unfold maxLen; omega) (by omega) hbase W.heap.size rfl
  refine ⟨_, W', hr, ⟨xs ++ ys, by rw [List.length_append, hm]; exact r1, ?_⟩, r2⟩
  have hJ := (hF.append hrow.1 hu)
  have al : Fl.Alike (NewIn w W v.ownBlock) W W' := (alike_gr r2).mono fun b hb => hb.2.2
  refine (hJ.to al).mono fun b hb => ⟨hb.1, Nat.lt_of_lt_of_le hb.2.1 r2.size, ?_⟩
  rcases r3 with r3 | r3
  · rw [r3] at hb; exact hb.2.2
  · intro e
    injection e with e
    have e' : b = g := e
    have := hb.2.1
    omega
theorem wpList_ownF {ops : Array Oper} {rest : List Oper} {o : Oper} {a : Act} {Q : Exit → Act → World → Prop} (hgd : o.guard = none) (s x : Operand)
    (ho : o.op = .call { callee := .builtin .append, args := #[s, x], argTypes := #[43, 43] })
    (w : World) (m c : Nat) (v : Value) (A : Option Addr) (l u : List Ch) (ys : List Value) (hs : a.eval s = v) (hx : a.eval x = .slice A m c) (h : OwnF w W v l) (hu : PCells W (NewIn w W v.ownBlock) u ys) (hyl : ys.length = u.length * 6) (hsrc : ∃ a, A = some a ∧ ∀ (j : Nat) x, ys[j]? = some x → W.cell? (a.add j) = some x)
    (hm : u.length = m) (h0 : 0 < m) (hn : l.length + m ≤ 100000) (hbase : w.heap.size ≤ W.heap.size)
    (hK : ∀ v' W', OwnF w W' v' (l ++ u) → W.grownBy W' v.ownBlock → wpList Try.prog ops Q rest (a.put o.dst v') W') : wpList Try.prog ops Q (o :: rest) a W := by
  refine wpList_plain hgd fun K hK' => ?_
  obtain ⟨v', W', hrun, h2, h3⟩ := run_ownF (ty := o.type) (c := c) h hu hyl hsrc hm h0 hn hbase
  unfold Oper.wp execOp
  simp only [ho, resolve, invoke, builtin, Sem.run_bind, Sem.run_pure, Result.andThen_ok, List.map_toArray, List.map_cons, List.map_nil, hs, hx, hrun]
  exact hK' _ _ (hK v' W' h2 h3)
end

theorem ownC (A : Option Addr) (n c B : Nat) (ls : List (List UInt8)) (w : World) (hn : ls.length = n) (hle : n ≤ 100000) (hB : B ≤ w.heap.size) (hR : RdS w B A ls) :
    Calls Try.prog 61 #[.slice A n c] w (CopyLEnd w n ls) := by
  obtain ⟨j0, hj, hy0, hy1, hy2⟩ := info_parts info_str
  have HR := Lib.hid hR; have HN := Lib.hid hn
  clear hR hn
  go_enter Try.func61, Try.ntmps61
  go_wp2_with (at_builtin; refine wpList_nil' rfl (.const (.slice none 0 0)) (.tmp 3) 50 rfl 9 j0 (.string ⟨#[]⟩) 16 Try.underlying50 hj hy0 hy1 hy2 rfl rfl B A n c (ls.map strV) rfl (by rw [List.length_map]; exact HN.out) HR.out (strs_one _) (by unfold maxLen; omega) (by omega) ?_; intro D1 d1 w1 hA hg; have HA := Lib.hid hA; have HG := Lib.hid hg; clear hA hg)
  go_ret
  obtain ⟨A', c', e, hc, hr⟩ := rd_of_own HA.out
  injection e with e1 e2 e3
  subst e1 e3
  exact ⟨D1, d1, rfl, hc, hr, hi_own HA.out, HG.out⟩

set_option maxRecDepth 100000 in
set_option maxHeartbeats 8000000 in
theorem AllN (A : Option Addr) (n c : Nat) (l : List Nm) (w : World) (hn : l.length = n) (hle : n ≤ 100000) (hT : (allN l).length ≤ 1000) (hl : Lt (allN l)) (hR : RdN w w.heap.size A l) :
    Calls Try.prog 43 #[.slice A n c] w (LPHi w (allN l)) := by
  have HR := Lib.hid hR; have HN := Lib.hid hn; have HL := Lib.hid hl; have HT := Lib.hid hT
  clear hR hn hl hT
  go_enter Try.func43, Try.ntmps43
  go_wp2
  go_loopw [3, 10] (fun v3 i wr => ∃ (k : Nat) (A3 : Option Addr) (m3 f3 : Nat), k ≤ n ∧ i = .int .i64 (k : Int) ∧ v3 = .slice A3 m3 f3 ∧ OwnF w wr (.slice A3 m3 f3) (allN (l.take k)) ∧ Below w.heap.size w wr) (fun _ i _ => n - (intOf i).toNat)
  case atStart => exact ⟨0, none, 0, 0, Nat.zero_le _, rfl, rfl, ownF_nil _ _, Below.refl _ _⟩
  case round =>
    obtain ⟨k, A3, m3, f3, hk, rfl, rfl, hO, hbw⟩ := hrel
    have HBW := Lib.hid hbw; have HO := Lib.hid hO; clear hbw hO
    by_cases hlt : k < n
    · have hki : (k : Int) < (n : Int) := by omega
      obtain ⟨a, x, D, i, j, E, m, d, rfl, hS, hx, c0, c1, c2, c3, c4, c5⟩ := (HR.out.elem (k := k) (by rw [HN.out]; exact hlt))
      have hsb : (a.add (k * 5)).block < w.heap.size := by rw [add_block]; exact hS
      replace c0 := cellB c0 HBW.out hsb; replace c1 := cellB c1 HBW.out hsb; replace c2 := cellB c2 HBW.out hsb; replace c3 := cellB c3 HBW.out hsb; replace c4 := cellB c4 HBW.out hsb
      have HX := Lib.hid hx
      have HBA := Lib.hid (show Below wr.heap.size wr (wr.alloc (.cells #[.int .i64 x.id.1, .int .i64 x.id.2, .slice D i j, strV x.txt, .slice E m d] 45)) from (Below.refl _ _).alloc (Nat.le_refl _) _)
      have HXL := Lib.hid c5.l
      have HXR := Lib.hid c5.r
      have hm1 : m ≤ 1000 := by have h1 := allN_len HX.out; have h2 := HT.out; have h3 := HXL.out; omega
      have HO1 := Lib.hid (HO.out.below HBA.out)
      have HBW1 := Lib.hid (below_mv HBW.out HBA.out)
      clear hx c5 hS HO hsb
      go_wp2_with fail
      clear c0 c1 c2 c3 c4
      generalize (wr.alloc (.cells #[.int .i64 x.id.1, .int .i64 x.id.2, .slice D i j, strV x.txt, .slice E m d] 45)) = w1 at HBA HO1 HBW1 ⊢
      clear HBA HBW
      go_loopw [3, 17] (fun v3 i wr => ∃ (k2 : Nat) (A3 : Option Addr) (m3 f3 : Nat), k2 ≤ m ∧ i = .int .i64 (k2 : Int) ∧ v3 = .slice A3 m3 f3 ∧ OwnF w wr (.slice A3 m3 f3) (allN (l.take k) ++ x.l.take k2) ∧ Below w.heap.size w wr) (fun _ i _ => m - (intOf i).toNat)
      case atStart => exact ⟨0, A3, m3, f3, Nat.zero_le _, rfl, rfl, by rw [List.take_zero, List.append_nil]; exact HO1.out, HBW1.out⟩
      case round =>
        clear HO1 HBW1
        obtain ⟨k2, A4, m4, e4, hk2, rfl, rfl, hO, hbw⟩ := hrel
        have HBW2 := Lib.hid hbw; have HO := Lib.hid hO; clear hbw hO
        by_cases hlt2 : k2 < m
        · have hki2 : (k2 : Int) < (m : Int) := by omega
          obtain ⟨ad, q, B, n1, d1, G, m2, d2, rfl, hS, hq, c0, c1, c2, c3, c4, c5, hp⟩ := (HXR.out.elem (k := k2) (by rw [HXL.out]; exact hlt2))
          have hsb : (ad.add (k2 * 6)).block < w.heap.size := by rw [add_block]; exact hS
          replace c0 := cellB c0 HBW2.out hsb; replace c1 := cellB c1 HBW2.out hsb; replace c2 := cellB c2 HBW2.out hsb; replace c3 := cellB c3 HBW2.out hsb; replace c4 := cellB c4 HBW2.out hsb; replace c5 := cellB c5 HBW2.out hsb
          have HQ := Lib.hid hq
          have HLX := Lib.hid (lt_len hp (HL.out q (allN_mem HX.out (List.mem_of_getElem? hq))))
          have HBX := Lib.hid (Blk.new wr 54 #[.int .i64 q.k, strV q.nm, strV q.to, .int .i64 q.h.pos, .slice B n1 d1, .slice G m2 d2])
          have hba : Below wr.heap.size wr (wr.alloc (.cells #[.int .i64 q.k, strV q.nm, strV q.to, .int .i64 q.h.pos, .slice B n1 d1, .slice G m2 d2] 54)) := (Below.refl _ _).alloc (Nat.le_refl _) _
          have HBW3 := Lib.hid (below_mv HBW2.out hba)
          have HPW := Lib.hid (hp.pv.below HBW3.out); have HBA := Lib.hid hba
          have HLT := Lib.hid (ownS_lt HO.out)
          have HSZ := Lib.hid (show (wr.alloc (.cells #[.int .i64 q.k, strV q.nm, strV q.to, .int .i64 q.h.pos, .slice B n1 d1, .slice G m2 d2] 54)).heap.size = wr.heap.size + 1 by simp)
          clear hq hp hS hba hsb
          go_upto_region 8 with fail
          clear c0 c1 c2 c3 c4 c5
          generalize (wr.alloc (.cells #[.int .i64 q.k, strV q.nm, strV q.to, .int .i64 q.h.pos, .slice B n1 d1, .slice G m2 d2] 54)) = W at HBX HPW HBW3 HSZ HBA ⊢
          obtain ⟨z, hz⟩ : ∃ z, wr.heap.size = z := ⟨_, rfl⟩
          have HZ := Lib.hid hz
          rw [hz] at HBX HSZ HLT ⊢
          clear hz
          have hlx := HLX.out
          have PX : Hid (∀ X, Below W.heap.size W X → Calls Try.prog 61 #[.slice B n1 d1] X (fun e u => ∃ P p, e = .returned (.slice P n1 p) ∧ n1 ≤ p ∧ RdS u u.heap.size P q.h.old ∧ Hi X.heap.size P ∧ X.grownBy u none)) := Lib.hid (fun X hb => ownC B n1 d1 w.heap.size q.h.old X HPW.out.h.l (by omega) (Nat.le_trans HBW3.out.size hb.size) (Rd.below HPW.out.h.r (hb.mono HBW3.out.size)))
          have PY : Hid (∀ X, Below W.heap.size W X → Calls Try.prog 61 #[.slice G m2 d2] X (fun e u => ∃ P p, e = .returned (.slice P m2 p) ∧ m2 ≤ p ∧ RdS u u.heap.size P q.h.new ∧ Hi X.heap.size P ∧ X.grownBy u none)) := Lib.hid (fun X hb => ownC G m2 d2 w.heap.size q.h.new X HPW.out.h.l' (by omega) (Nat.le_trans HBW3.out.size hb.size) (Rd.below HPW.out.h.r' (hb.mono HBW3.out.size)))
          have HD := Lib.hid (show Below W.heap.size W W.drew from below_drewN (Below.refl W.heap.size W) 1)
          obtain ⟨z4, z5⟩ : W.cell? ⟨z, 4, none⟩ = some (.slice B n1 d1) ∧ W.cell? ⟨z, 5, none⟩ = some (.slice G m2 d2) := ⟨HBX.out.cell 4 rfl, HBX.out.cell 5 rfl⟩
          have hzl := HBX.out.lt
          go_region_with (first
            | (go_at_call 61; (with_reducible refine (PX.out W.drew HD.out).mono ?_); rintro e w5 ⟨P5, p5, rfl, hk5, hr5, hh5, hg5⟩; have hb5 := HD.out.trans (below_gr hg5); have B5 := HBX.out.below hb5 HBX.out.lt; have z4' := B5.cell 4 rfl; have z5' := B5.cell 5 rfl; have hzl5 := B5.lt; have HU5 := Lib.hid hb5; have HR5 := Lib.hid hr5; have HH5 := Lib.hid hh5; have HK5 := Lib.hid hk5; clear hg5 hb5 hr5 hh5 hk5 B5)
            | (go_at_call 61; (with_reducible refine (PY.out w5 HU5.out).mono ?_); rintro e w6 ⟨P6, p6, rfl, hk6, hr6, hh6, hg6⟩; have hb6 := below_gr hg6; have hu6 := HU5.out.trans (hb6.mono HU5.out.size); have B6 := HBX.out.below hu6 HBX.out.lt; have y4 := B6.cell 4 rfl; have y5 := B6.cell 5 rfl; have f4 := B6.frozen 4; have f5 := B6.frozen 5; have hzl6 := B6.lt; have HU6 := Lib.hid hu6; have HB6 := Lib.hid hb6; have HR6 := Lib.hid hr6; have HH6 := Lib.hid hh6; have HK6 := Lib.hid hk6; have HB6X := Lib.hid B6; clear hg6 hb6 hu6 hr6 hh6 hk6 B6))
          all_goals
            have b7 : Blk ((w6.setCell ⟨z, 4, none⟩ (.slice P5 n1 p5)).setCell ⟨z, 5, none⟩ (.slice P6 m2 p6)) z 54 #[.int .i64 q.k, strV q.nm, strV q.to, .int .i64 q.h.pos, .slice P5 n1 p5, .slice P6 m2 p6] := (HB6X.out.set 4 _).set 5 _
            have hb7 : Below wr.heap.size wr ((w6.setCell ⟨z, 4, none⟩ (.slice P5 n1 p5)).setCell ⟨z, 5, none⟩ (.slice P6 m2 p6)) := ((HBA.out.trans (HU6.out.mono HBA.out.size)).setCell (p := ⟨z, 4, none⟩) (by rw [HZ.out]; exact Nat.le_refl _) _).setCell (p := ⟨z, 5, none⟩) (by rw [HZ.out]; exact Nat.le_refl _) _
            have al : Fl.Alike (· ≠ z) w6 ((w6.setCell ⟨z, 4, none⟩ (.slice P5 n1 p5)).setCell ⟨z, 5, none⟩ (.slice P6 m2 p6)) := (alike_set w6 z 4 _).trans_ (alike_set _ z 5 _) (by simp)
            have hs5 : z + 1 ≤ w5.heap.size := by have := HSZ.out; have := HU5.out.size; omega
            have hs6 := HB6.out.size
            have r5 : RdG ((w6.setCell ⟨z, 4, none⟩ (.slice P5 n1 p5)).setCell ⟨z, 5, none⟩ (.slice P6 m2 p6)) (fun b => z + 1 ≤ b ∧ b < w6.heap.size) P5 (q.h.old.map strV) := ((rdG_hi (Rd.up (Rd.below HR5.out HB6.out) hs6) HH5.out).mono fun b hb => (by have h1 : W.heap.size ≤ b := hb.1; rw [HSZ.out] at h1; exact ⟨h1, hb.2⟩ : z + 1 ≤ b ∧ b < w6.heap.size)).to (al.mono fun b hb => by omega)
            have r6 : RdG ((w6.setCell ⟨z, 4, none⟩ (.slice P5 n1 p5)).setCell ⟨z, 5, none⟩ (.slice P6 m2 p6)) (fun b => z + 1 ≤ b ∧ b < w6.heap.size) P6 (q.h.new.map strV) := ((rdG_hi HR6.out HH6.out).mono fun b hb => (by have h1 : w5.heap.size ≤ b := hb.1; exact ⟨by omega, hb.2⟩ : z + 1 ≤ b ∧ b < w6.heap.size)).to (al.mono fun b hb => by omega)
            have hsx : ((w6.setCell ⟨z, 4, none⟩ (.slice P5 n1 p5)).setCell ⟨z, 5, none⟩ (.slice P6 m2 p6)).heap.size = w6.heap.size := by simp
            have R5 := Lib.hid r5; have R6 := Lib.hid r6; have HB7 := Lib.hid hb7; have HSX := Lib.hid hsx; have B7 := Lib.hid b7; have HSL := Lib.hid (Nat.le_trans hs5 hs6)
            clear b7 hb7 al hs5 hs6 r5 r6 hsx z4 z5 z4' z5' y4 y5 f4 f5 hzl hzl5 hzl6 PX PY HD HU5 HR5 HH5 HU6 HB6 HR6 HH6 HB6X HBA HBX HSZ
            generalize ((w6.setCell ⟨z, 4, none⟩ (.slice P5 n1 p5)).setCell ⟨z, 5, none⟩ (.slice P6 m2 p6)) = w7 at B7 HB7 R5 R6 HSX ⊢
            have x0 := B7.out.cell 0 rfl; have x1 := B7.out.cell 1 rfl; have x2 := B7.out.cell 2 rfl; have x3 := B7.out.cell 3 rfl; have x4 := B7.out.cell 4 rfl; have x5 := B7.out.cell 5 rfl
            have hzl := B7.out.lt
            have b8 := Blk.new w7 54 #[.int .i64 q.k, strV q.nm, strV q.to, .int .i64 q.h.pos, .slice P5 n1 p5, .slice P6 m2 p6]
            have hb8 : Below wr.heap.size wr (w7.alloc (.cells #[.int .i64 q.k, strV q.nm, strV q.to, .int .i64 q.h.pos, .slice P5 n1 p5, .slice P6 m2 p6] 54)) := HB7.out.alloc HB7.out.size _
            have ho8 := HO.out.below hb8
            have v := HPW.out
            have pg : PG (w7.alloc (.cells #[.int .i64 q.k, strV q.nm, strV q.to, .int .i64 q.h.pos, .slice P5 n1 p5, .slice P6 m2 p6] 54)) (NewIn w (w7.alloc (.cells #[.int .i64 q.k, strV q.nm, strV q.to, .int .i64 q.h.pos, .slice P5 n1 p5, .slice P6 m2 p6] 54)) (Value.slice A4 m4 e4).ownBlock) P5 n1 p5 P6 m2 p6 q := by
              have hout : ∀ b, (z + 1 ≤ b ∧ b < w6.heap.size) → NewIn w (w7.alloc (.cells #[.int .i64 q.k, strV q.nm, strV q.to, .int .i64 q.h.pos, .slice P5 n1 p5, .slice P6 m2 p6] 54)) (Value.slice A4 m4 e4).ownBlock b := fun b hb => ⟨by have h1 := HBW2.out.size; have h2 := HZ.out; omega, by have := HSX.out; simp; omega, fun e => by have := HLT.out b e.symm; omega⟩
              have hal : Fl.Alike (fun b => z + 1 ≤ b ∧ b < w6.heap.size) w7 (w7.alloc (.cells #[.int .i64 q.k, strV q.nm, strV q.to, .int .i64 q.h.pos, .slice P5 n1 p5, .slice P6 m2 p6] 54)) := (alike_below ((Below.refl w7.heap.size w7).alloc (Nat.le_refl _) _)).mono fun b hb => by have := HSX.out; omega
              exact ⟨v.h.l, v.h.l', HK5.out, HK6.out, v.h.m, v.h.m', (R5.out.to hal).mono hout, (R6.out.to hal).mono hout, v.h.p, v.k, v.nm, v.to, v.s, v.s'⟩
            have hc8 := PCells.one pg
            have HB8 := Lib.hid b8; have HW8 := Lib.hid (below_mv HBW2.out hb8); have HO8 := Lib.hid ho8; have HC8 := Lib.hid hc8
            have HLN := Lib.hid (allN_pre (j := k2) HX.out HT.out)
            clear b8 hb8 ho8 v pg hc8
            go_wp2_with (at_builtin; refine wpList_ownF rfl (.tmp 33) (.tmp 35) rfl w 1 1 (.slice A4 m4 e4) (some ⟨w7.heap.size, 0, none⟩) (allN (l.take k) ++ x.l.take k2) [q] _ rfl rfl HO8.out HC8.out rfl ⟨_, rfl, one_srcP HB8.out⟩ rfl (by decide) (by have := HLN.out; omega) HW8.out.size ?_; intro v' W' ho hg)
            obtain ⟨A9, c9, rfl, _⟩ := ownS_slice ho
            refine ⟨⟨k2 + 1, A9, _, c9, by omega, by go_num, rfl, ?_, HW8.out.grown hg HW8.out.size (fun g e => ownS_ge HO8.out g e)⟩, by simp [intOf]; omega⟩
            rw [take_at HQ.out, ← List.append_assoc]
            exact ho
        · go_wp2_with fail
          refine ⟨⟨k + 1, A4, m4, e4, by omega, by go_num, rfl, ?_, HBW2.out⟩, by simp [intOf]; omega⟩
          have ho := HO.out
          have e2 : x.l.take k2 = x.l := List.take_of_length_le (by rw [HXL.out]; omega)
          rw [e2, ← allN_next HX.out] at ho
          exact ho
    · go_wp2
      go_ret
      have e : l.take k = l := List.take_of_length_le (by rw [HN.out]; omega)
      have ho := HO.out
      rw [e] at ho
      obtain ⟨A9, c9, e9, h9⟩ := ownS_slice ho
      rw [e9] at ho ⊢
      exact ⟨A9, c9, rfl, h9, rdP_of_own_hi ho (fun b hb => ⟨hb.1, hb.2.1⟩) (Nat.le_refl _) rfl, HBW.out⟩

end Pn
end Go.Proofs.Ytdnkinajbebkoaa

set_option maxRecDepth 100000
namespace Go.Proofs.Ytdnkinajbebkoaa
open Go.RowKit Go.Shelf
set_option linter.unusedVariables false
set_option linter.unusedSimpArgs false
namespace Tg
open Tx Df Sq Hk Tr Pr Rg Fl Pn
attribute [local go_sem] Oper.semAt_some

/-- The copy of a patch in a box of its own. -/
def FirstEnd (w : World) (q : Nm) (dn m F : Nat) (W : World) : Prop :=
  ∃ D c A e, Blk W F 45 #[.int .i64 q.id.1, .int .i64 q.id.2, .slice D dn c, strV q.txt, .slice A m e] ∧ NG W (fun b => w.heap.size ≤ b ∧ b < W.heap.size ∧ b ≠ F) D dn c A m e q ∧ w.heap.size ≤ F ∧ Below w.heap.size w W
theorem first_d0 (w : World) (c : Array Value) : Below w.heap.size w (w.alloc (.cells c 45)).drew ∧ Blk (w.alloc (.cells c 45)).drew w.heap.size 45 c :=
  ⟨below_drewN ((Below.refl _ _).alloc (Nat.le_refl _) _) 1, (Blk.new w _ _).drewN 1⟩
theorem first_d2 (w : World) (c c' : Array Value) : Below w.heap.size w ((w.alloc (.cells c 45)).alloc (.cells c' 45)).drew ∧ (Below w.heap.size w ((w.alloc (.cells c 45)).alloc (.cells c' 45)).drew ∧ Blk ((w.alloc (.cells c 45)).alloc (.cells c' 45)).drew (w.heap.size + 1) 45 c') ∧ Blk ((w.alloc (.cells c 45)).alloc (.cells c' 45)).drew w.heap.size 45 c := by
  have h := below_drewN (two_box w (.cells c 45) (.cells c' 45)) 1
  have b := Blk.new (w.alloc (.cells c 45)) 45 c'
  rw [World.size_alloc] at b
  exact ⟨h, ⟨h, b.drewN 1⟩, ((Blk.new w 45 c).alloc _).drewN 1⟩
theorem first_all {X : World} {D E : Option Addr} {dn dc m k G : Nat} {q : Nm} (hm : m ≤ 1000) (hl : Lt q.l) (hv : NV X X.heap.size D dn dc E m k q) (hb : Blk X G 45 #[.int .i64 q.id.1, .int .i64 q.id.2, .slice D dn dc, strV q.txt, .slice E m k]) :
    Calls Try.prog 43 #[.slice (some ⟨G, 0, none⟩) 1 1] X (fun e u => ∃ A c, e = .returned (.slice A m c) ∧ m ≤ c ∧ RdP u (Since X u) A q.l ∧ Below X.heap.size X u) := by
  have he : allN [q] = q.l := by unfold allN; simp
  refine (AllN (some ⟨G, 0, none⟩) 1 1 [q] X rfl (by decide) (by rw [he, hv.l]; exact hm) (by rw [he]; exact hl) (rdN_lone hb hv hb.lt)).mono ?_
  rintro e u ⟨A, c, rfl, h1, h2, h3⟩
  rw [he] at h1 h2 ⊢
  rw [hv.l] at h1 ⊢
  exact ⟨A, c, rfl, h1, h2, h3⟩
theorem size4 (w : World) (o0 o1 o2 o3 : Obj) : ((((w.alloc o0).alloc o1).alloc o2).alloc o3).heap.size = w.heap.size + 4 := by simp
theorem size_lt1 (w : World) (o : Obj) : w.heap.size < (w.alloc o).drew.heap.size := by show _ < (w.alloc o).heap.size; simp
theorem size_lt1' (w : World) (o : Obj) : w.heap.size < (w.alloc o).heap.size := by simp
theorem size_lt2 (w : World) (o o' : Obj) : w.heap.size < ((w.alloc o).alloc o').drew.heap.size := by show _ < ((w.alloc o).alloc o').heap.size; simp; omega
theorem size_lt2' (w : World) (o o' : Obj) : w.heap.size + 1 < ((w.alloc o).alloc o').drew.heap.size := by show _ < ((w.alloc o).alloc o').heap.size; simp
theorem below_skip {u v : World} {o : Obj} (h : Below (u.alloc o).heap.size (u.alloc o) v) : Below u.heap.size u v := ((Below.refl _ _).alloc (Nat.le_refl _) o).trans (h.mono (by simp))
theorem first_lay {w0 w1 u1 u2 : World} {D E D2 A1 : Option Addr} {dn dc m k c1 c2 F : Nat} {X Y : World} {q : Nm} (hv : NV w0 w0.heap.size D dn dc E m k q) (hR1 : RdP u1 (Since X u1) A1 q.l) (hR2 : RdG u2 (Since Y u2) D2 (idsV q.deps)) (h12 : Below u1.heap.size u1 u2) (h1F : F < X.heap.size ∨ u1.heap.size ≤ F) (h2F : F < Y.heap.size) (hl1 : w1.heap.size ≤ X.heap.size) (hl2 : w1.heap.size ≤ Y.heap.size) (hFw : w1.heap.size ≤ F) (hU2 : Below w1.heap.size w1 u2) (tf : Blk u2 F 45 #[.int .i64 0, .int .i64 0, .slice none 0 0, .string ⟨#[]⟩, .slice none 0 0]) (hk1 : m ≤ c1) (hk2 : dn ≤ c2) :
    FirstEnd w1 q dn m F (((((u2.setCell ⟨F, 0, none⟩ (.int .i64 q.id.1)).setCell ⟨F, 1, none⟩ (.int .i64 q.id.2)).setCell ⟨F, 2, none⟩ (.slice D2 dn c2)).setCell ⟨F, 3, none⟩ (strV q.txt)).setCell ⟨F, 4, none⟩ (.slice A1 m c1)) := by
  have hs := h12.size
  have al := alike_set5 u2 F (.int .i64 q.id.1) (.int .i64 q.id.2) (.slice D2 dn c2) (strV q.txt) (.slice A1 m c1)
  have r1 := (hR1.to ((alike_below h12).mono fun b hb => hb.2)).to (al.mono fun b hb => by have := hb.1; have := hb.2; omega)
  have r2 := hR2.to (al.mono fun b hb => by have := hb.1; omega)
  refine ⟨D2, c2, A1, c1, blk5 tf _ _ _ _ _, ⟨hv.dl, hk2, hv.dm, r2.mono fun b hb => ?_, hv.tm, hv.l, hk1, hv.m, r1.mono fun b hb => ?_⟩, hFw, below_set5 hU2 hFw _ _ _ _ _⟩
  · have h1 := hb.1; have h2 := hb.2
    exact ⟨by omega, by simp; omega, by omega⟩
  · have h1 := hb.1; have h2 := hb.2
    exact ⟨by omega, by simp; omega, by omega⟩
theorem first_lay_d {w0 w1 u1 u2 : World} {D E D2 A1 : Option Addr} {dn dc m k c1 c2 : Nat} {X Y : World} {q : Nm} (hv : NV w0 w0.heap.size D dn dc E m k q) (hR1 : RdP u1 (Since X u1) A1 q.l) (hR2 : RdG u2 (Since Y u2) D2 (idsV q.deps)) (h12 : Below u1.heap.size u1 u2) (hl1 : w1.heap.size ≤ X.heap.size) (hl2 : w1.heap.size ≤ Y.heap.size) (hU2 : Below w1.heap.size w1 u2) (hk1 : m ≤ c1) (hk2 : dn ≤ c2) :
    FirstEnd w1 q dn m u2.heap.size (u2.alloc (.cells #[.int .i64 q.id.1, .int .i64 q.id.2, .slice D2 dn c2, strV q.txt, .slice A1 m c1] 45)) := by
  have hs := h12.size
  have hba : Below u2.heap.size u2 (u2.alloc (.cells #[.int .i64 q.id.1, .int .i64 q.id.2, .slice D2 dn c2, strV q.txt, .slice A1 m c1] 45)) := (Below.refl _ _).alloc (Nat.le_refl _) _
  have r1 := (hR1.to ((alike_below h12).mono fun b hb => hb.2)).to ((alike_below hba).mono fun b hb => by have := hb.2; omega)
  have r2 := hR2.to ((alike_below hba).mono fun b hb => hb.2)
  refine ⟨D2, c2, A1, c1, Blk.new _ _ _, ⟨hv.dl, hk2, hv.dm, r2.mono fun b hb => ?_, hv.tm, hv.l, hk1, hv.m, r1.mono fun b hb => ?_⟩, hU2.size, hU2.trans (hba.mono hU2.size)⟩
  · have h1 := hb.1; have h2 := hb.2
    exact ⟨by omega, by simp; omega, by omega⟩
  · have h1 := hb.1; have h2 := hb.2
    exact ⟨by omega, by simp; omega, by omega⟩

set_option maxRecDepth 100000 in
set_option maxHeartbeats 4000000 in
theorem OverN (A : Option Addr) (n c : Nat) (l : List Nm) (D : Option Addr) (dn dc : Nat) (E : Option Addr) (m k : Nat) (q : Nm) (w : World) (hle : n ≤ 1000) (hm : m ≤ 1000) (hd : dn ≤ 100000) (hl : Lt q.l) (hls : RdN w w.heap.size A l) (hln : l.length = n) (hall : ∀ p ∈ l, Lt p.l ∧ p.l.length ≤ 1000 ∧ p.deps.length ≤ 100000) (hv : NV w w.heap.size D dn dc E m k q) (xo : Nm) (ys : List Nm) (bo : Bool) (ho : outO (overN l q) = (xo, ys)) (hs : (overN l q).isSome = bo) :
    Calls Try.prog 25 #[.slice A n c, nmV q.id D dn dc q.txt E m k] w (NOverEnd w xo ys bo) := by
  have HO := Lib.hid ho; have HS := Lib.hid hs
  clear ho hs
  refine (callsIn_wide (n := 4)).1 ?_
  refine callsIn_of_wp_marks Try.func25 rfl trivial ?_ rfl
  simp only [Try.ntmps25, List.size_toArray, List.length_cons, List.length_nil, Nat.reduceAdd, Nat.reduceSub, Array.replicate_succ, Array.replicate_zero, List.push_toArray, List.append_toArray, List.nil_append, List.cons_append]
  gi_wp2_with fail
  refine wpIn_wide.2 ?_
  have hs1 := size4 w (.cells #[.int .i64 q.id.1, .int .i64 q.id.2, .slice D dn dc, strV q.txt, .slice E m k] 45) (.cells #[.int .i64 0, .int .i64 0, .slice none 0 0, .string ⟨#[]⟩, .slice none 0 0] 45) (.cells #[.slice none 0 0] 22) (.cells #[.bool false] 4)
  obtain ⟨b0, b1, b2, b3, hba⟩ := four_blk w 45 45 22 4 #[.int .i64 q.id.1, .int .i64 q.id.2, .slice D dn dc, strV q.txt, .slice E m k] #[.int .i64 0, .int .i64 0, .slice none 0 0, .string ⟨#[]⟩, .slice none 0 0] #[.slice none 0 0] #[.bool false]
  generalize ((((w.alloc (.cells #[.int .i64 q.id.1, .int .i64 q.id.2, .slice D dn dc, strV q.txt, .slice E m k] 45)).alloc (.cells #[.int .i64 0, .int .i64 0, .slice none 0 0, .string ⟨#[]⟩, .slice none 0 0] 45)).alloc (.cells #[.slice none 0 0] 22)).alloc (.cells #[.bool false] 4)) = w1 at b0 b1 b2 b3 hba hs1 ⊢
  obtain ⟨z, hz⟩ : ∃ z, w.heap.size = z := ⟨_, rfl⟩
  rw [hz] at b0 b1 b2 b3 hs1 ⊢
  have HZ := Lib.hid hz; have HS1 := Lib.hid hs1
  have HB0 := Lib.hid b0; have HB1 := Lib.hid b1; have HB2 := Lib.hid b2; have HB3 := Lib.hid b3; have HBW := Lib.hid hba
  have HV := Lib.hid (hv.mv hba)
  clear b0 b1 b2 b3 hba hz hv hs1
  have HSB : Hid (∀ X : World, Blk X z 45 #[.int .i64 q.id.1, .int .i64 q.id.2, .slice D dn dc, strV q.txt, .slice E m k] → X.cell? ⟨z, 0, none⟩ = some (.int .i64 q.id.1) ∧ X.cell? ⟨z, 1, none⟩ = some (.int .i64 q.id.2) ∧ X.cell? ⟨z, 2, none⟩ = some (.slice D dn dc) ∧ X.cell? ⟨z, 3, none⟩ = some (strV q.txt) ∧ X.cell? ⟨z, 4, none⟩ = some (.slice E m k)) := Lib.hid (fun X h1 => ⟨h1.cell 0 rfl, h1.cell 1 rfl, h1.cell 2 rfl, h1.cell 3 rfl, h1.cell 4 rfl⟩)
  have HC : Hid (∀ X, Below w1.heap.size w1 X → X.cell? ⟨z, 0, none⟩ = some (.int .i64 q.id.1) ∧ X.cell? ⟨z, 1, none⟩ = some (.int .i64 q.id.2) ∧ X.cell? ⟨z, 2, none⟩ = some (.slice D dn dc) ∧ X.cell? ⟨z, 3, none⟩ = some (strV q.txt) ∧ X.cell? ⟨z, 4, none⟩ = some (.slice E m k)) := Lib.hid (fun X hb => HSB.out X (HB0.out.below hb HB0.out.lt))
  have HF : Hid (∀ (X : World) (F : Nat) (v0 v1 v2 v3 v4 : Value), Below w1.heap.size w1 X → w1.heap.size ≤ F → (((((X.setCell ⟨F, 0, none⟩ v0).setCell ⟨F, 1, none⟩ v1).setCell ⟨F, 2, none⟩ v2).setCell ⟨F, 3, none⟩ v3).setCell ⟨F, 4, none⟩ v4).cell? ⟨z, 0, none⟩ = some (.int .i64 q.id.1) ∧ (((((X.setCell ⟨F, 0, none⟩ v0).setCell ⟨F, 1, none⟩ v1).setCell ⟨F, 2, none⟩ v2).setCell ⟨F, 3, none⟩ v3).setCell ⟨F, 4, none⟩ v4).cell? ⟨z, 1, none⟩ = some (.int .i64 q.id.2) ∧ (((((X.setCell ⟨F, 0, none⟩ v0).setCell ⟨F, 1, none⟩ v1).setCell ⟨F, 2, none⟩ v2).setCell ⟨F, 3, none⟩ v3).setCell ⟨F, 4, none⟩ v4).cell? ⟨z, 2, none⟩ = some (.slice D dn dc) ∧ (((((X.setCell ⟨F, 0, none⟩ v0).setCell ⟨F, 1, none⟩ v1).setCell ⟨F, 2, none⟩ v2).setCell ⟨F, 3, none⟩ v3).setCell ⟨F, 4, none⟩ v4).cell? ⟨z, 3, none⟩ = some (strV q.txt) ∧ (((((X.setCell ⟨F, 0, none⟩ v0).setCell ⟨F, 1, none⟩ v1).setCell ⟨F, 2, none⟩ v2).setCell ⟨F, 3, none⟩ v3).setCell ⟨F, 4, none⟩ v4).cell? ⟨z, 4, none⟩ = some (.slice E m k)) := Lib.hid (fun X F v0 v1 v2 v3 v4 hb hF => HSB.out _ (blk_set5 (HB0.out.below hb HB0.out.lt) (by have := HB0.out.lt; omega) v0 v1 v2 v3 v4))
  have HD0 := Lib.hid (first_d0 w1 #[.int .i64 q.id.1, .int .i64 q.id.2, .slice D dn dc, strV q.txt, .slice E m k]); have HDZ := Lib.hid (first_d0 w1 #[.int .i64 0, .int .i64 0, .slice none 0 0, .string ⟨#[]⟩, .slice none 0 0]); have HDA := Lib.hid (first_d2 w1 #[.int .i64 0, .int .i64 0, .slice none 0 0, .string ⟨#[]⟩, .slice none 0 0] #[.int .i64 q.id.1, .int .i64 q.id.2, .slice D dn dc, strV q.txt, .slice E m k]); have HDB := Lib.hid (first_d2 w1 #[.int .i64 q.id.1, .int .i64 q.id.2, .slice D dn dc, strV q.txt, .slice E m k] #[.int .i64 0, .int .i64 0, .slice none 0 0, .string ⟨#[]⟩, .slice none 0 0])
  have PA : Hid (∀ (X : World) (G : Nat), (Below w1.heap.size w1 X ∧ Blk X G 45 #[.int .i64 q.id.1, .int .i64 q.id.2, .slice D dn dc, strV q.txt, .slice E m k]) → Calls Try.prog 43 #[.slice (some ⟨G, 0, none⟩) 1 1] X (fun e u => ∃ A c, e = .returned (.slice A m c) ∧ m ≤ c ∧ RdP u (Since X u) A q.l ∧ Below X.heap.size X u)) := Lib.hid (fun X G h => first_all hm hl (HV.out.mv h.1) h.2)
  have PW : Hid (∀ (X : World) A c, Below w1.heap.size w1 X → Calls Try.prog 48 #[nmV q.id D dn dc q.txt E m k, .slice A m c] X (WithEnd X q dn A m c)) := Lib.hid (fun X A c hb => With D dn dc E m k q A m c X hd HV.out.dl (RdI.mv HV.out.dr hb))
  have HKD := Lib.hid (HC.out w1.drew (below_drewN (Below.refl _ _) 1))
  go_cut [7, 14, 15] from 16 (fun s7 s14 s15 wx => ∃ F, s7 = .pointer (some ⟨F, 0, none⟩) ∧ s14 = nmV q.id D dn dc q.txt E m k ∧ s15 = nmV q.id D dn dc q.txt E m k ∧ FirstEnd w1 q dn m F wx)
  case first =>
    obtain ⟨z0, z1, z2, z3, z4⟩ := HC.out w1 (Below.refl _ _)
    go_region_held3 (fun X => X.cell? ⟨z, 0, none⟩ = some (.int .i64 q.id.1) ∧ X.cell? ⟨z, 1, none⟩ = some (.int .i64 q.id.2) ∧ X.cell? ⟨z, 2, none⟩ = some (.slice D dn dc) ∧ X.cell? ⟨z, 3, none⟩ = some (strV q.txt) ∧ X.cell? ⟨z, 4, none⟩ = some (.slice E m k))
      (first | (with_reducible exact HKD.out) | (with_reducible exact HC.out _ HD0.out.1) | (with_reducible exact HC.out _ HDZ.out.1) | (with_reducible exact HC.out _ HDA.out.1) | (with_reducible exact HC.out _ HDB.out.1) | (with_reducible exact hS1) | (with_reducible exact hS2) | (with_reducible exact HC.out _ HE1.out) | (with_reducible exact HC.out _ HE2.out) | (with_reducible exact HC.out _ HE3.out) | (with_reducible exact HF.out _ _ _ _ _ _ _ HU2.out hFle))
      (first
        | (go_at_call 43; (with_reducible refine (PA.out (w1.alloc (.cells #[.int .i64 q.id.1, .int .i64 q.id.2, .slice D dn dc, strV q.txt, .slice E m k] 45)).drew _ HD0.out).mono ?_); rintro e u1 ⟨A1, c1, rfl, hk1, hr1, hb1⟩; have hbu := HD0.out.1.trans (hb1.mono HD0.out.1.size); have HE1 := Lib.hid (hbu.alloc hbu.size (.cells #[.int .i64 0, .int .i64 0, .slice none 0 0, .string ⟨#[]⟩, .slice none 0 0] 45)); have hS1 := HC.out u1 hbu; have HU1 := Lib.hid hbu; have HR1 := Lib.hid hr1; have HB1u := Lib.hid hb1; have HK1 := Lib.hid hk1; clear hb1 hbu hr1 hk1)
        | (go_at_call 43; (with_reducible refine (PA.out ((w1.alloc (.cells #[.int .i64 0, .int .i64 0, .slice none 0 0, .string ⟨#[]⟩, .slice none 0 0] 45)).alloc (.cells #[.int .i64 q.id.1, .int .i64 q.id.2, .slice D dn dc, strV q.txt, .slice E m k] 45)).drew _ HDA.out.2.1).mono ?_); rintro e u1 ⟨A1, c1, rfl, hk1, hr1, hb1⟩; have hbu := HDA.out.1.trans (hb1.mono HDA.out.1.size); have tf := HDA.out.2.2.below hb1 HDA.out.2.2.lt; have hFle := Nat.le_refl w1.heap.size; have hS1 := HC.out u1 hbu; have HU1 := Lib.hid hbu; have HR1 := Lib.hid hr1; have HB1u := Lib.hid hb1; have HK1 := Lib.hid hk1; clear hb1 hbu hr1 hk1)
        | (go_at_call 43; (with_reducible refine (PA.out ((w1.alloc (.cells #[.int .i64 q.id.1, .int .i64 q.id.2, .slice D dn dc, strV q.txt, .slice E m k] 45)).alloc (.cells #[.int .i64 0, .int .i64 0, .slice none 0 0, .string ⟨#[]⟩, .slice none 0 0] 45)).drew _ ⟨HDB.out.1, HDB.out.2.2⟩).mono ?_); rintro e u1 ⟨A1, c1, rfl, hk1, hr1, hb1⟩; have hbu := HDB.out.1.trans (hb1.mono HDB.out.1.size); have tf := HDB.out.2.1.2.below hb1 HDB.out.2.1.2.lt; have hFle := Nat.le_succ w1.heap.size; have hS1 := HC.out u1 hbu; have HU1 := Lib.hid hbu; have HR1 := Lib.hid hr1; have HB1u := Lib.hid hb1; have HK1 := Lib.hid hk1; clear hb1 hbu hr1 hk1)
        | (go_at_call 48; (with_reducible refine (PW.out u1 _ _ HU1.out).mono ?_); rintro e u2 ⟨D2, c2, rfl, hk2, hr2, hb2⟩; have hbu := HU1.out.trans (hb2.mono HU1.out.size); have hS2 := HC.out u2 hbu; have HU2 := Lib.hid hbu; have HB2u := Lib.hid hb2; have HR2 := Lib.hid hr2; have HK2 := Lib.hid hk2; have HE2 := Lib.hid (hbu.alloc hbu.size (.cells #[.int .i64 q.id.1, .int .i64 q.id.2, .slice D2 dn c2, strV q.txt, .slice A1 m c1] 45)); have HE3 := Lib.hid (hbu.alloc hbu.size (.cells #[.int .i64 0, .int .i64 0, .slice none 0 0, .string ⟨#[]⟩, .slice none 0 0] 45)); first | (have tf2 := tf.below hb2 tf.lt; have y0 := tf2.cell 0 rfl; have y1 := tf2.cell 1 rfl; have y2 := tf2.cell 2 rfl; have y3 := tf2.cell 3 rfl; have y4 := tf2.cell 4 rfl; have fz0 := tf2.frozen 0; have fz1 := tf2.frozen 1; have fz2 := tf2.frozen 2; have fz3 := tf2.frozen 3; have fz4 := tf2.frozen 4; have ylt := tf2.lt; clear hb2 hbu hr2 hk2) | (clear hb2 hbu hr2 hk2))
        | (go_at_call 48; (with_reducible refine (PW.out (u1.alloc (.cells #[.int .i64 0, .int .i64 0, .slice none 0 0, .string ⟨#[]⟩, .slice none 0 0] 45)) _ _ HE1.out).mono ?_); rintro e u2 ⟨D2, c2, rfl, hk2, hr2, hb2⟩; have hbu := HE1.out.trans (hb2.mono HE1.out.size); have hS2 := HC.out u2 hbu; have HU2 := Lib.hid hbu; have HB2u := Lib.hid hb2; have HR2 := Lib.hid hr2; have HK2 := Lib.hid hk2; have tf := Blk.new u1 45 #[.int .i64 0, .int .i64 0, .slice none 0 0, .string ⟨#[]⟩, .slice none 0 0]; have hFle := HU1.out.size; have tf2 := tf.below hb2 tf.lt; have y0 := tf2.cell 0 rfl; have y1 := tf2.cell 1 rfl; have y2 := tf2.cell 2 rfl; have y3 := tf2.cell 3 rfl; have y4 := tf2.cell 4 rfl; have fz0 := tf2.frozen 0; have fz1 := tf2.frozen 1; have fz2 := tf2.frozen 2; have fz3 := tf2.frozen 3; have fz4 := tf2.frozen 4; have ylt := tf2.lt; clear hb2 hbu hr2 hk2))
    all_goals (try go_wp2_with fail)
    all_goals go_meet
    (with_reducible exact ⟨_, rfl, rfl, rfl, first_lay_d HV.out HR1.out HR2.out HB2u.out (Nat.le_of_lt (size_lt1 w1 _)) HU1.out.size HU2.out HK1.out HK2.out⟩)
    (with_reducible exact ⟨_, rfl, rfl, rfl, first_lay HV.out HR1.out HR2.out (below_skip HB2u.out) (.inr (Nat.le_refl _)) (size_lt1' u1 _) (Nat.le_of_lt (size_lt1 w1 _)) (Nat.le_trans HU1.out.size (Nat.le_of_lt (size_lt1' u1 _))) HU1.out.size HU2.out tf2 HK1.out HK2.out⟩)
    (with_reducible exact ⟨_, rfl, rfl, rfl, first_lay HV.out HR1.out HR2.out HB2u.out (.inl (size_lt2' w1 _ _)) (Nat.lt_of_lt_of_le tf.lt (Nat.le_refl _)) (Nat.le_of_lt (size_lt2 w1 _ _)) HU1.out.size hFle HU2.out tf2 HK1.out HK2.out⟩)
    (with_reducible exact ⟨_, rfl, rfl, rfl, first_lay HV.out HR1.out HR2.out HB2u.out (.inl (size_lt2 w1 _ _)) (Nat.lt_of_lt_of_le tf.lt (Nat.le_refl _)) (Nat.le_of_lt (size_lt2 w1 _ _)) HU1.out.size hFle HU2.out tf2 HK1.out HK2.out⟩)
  case rest =>
    obtain ⟨F, rfl, rfl, rfl, D1, e1, E1, k1, hbf, hng, hFw, hb⟩ := hcut
    clear HSB HC HF HD0 HDZ HDA HDB PA PW HKD
    obtain ⟨j0, hj, hy0, hy1, hy2⟩ := info_parts info_named
    have hmk : ∀ W : World, (Instr.makeSlice 22 (.int .i64 (n : Int)) (.int .i64 (n : Int))).run Try.prog W = .ok (.slice (some ⟨W.heap.size, 0, none⟩) n n) (W.alloc (.cells (madeCells #[.int .i64 0, .int .i64 0, .slice none 0 0, .string ⟨#[]⟩, .slice none 0 0] (n * 5)) 45)) := by
      intro W
      have := run_make (P := Try.prog) W 22 45 j0 _ Try.underlying22 hj hy0 .i64 .i64 (n : Int) (n : Int) (by omega) (by omega) (by rw [hy2]; omega) (by omega)
      simp only [Int.toNat_natCast, hy1] at this
      exact this
    gi_wp2_with fail
    refine ⟨trivial, ?_⟩
    refine (backN_in 3 A n c _).mono ?_
    rintro e w' ⟨rfl, rfl⟩
    gi_wp2
    have hst := over_start (A := A) (l := l) (n := n) HZ.out (by rw [← HS1.out]) HBW.out HB1.out HB2.out HB3.out hbf hng hFw hb hls hln hle hl c
    dsimp only [noC] at hst
    obtain ⟨g, hg⟩ : ∃ g, wc.heap.size = g := ⟨_, rfl⟩
    rw [hg] at hst
    have hFg : F < g := by rw [← hg]; exact hbf.lt
    have hz4 : z + 4 ≤ F := by rw [← HS1.out]; exact hFw
    rw [hg]
    generalize (((wc.alloc (.cells (madeCells #[.int .i64 0, .int .i64 0, .slice none 0 0, .string ⟨#[]⟩, .slice none 0 0] (n * 5)) 45)).alloc (.cells #[.slice (some ⟨g, 0, none⟩) n n] 22)).alloc (.cells #[.slice A n c] 22)) = w5 at hst ⊢
    obtain ⟨hst, hbs, hsz, hc5⟩ := hst
    clear hmk hbf hng hb hg HB1 HB2 HB3 HB0 HV hj hy0 hy1 hy2
    have HZW : w.heap.size = z := HZ.out
    have HLN := Lib.hid hln; have HALL := Lib.hid hall
    clear hln hall
    refine range_law (n := 4) (gf := 56) (lb := #[.pointer (some ⟨g + 1 + 1, 0, none⟩)]) rfl (enters_of Try.func56 (by kernel_rfl) rfl) (Free := Plain) (fun _ h => h)
      (backN_gives 3 (g + 1 + 1) c n A (by omega) w5 hbs hc5) kpN_t (kpN_b (by rw [hsz]; omega)) (fun x vals W h => by obtain ⟨_, _, _, _, _, _, _, _, rfl, _⟩ := h; rfl)
      (OvJ w z F g n A l q dn m) (OvX w z l q) (ovJ_ab (by rw [hsz]; omega)) (ovX_ab (by rw [hsz]; omega)) hst
      (fun i a' X => ∃ b v0 v1 v2 v3 v4, a' = { tmps := #[.slice A n c, nmV q.id D dn dc q.txt E m k, undef, .pointer (some ⟨z, 0, none⟩), .pointer (some ⟨z + 1, 0, none⟩), .pointer (some ⟨z + 1 + 1, 0, none⟩), .pointer (some ⟨z + 1 + 1 + 1, 0, none⟩), .pointer (some ⟨F, 0, none⟩), .pointer (some ⟨g + 1, 0, none⟩), .int .i64 (i : Int), .pointer (some ⟨b, 0, none⟩), undef, undef, undef, nmV q.id D dn dc q.txt E m k, nmV q.id D dn dc q.txt E m k, u16, u17, u18, .slice A n c, .int .i64 (n : Int), .slice (some ⟨g, 0, none⟩) n n, .slice A n c, .func (.func 56) #[] #[.pointer (some ⟨g + 1 + 1, 0, none⟩)], .int .i64 (i : Int), .agg #[v0, v1, v2, v3, v4], u26, u27, u28, u29, u30, u31, u32, u33, u34, u35, u36, u37, u38, u39, u40, u41, u42], defers := [] } ∧ EN n A i #[.int .i64 (i : Int), .agg #[v0, v1, v2, v3, v4]] X ∧ Blk X b 45 #[v0, v1, v2, v3, v4])
      (fun i a' => ab_ex fun b => ab_ex fun v0 => ab_ex fun v1 => ab_ex fun v2 => ab_ex fun v3 => ab_ex fun v4 => Ab.and (ab_pure _ _ _) (Ab.and ab_EN (ab_blk fun _ => _))) ?assign ?body ?done ?stop
    case assign =>
      rintro y pre i vals X K hi hEL hK
      obtain ⟨x, post, Dx, dcx, Ex, kx, hI⟩ := id hi
      obtain ⟨p, D', dn', dc', E', m', k', hp, rfl, hv⟩ := EN.rd hEL hI.ls HLN.out
      clear hI hp hv
      gi_wp2
      exact hK _ _ ((KeepsOthers.alloc X _).from _) (kpN_new (World.grownBy_alloc X _ none)) ((ovJ_ab (Nat.le_refl _)).alloc _ hi) ⟨_, _, _, _, _, _, rfl, ab_EN.alloc (s := ()) (B := 0) _ hEL, Blk.new _ _ _⟩
    case body =>
      rintro y pre pst i a' X hfull hI ⟨b, v0, v1, v2, v3, v4, rfl, hEL, hb⟩
      have hi := dn_split hfull
      clear hfull
      obtain ⟨x, post, Dx, dcx, Ex, kx, hI⟩ := hI
      rw [show n - pre.length = i + 1 by omega] at hI
      obtain ⟨p, D', dn', dc', E', m', k', hp, hv, hpv⟩ := EN.rd hEL hI.ls HLN.out
      obtain ⟨rfl, rfl, rfl, rfl, rfl⟩ := valsN_eq hv
      have HPL := Lib.hid hp; have HI := Lib.hid hI; have HB := Lib.hid hb
      have HLP := Lib.hid (HALL.out p (List.mem_of_getElem? hp))
      have HPV := Lib.hid (hpv.up (show z ≤ X.heap.size by have := hI.r0.lt; omega))
      clear hpv hp hv hEL
      obtain ⟨x1, y1, ho⟩ : ∃ x1 y1, outN (passN p x) = (x1, y1) := ⟨_, _, rfl⟩
      obtain ⟨bo, hbo⟩ : ∃ bo, (passN p x).isSome = bo := ⟨_, rfl⟩
      have HO := Lib.hid ho; have HBO := Lib.hid hbo
      clear ho hbo
      have PC := Lib.hid (PassN D' dn' dc' E' m' k' Dx dn dcx Ex m kx p x x1 y1 X bo (by rw [← HPV.out.l]; exact HLP.out.2.1) hm (by rw [← HPV.out.dl]; exact HLP.out.2.2) hd HLP.out.1 hI.lx HPV.out (hI.ng.mono but_lt).nv HO.out HBO.out)
      have x0 := hb.cell 0 rfl; have x1' := hb.cell 1 rfl; have x2 := hb.cell 2 rfl; have x3 := hb.cell 3 rfl; have x4 := hb.cell 4 rfl
      have hbf := hI.bf
      have q0 := hbf.cell 0 (u := .int .i64 x.id.1) rfl; have q1 := hbf.cell 1 (u := .int .i64 x.id.2) rfl; have q2 := hbf.cell 2 (u := .slice Dx dn dcx) rfl; have q3 := hbf.cell 3 (u := strV x.txt) rfl; have q4 := hbf.cell 4 (u := .slice Ex m kx) rfl
      have l0 := hbf.lt
      clear hI hb hbf
      gi_wp2_with fail
      refine ⟨trivial, CallsIn.inRound y (callsIn_wide.2 (PC.out.mono ?_))⟩
      rintro e w2 ⟨D1, d1, c1, E1, m1, k1, D2, d2, c2, E2, m2, k2, rfl, n1, n2, hb2⟩
      clear x0 x1' x2 x3 x4 q0 q1 q2 q3 q4 PC l0
      have hbb := HI.out.bb; have hbf := HI.out.bf; have hr0 := HI.out.r0; have hr1 := HI.out.r1; have hr2 := HI.out.r2
      replace hbb := hbb.below hb2 hbb.lt; replace hbf := hbf.below hb2 hbf.lt; replace hr0 := hr0.below hb2 hr0.lt; replace hr1 := hr1.below hb2 hr1.lt; replace hr2 := hr2.below hb2 hr2.lt
      have HBB := Lib.hid hbb; have HBF := Lib.hid hbf; have HB2 := Lib.hid hb2; have HN1 := Lib.hid n1; have HN2 := Lib.hid n2
      clear n1 n2 hb2
      cases bo with
      | false =>
        have r0 := hr0.cell 0 (u := .int .i64 0) rfl; have r1 := hr0.cell 1 (u := .int .i64 0) rfl; have r2 := hr0.cell 2 (u := .slice none 0 0) rfl; have r3 := hr0.cell 3 (u := .string ⟨#[]⟩) rfl; have r4 := hr0.cell 4 (u := .slice none 0 0) rfl
        have f0 := hr0.frozen 0; have f1 := hr0.frozen 1; have f2 := hr0.frozen 2; have f3 := hr0.frozen 3; have f4 := hr0.frozen 4
        have s0 := hr1.cell 0 (u := .slice none 0 0) rfl; have g0 := hr1.frozen 0
        have t0 := hr2.cell 0 (u := .bool false) rfl; have h0 := hr2.frozen 0
        have hlt0 := hbf.lt; have hlt1 := hr0.lt; have hlt := hr1.lt; have hlt2 := hr2.lt; have hltz := Nat.lt_of_succ_lt hr0.lt
        clear hbb hbf hr0 hr1 hr2
        gi_wp2_with fail
        have HNN : Hid (passN p x = none) := Lib.hid (by
          have h := HBO.out
          cases hp : passN p x with
          | none => rfl
          | some z => rw [hp] at h; cases h)
        clear r0 r1 r2 r3 r4 f0 f1 f2 f3 f4 s0 g0 t0 h0 hlt0 hlt1 hlt hlt2 hltz
        exact over_no HI.out HB2.out HPL.out HNN.out _ _
      | true =>
        clear hbb hbf hr0 hr1 hr2
        have HSM : Hid (passN p x = some (x1, y1)) := Lib.hid (by
          have h := HBO.out; have ho := HO.out
          cases hp : passN p x with
          | none => rw [hp] at h; cases h
          | some z => rw [hp] at ho; exact congrArg some ho)
        obtain ⟨hid, hdp, htx, hll⟩ := (passN_keeps HSM.out).1
        obtain rfl : dn = d1 := by rw [← HN1.out.dl, hdp, HI.out.ng.dl]
        obtain rfl : m = m1 := by rw [← HN1.out.l, hll, HI.out.ng.l]
        clear hid hdp htx hll
        gi_wp2_with fail
        have b3 := (Blk.new w2 45 #[.int .i64 x1.id.1, .int .i64 x1.id.2, .slice D1 dn c1, strV x1.txt, .slice E1 m k1]).alloc (.cells #[.int .i64 y1.id.1, .int .i64 y1.id.2, .slice D2 d2 c2, strV y1.txt, .slice E2 m2 k2] 45)
        have b4 := Blk.new (w2.alloc (.cells #[.int .i64 x1.id.1, .int .i64 x1.id.2, .slice D1 dn c1, strV x1.txt, .slice E1 m k1] 45)) 45 #[.int .i64 y1.id.1, .int .i64 y1.id.2, .slice D2 d2 c2, strV y1.txt, .slice E2 m2 k2]
        have hb4 : Below w2.heap.size w2 ((w2.alloc (.cells #[.int .i64 x1.id.1, .int .i64 x1.id.2, .slice D1 dn c1, strV x1.txt, .slice E1 m k1] 45)).alloc (.cells #[.int .i64 y1.id.1, .int .i64 y1.id.2, .slice D2 d2 c2, strV y1.txt, .slice E2 m2 k2] 45)) := two_box _ _ _
        simp only [World.size_alloc] at b4
        generalize ((w2.alloc (.cells #[.int .i64 x1.id.1, .int .i64 x1.id.2, .slice D1 dn c1, strV x1.txt, .slice E1 m k1] 45)).alloc (.cells #[.int .i64 y1.id.1, .int .i64 y1.id.2, .slice D2 d2 c2, strV y1.txt, .slice E2 m2 k2] 45)) = w4 at b3 b4 hb4 ⊢
        have hw4 := hb4.size
        generalize hz2 : w2.heap.size = z2 at b3 b4 hw4 ⊢
        have hz0 : g + 1 < z2 := by rw [← hz2]; exact HBB.out.lt
        have HB4 := Lib.hid hb4
        have k4 := HBB.out.below hb4 HBB.out.lt; have qb := HBF.out.below hb4 HBF.out.lt
        have HSB : Hid (∀ Y : World, Blk Y (g + 1) 22 #[.slice (some ⟨g, 0, none⟩) n n] → Blk Y z2 45 #[.int .i64 x1.id.1, .int .i64 x1.id.2, .slice D1 dn c1, strV x1.txt, .slice E1 m k1] → Blk Y (z2 + 1) 45 #[.int .i64 y1.id.1, .int .i64 y1.id.2, .slice D2 d2 c2, strV y1.txt, .slice E2 m2 k2] → Y.cell? ⟨g + 1, 0, none⟩ = some (.slice (some ⟨g, 0, none⟩) n n) ∧ Y.cell? ⟨z2, 0, none⟩ = some (.int .i64 x1.id.1) ∧ Y.cell? ⟨z2, 1, none⟩ = some (.int .i64 x1.id.2) ∧ Y.cell? ⟨z2, 2, none⟩ = some (.slice D1 dn c1) ∧ Y.cell? ⟨z2, 3, none⟩ = some (strV x1.txt) ∧ Y.cell? ⟨z2, 4, none⟩ = some (.slice E1 m k1) ∧ Y.cell? ⟨z2 + 1, 0, none⟩ = some (.int .i64 y1.id.1) ∧ Y.cell? ⟨z2 + 1, 1, none⟩ = some (.int .i64 y1.id.2) ∧ Y.cell? ⟨z2 + 1, 2, none⟩ = some (.slice D2 d2 c2) ∧ Y.cell? ⟨z2 + 1, 3, none⟩ = some (strV y1.txt) ∧ Y.cell? ⟨z2 + 1, 4, none⟩ = some (.slice E2 m2 k2)) := Lib.hid (fun Y h1 h2 h3 => ⟨h1.cell 0 rfl, h2.cell 0 rfl, h2.cell 1 rfl, h2.cell 2 rfl, h2.cell 3 rfl, h2.cell 4 rfl, h3.cell 0 rfl, h3.cell 1 rfl, h3.cell 2 rfl, h3.cell 3 rfl, h3.cell 4 rfl⟩)
        have MID := Lib.hid (over_mid (w4 := w4) HI.out HB2.out hb4 HN1.out HN2.out)
        have HK6 := Lib.hid (blk_set5 k4 (g := F) (by omega) (.int .i64 x1.id.1) (.int .i64 x1.id.2) (.slice D1 dn c1) (strV x1.txt) (.slice E1 m k1))
        have HX6 := Lib.hid (blk_set5 b3 (g := F) (by omega) (.int .i64 x1.id.1) (.int .i64 x1.id.2) (.slice D1 dn c1) (strV x1.txt) (.slice E1 m k1))
        have HY6 := Lib.hid (blk_set5 b4 (g := F) (by omega) (.int .i64 x1.id.1) (.int .i64 x1.id.2) (.slice D1 dn c1) (strV x1.txt) (.slice E1 m k1))
        obtain ⟨kk0, e0, e1, e2, e3, e4, yy0, yy1, yy2, yy3, yy4⟩ := HSB.out w4 k4 b3 b4
        have q0 := qb.cell 0 (u := .int .i64 x.id.1) rfl; have q1 := qb.cell 1 (u := .int .i64 x.id.2) rfl; have q2 := qb.cell 2 (u := .slice Dx dn dcx) rfl; have q3 := qb.cell 3 (u := strV x.txt) rfl; have q4 := qb.cell 4 (u := .slice Ex m kx) rfl
        have f0 := qb.frozen 0; have f1 := qb.frozen 1; have f2 := qb.frozen 2; have f3 := qb.frozen 3; have f4 := qb.frozen 4
        have hqlt := qb.lt
        have hin : (i : Int) < (n : Int) := by omega
        clear k4 b3 b4 hb4 qb
        refine round_held (S := fun Y : World => Y.cell? ⟨g + 1, 0, none⟩ = some (.slice (some ⟨g, 0, none⟩) n n) ∧ Y.cell? ⟨z2, 0, none⟩ = some (.int .i64 x1.id.1) ∧ Y.cell? ⟨z2, 1, none⟩ = some (.int .i64 x1.id.2) ∧ Y.cell? ⟨z2, 2, none⟩ = some (.slice D1 dn c1) ∧ Y.cell? ⟨z2, 3, none⟩ = some (strV x1.txt) ∧ Y.cell? ⟨z2, 4, none⟩ = some (.slice E1 m k1) ∧ Y.cell? ⟨z2 + 1, 0, none⟩ = some (.int .i64 y1.id.1) ∧ Y.cell? ⟨z2 + 1, 1, none⟩ = some (.int .i64 y1.id.2) ∧ Y.cell? ⟨z2 + 1, 2, none⟩ = some (.slice D2 d2 c2) ∧ Y.cell? ⟨z2 + 1, 3, none⟩ = some (strV y1.txt) ∧ Y.cell? ⟨z2 + 1, 4, none⟩ = some (.slice E2 m2 k2)) (by kernel_rfl) (by kernel_rfl) ?hq ?hS (fun hS0 => ?_)
        case hq => rintro ⟨_, _, h⟩; exact h
        case hS => exact ⟨kk0, e0, e1, e2, e3, e4, yy0, yy1, yy2, yy3, yy4⟩
        refine wpAnyH_take (i := 0) (v := ?_) rfl (by kernel_rfl) (by kernel_rfl) (by kernel_rfl) (fun _ _ _ h => h) (Or.inl ⟨by rfl, ?_⟩) hS0 ?_
        rotate_left
        · intro Y hY
          obtain ⟨s0, s1, s2, s3, s4, s5, s6, s7, s8, s9, s10⟩ := hY
          go_simp
          try with_reducible rfl
        simp only [Act.put, List.getElem_toArray, List.getElem_cons_succ, List.getElem_cons_zero, List.setIfInBounds_toArray, List.set_cons_succ, List.set_cons_zero]
        refine wpAnyH_take (i := 1) (v := ?_) rfl (by kernel_rfl) (by kernel_rfl) (by kernel_rfl) (fun _ _ _ h => h) (Or.inl ⟨by rfl, ?_⟩) hS0 ?_
        rotate_left
        · intro Y hY
          obtain ⟨s0, s1, s2, s3, s4, s5, s6, s7, s8, s9, s10⟩ := hY
          go_simp
          try with_reducible rfl
        simp only [Act.put, List.getElem_toArray, List.getElem_cons_succ, List.getElem_cons_zero, List.setIfInBounds_toArray, List.set_cons_succ, List.set_cons_zero]
        refine wpAnyH_take (i := 2) (v := ?_) rfl (by kernel_rfl) (by kernel_rfl) (by kernel_rfl) (fun _ _ _ h => h) (Or.inl ⟨by rfl, ?_⟩) hS0 ?_
        rotate_left
        · intro Y hY
          obtain ⟨s0, s1, s2, s3, s4, s5, s6, s7, s8, s9, s10⟩ := hY
          go_simp
          try with_reducible rfl
        simp only [Act.put, List.getElem_toArray, List.getElem_cons_succ, List.getElem_cons_zero, List.setIfInBounds_toArray, List.set_cons_succ, List.set_cons_zero]
        refine wpAnyH_take (i := 3) (v := ?_) rfl (by kernel_rfl) (by kernel_rfl) (by kernel_rfl) (fun _ _ _ h => h) (Or.inl ⟨by rfl, ?_⟩) hS0 ?_
        rotate_left
        · intro Y hY
          obtain ⟨s0, s1, s2, s3, s4, s5, s6, s7, s8, s9, s10⟩ := hY
          go_simp
          try with_reducible rfl
        simp only [Act.put, List.getElem_toArray, List.getElem_cons_succ, List.getElem_cons_zero, List.setIfInBounds_toArray, List.set_cons_succ, List.set_cons_zero]
        refine wpAnyH_ready (rs := [4]) (by kernel_rfl) (by simp) ?_
        refine AllReadyH.cons rfl (fun K1 hK => ?_) AllReadyH.nil
        go_simp
        clear hS0 kk0 e0 e1 e2 e3 e4 yy0 yy1 yy2 yy3 yy4 q0 q1 q2 q3 q4 f0 f1 f2 f3 f4 hqlt
        obtain ⟨a1, a2, a3, a4, a5, a6, a7, a8, a9, a10, a11, a12⟩ := MID.out
        clear MID
        generalize (World.setCell (World.setCell (World.setCell (World.setCell (World.setCell w4 ⟨F, 0, none⟩ (.int .i64 x1.id.1)) ⟨F, 1, none⟩ (.int .i64 x1.id.2)) ⟨F, 2, none⟩ (.slice D1 dn c1)) ⟨F, 3, none⟩ (strV x1.txt)) ⟨F, 4, none⟩ (.slice E1 m k1)) = w6 at *
        refine hK.out _ _ (HSB.out w6.drew (HK6.out.drewN 1) (HX6.out.drewN 1) (HY6.out.drewN 1)) (fun hS1 => ?_)
        clear hK K1
        have hlrow := rep_len HI.out.eq HLN.out (by omega)
        obtain ⟨_, _, _, _, _, _, c0, c1', c2', c3', c4', cf, _⟩ := a1.elem (k := i) (x := noN) hlrow (by rw [List.getElem?_append_left (by simp), List.getElem?_replicate, if_pos (by omega)])
        have f0 := cf (i * 5); have f1 := cf (i * 5 + 1); have f2 := cf (i * 5 + 2); have f3 := cf (i * 5 + 3); have f4 := cf (i * 5 + 4)
        have HF := Lib.hid (over_fin HI.out.pos HI.out.eq HI.out.lx HPL.out HLP.out.1 HLN.out HSM.out a1 a2 a3 a4 a5 a6 a7 a8 a9 a10)
        have HA := Lib.hid (And.intro a11 a12)
        clear a1 a2 a3 a4 a5 a6 a7 a8 a9 a10 a11 a12 cf
        refine wpAnyH_take (i := 5) (v := ?_) rfl (by kernel_rfl) (by kernel_rfl) (by kernel_rfl) (fun _ _ _ h => h) (Or.inl ⟨by rfl, ?_⟩) hS1 ?_
        rotate_left
        · intro Y hY
          obtain ⟨s0, s1, s2, s3, s4, s5, s6, s7, s8, s9, s10⟩ := hY
          go_simp
          try with_reducible rfl
        simp only [Act.put, List.getElem_toArray, List.getElem_cons_succ, List.getElem_cons_zero, List.setIfInBounds_toArray, List.set_cons_succ, List.set_cons_zero]
        refine wpAnyH_ready (rs := [6]) (by kernel_rfl) (by simp) ?_
        refine AllReadyH.cons rfl (fun K1 hK => ?_) AllReadyH.nil
        go_simp
        obtain ⟨t1, t2, t3⟩ := HF.out
        have hk9 := blk_row5 HK6.out (g := g) (by omega) i (.int .i64 y1.id.1) (.int .i64 y1.id.2) (.slice D2 d2 c2) (strV y1.txt) (.slice E2 m2 k2)
        have hx9 := blk_row5 HX6.out (g := g) (by omega) i (.int .i64 y1.id.1) (.int .i64 y1.id.2) (.slice D2 d2 c2) (strV y1.txt) (.slice E2 m2 k2)
        have hy9 := blk_row5 HY6.out (g := g) (by omega) i (.int .i64 y1.id.1) (.int .i64 y1.id.2) (.slice D2 d2 c2) (strV y1.txt) (.slice E2 m2 k2)
        clear HF c0 c1' c2' c3' c4' f0 f1 f2 f3 f4
        generalize (World.setCell (World.setCell (World.setCell (World.setCell (World.setCell w6 ⟨g, i * 5, none⟩ (.int .i64 y1.id.1)) ⟨g, i * 5 + 1, none⟩ (.int .i64 y1.id.2)) ⟨g, i * 5 + 2, none⟩ (.slice D2 d2 c2)) ⟨g, i * 5 + 3, none⟩ (strV y1.txt)) ⟨g, i * 5 + 4, none⟩ (.slice E2 m2 k2)) = w9 at *
        refine hK.out _ _ (HSB.out w9.drew (hk9.drewN 1) (hx9.drewN 1) (hy9.drewN 1)) (fun _ => wpAnyH_done (by kernel_rfl) ?_ _)
        clear hK K1 hS1
        have hj : n - (pre ++ [i]).length = i := by rw [List.length_append, List.length_singleton]; omega
        have hd : Below w9.heap.size w9 w9.drew := below_drewN (Below.refl _ _) 1
        refine ⟨((HA.out.1 _).trans (t2 _)).trans (keepsFrom_below _ hd), ⟨fun v hv => t3 _ v (by omega) (HA.out.2 _ v (by omega) hv), fun _ => cells5_below (cells5_rd t1.ls HLN.out) hd⟩, x1, y1 :: post, D1, c1, E1, k1, ?_⟩
        rw [hj]
        exact t1.mv hd
    case done =>
      rintro E9 W hE hI hK
      obtain ⟨x, post, Dx, dcx, Ex, kx, hI⟩ := hI
      rw [dn_length, Nat.sub_self] at hI
      have hbf := hI.bf; have hbb := hI.bb; have hr0 := hI.r0; have hr1 := hI.r1; have hr2 := hI.r2
      have q0 := hbf.cell 0 (u := .int .i64 x.id.1) rfl; have q1 := hbf.cell 1 (u := .int .i64 x.id.2) rfl; have q2 := hbf.cell 2 (u := .slice Dx dn dcx) rfl; have q3 := hbf.cell 3 (u := strV x.txt) rfl; have q4 := hbf.cell 4 (u := .slice Ex m kx) rfl
      have bb0 := hbb.cell 0 (u := .slice (some ⟨g, 0, none⟩) n n) rfl
      have r0 := hr0.cell 0 (u := .int .i64 0) rfl; have r1 := hr0.cell 1 (u := .int .i64 0) rfl; have r2 := hr0.cell 2 (u := .slice none 0 0) rfl; have r3 := hr0.cell 3 (u := .string ⟨#[]⟩) rfl; have r4 := hr0.cell 4 (u := .slice none 0 0) rfl
      have f0 := hr0.frozen 0; have f1 := hr0.frozen 1; have f2 := hr0.frozen 2; have f3 := hr0.frozen 3; have f4 := hr0.frozen 4
      have s0 := hr1.cell 0 (u := .slice none 0 0) rfl; have g0 := hr1.frozen 0
      have t0 := hr2.cell 0 (u := .bool false) rfl; have h0 := hr2.frozen 0
      have hlt0 := hbf.lt; have hlt1 := hr0.lt; have hlt := hr1.lt; have hlt2 := hr2.lt; have hltz := Nat.lt_of_succ_lt hr0.lt; have hltb := hbb.lt
      have HI := Lib.hid hI
      have HD := Lib.hid (over_done hI (show w.heap.size ≤ E9 by omega) hK)
      clear hI hbf hbb hr0 hr1 hr2
      gi_wp2
      refine wpIn_wide.2 ?_
      have HSB : Hid (∀ Y : World, Blk Y (g + 1) 22 #[.slice (some ⟨g, 0, none⟩) n n] → Blk Y F 45 #[.int .i64 x.id.1, .int .i64 x.id.2, .slice Dx dn dcx, strV x.txt, .slice Ex m kx] → Y.cell? ⟨g + 1, 0, none⟩ = some (.slice (some ⟨g, 0, none⟩) n n) ∧ Y.cell? ⟨F, 0, none⟩ = some (.int .i64 x.id.1) ∧ Y.cell? ⟨F, 1, none⟩ = some (.int .i64 x.id.2) ∧ Y.cell? ⟨F, 2, none⟩ = some (.slice Dx dn dcx) ∧ Y.cell? ⟨F, 3, none⟩ = some (strV x.txt) ∧ Y.cell? ⟨F, 4, none⟩ = some (.slice Ex m kx)) := Lib.hid (fun Y h1 h2 => ⟨h1.cell 0 rfl, h2.cell 0 rfl, h2.cell 1 rfl, h2.cell 2 rfl, h2.cell 3 rfl, h2.cell 4 rfl⟩)
      have HKD := Lib.hid (HSB.out W.drew (HI.out.bb.drewN 1) (HI.out.bf.drewN 1))
      have HKA := Lib.hid (HSB.out (World.setCell (World.setCell (World.setCell (World.setCell (World.setCell W ⟨z + 1, 0, none⟩ (.int .i64 x.id.1)) ⟨z + 1, 1, none⟩ (.int .i64 x.id.2)) ⟨z + 1, 2, none⟩ (.slice Dx dn dcx)) ⟨z + 1, 3, none⟩ (strV x.txt)) ⟨z + 1, 4, none⟩ (.slice Ex m kx)).drew ((blk_set5 HI.out.bb (show g + 1 ≠ z + 1 by omega) (.int .i64 x.id.1) (.int .i64 x.id.2) (.slice Dx dn dcx) (strV x.txt) (.slice Ex m kx)).drewN 1) ((blk_set5 HI.out.bf (show F ≠ z + 1 by omega) (.int .i64 x.id.1) (.int .i64 x.id.2) (.slice Dx dn dcx) (strV x.txt) (.slice Ex m kx)).drewN 1))
      have HKB := Lib.hid (HSB.out (World.setCell (World.setCell (World.setCell (World.setCell (World.setCell (World.setCell W ⟨z + 1, 0, none⟩ (.int .i64 x.id.1)) ⟨z + 1, 1, none⟩ (.int .i64 x.id.2)) ⟨z + 1, 2, none⟩ (.slice Dx dn dcx)) ⟨z + 1, 3, none⟩ (strV x.txt)) ⟨z + 1, 4, none⟩ (.slice Ex m kx)) ⟨z + 1 + 1, 0, none⟩ (.slice (some ⟨g, 0, none⟩) n n)).drew (((blk_set5 HI.out.bb (show g + 1 ≠ z + 1 by omega) (.int .i64 x.id.1) (.int .i64 x.id.2) (.slice Dx dn dcx) (strV x.txt) (.slice Ex m kx)).set_ne (show g + 1 ≠ z + 1 + 1 by omega) 0 (.slice (some ⟨g, 0, none⟩) n n)).drewN 1) (((blk_set5 HI.out.bf (show F ≠ z + 1 by omega) (.int .i64 x.id.1) (.int .i64 x.id.2) (.slice Dx dn dcx) (strV x.txt) (.slice Ex m kx)).set_ne (show F ≠ z + 1 + 1 by omega) 0 (.slice (some ⟨g, 0, none⟩) n n)).drewN 1))
      have HKC := Lib.hid (HSB.out (World.setCell (World.setCell (World.setCell (World.setCell (World.setCell (World.setCell (World.setCell W ⟨z + 1, 0, none⟩ (.int .i64 x.id.1)) ⟨z + 1, 1, none⟩ (.int .i64 x.id.2)) ⟨z + 1, 2, none⟩ (.slice Dx dn dcx)) ⟨z + 1, 3, none⟩ (strV x.txt)) ⟨z + 1, 4, none⟩ (.slice Ex m kx)) ⟨z + 1 + 1, 0, none⟩ (.slice (some ⟨g, 0, none⟩) n n)) ⟨z + 1 + 1 + 1, 0, none⟩ (.bool true)).drew ((((blk_set5 HI.out.bb (show g + 1 ≠ z + 1 by omega) (.int .i64 x.id.1) (.int .i64 x.id.2) (.slice Dx dn dcx) (strV x.txt) (.slice Ex m kx)).set_ne (show g + 1 ≠ z + 1 + 1 by omega) 0 (.slice (some ⟨g, 0, none⟩) n n)).set_ne (show g + 1 ≠ z + 1 + 1 + 1 by omega) 0 (.bool true)).drewN 1) ((((blk_set5 HI.out.bf (show F ≠ z + 1 by omega) (.int .i64 x.id.1) (.int .i64 x.id.2) (.slice Dx dn dcx) (strV x.txt) (.slice Ex m kx)).set_ne (show F ≠ z + 1 + 1 by omega) 0 (.slice (some ⟨g, 0, none⟩) n n)).set_ne (show F ≠ z + 1 + 1 + 1 by omega) 0 (.bool true)).drewN 1))
      go_region_held3 (fun Y => Y.cell? ⟨g + 1, 0, none⟩ = some (.slice (some ⟨g, 0, none⟩) n n) ∧ Y.cell? ⟨F, 0, none⟩ = some (.int .i64 x.id.1) ∧ Y.cell? ⟨F, 1, none⟩ = some (.int .i64 x.id.2) ∧ Y.cell? ⟨F, 2, none⟩ = some (.slice Dx dn dcx) ∧ Y.cell? ⟨F, 3, none⟩ = some (strV x.txt) ∧ Y.cell? ⟨F, 4, none⟩ = some (.slice Ex m kx))
        (first | (with_reducible exact HKD.out) | (with_reducible exact HKA.out) | (with_reducible exact HKB.out) | (with_reducible exact HKC.out))
        (fail)
      have hd := over_done (OvI.mv HI.out (show Below W.heap.size W W.drew from below_drewN (Below.refl _ _) 1)) (show w.heap.size ≤ E9 by omega) hK
      dsimp only [nmC] at hd
      simp only [World.setCell_drew] at hd
      have HD := Lib.hid hd
      clear hd HKD HKA HKB HKC HSB bb0 q0 q1 q2 q3 q4 r0 r1 r2 r3 r4 f0 f1 f2 f3 f4 s0 g0 t0 h0 hlt0 hlt1 hlt hlt2 hltz hltb
      gi_wp2
      obtain ⟨d1, d2, d3, d4, d5, d6, d7⟩ := HD.out
      refine ⟨by simp, .inl ⟨_, _, rfl, run_takeDeferred d1, ?_⟩⟩
      clear d1 hK
      generalize (World.putObj (World.setCell (World.setCell (World.setCell (World.setCell (World.setCell (World.setCell (World.setCell W ⟨z + 1, 0, none⟩ (.int .i64 x.id.1)) ⟨z + 1, 1, none⟩ (.int .i64 x.id.2)) ⟨z + 1, 2, none⟩ (.slice Dx dn dcx)) ⟨z + 1, 3, none⟩ (strV x.txt)) ⟨z + 1, 4, none⟩ (.slice Ex m kx)) ⟨z + 1 + 1, 0, none⟩ (.slice (some ⟨g, 0, none⟩) n n)) ⟨z + 1 + 1 + 1, 0, none⟩ (.bool true)).drew E9 (.deferred none)) = W9 at *
      have u0 := d2.cell 0 (u := .int .i64 x.id.1) rfl; have u1 := d2.cell 1 (u := .int .i64 x.id.2) rfl; have u2 := d2.cell 2 (u := .slice Dx dn dcx) rfl; have u3 := d2.cell 3 (u := strV x.txt) rfl; have u4 := d2.cell 4 (u := .slice Ex m kx) rfl
      have y0 := d3.cell 0 (u := .slice (some ⟨g, 0, none⟩) n n) rfl; have z0 := d4.cell 0 (u := .bool true) rfl
      refine ⟨.tuple #[.agg #[.int .i64 x.id.1, .int .i64 x.id.2, .slice Dx dn dcx, strV x.txt, .slice Ex m kx], .slice (some ⟨g, 0, none⟩) n n, .bool true], by simp [results, Try.results25, go_sem, u0, u1, u2, u3, u4, y0, z0], ?_⟩
      have he := HI.out.eq
      rw [List.drop_zero] at he
      have ho := HO.out; have hs := HS.out
      rw [he] at ho hs
      injection ho with e1 e2
      subst e1 e2 hs
      exact ⟨Dx, dn, dcx, Ex, m, kx, _, rfl, d5, d6, d7⟩
    case stop =>
      rintro E9 c' pre post W hE hpp ⟨rfl, ho, r0, r1, r2, fr⟩ hK
      gi_wp2
      refine ⟨by simp, .inl ⟨_, _, rfl, run_takeDeferred hK, ?_⟩⟩
      obtain ⟨p1, p2, _, _, _⟩ := over_put (show w.heap.size ≤ E9 by omega) hK fr
      have d2 := p2 _ _ _ r0; have d3 := p2 _ _ _ r1; have d4 := p2 _ _ _ r2
      clear hK r0 r1 r2 fr p2
      generalize (World.putObj W E9 (.deferred none)) = W9 at *
      have u0 := d2.cell 0 (u := .int .i64 0) rfl; have u1 := d2.cell 1 (u := .int .i64 0) rfl; have u2 := d2.cell 2 (u := .slice none 0 0) rfl; have u3 := d2.cell 3 (u := .string ⟨#[]⟩) rfl; have u4 := d2.cell 4 (u := .slice none 0 0) rfl
      have y0 := d3.cell 0 (u := .slice none 0 0) rfl; have z0 := d4.cell 0 (u := .bool false) rfl
      refine ⟨.tuple #[.agg #[.int .i64 0, .int .i64 0, .slice none 0 0, .string ⟨#[]⟩, .slice none 0 0], .slice none 0 0, .bool false], by simp [results, Try.results25, go_sem, u0, u1, u2, u3, u4, y0, z0], ?_⟩
      have ho' := HO.out; have hs := HS.out
      rw [ho] at ho' hs
      injection ho' with e1 e2
      subst e1 e2 hs
      exact ⟨none, 0, 0, none, 0, 0, _, rfl, ng_no _ _, ⟨[], World.ownsRow_nil _ _ _ _, fun k x hx => by simp at hx⟩, p1⟩

end Tg
end Go.Proofs.Ytdnkinajbebkoaa

set_option maxRecDepth 100000
namespace Go.Proofs.Ytdnkinajbebkoaa
open Go.RowKit
set_option linter.unusedVariables false
set_option linter.unusedSimpArgs false
namespace Tg
open Tx Df Sq Hk Tr Pr Fl Pn
attribute [local go_sem] eq_id

end Tg
end Go.Proofs.Ytdnkinajbebkoaa

namespace Go.Proofs.Ytdnkinajbebkoaa
open Go.RowKit
set_option linter.unusedVariables false
namespace Tg
open Tx Df Sq Hk Tr Pr Fl Pn

/-- Where two patches lie, made since w; what there was in u is as it was, but for their blocks. -/
def Lay5 (w u W : World) (T U : Nat) (x y : Array Value) : Prop := Blk W T 45 x ∧ Blk W U 45 y ∧ w.heap.size ≤ T ∧ w.heap.size ≤ U ∧ Below w.heap.size w W ∧ u.heap.size ≤ W.heap.size ∧ Fl.Alike (fun b => b < u.heap.size ∧ b ≠ T ∧ b ≠ U) u W
section
variable {w u : World} {T U X Y : Nat} {x0 x1 x2 x3 x4 y0 y1 y2 y3 y4 : Value}
theorem Lay5.swap {W : World} {x y : Array Value} (h : Lay5 w u W T U x y) : Lay5 w u W U T y x := ⟨h.2.1, h.1, h.2.2.2.1, h.2.2.1, h.2.2.2.2.1, h.2.2.2.2.2.1, h.2.2.2.2.2.2.mono fun b hb => ⟨hb.1, hb.2.2, hb.2.1⟩⟩
end

/-- The blocks that S names, and those behind g. -/
def QS (S : Nat → Prop) (g : Nat) (W : World) : Nat → Prop := fun b => S b ∨ (g < b ∧ b < W.heap.size)
/-- The blocks that S names and those made since w, but for a row's own. -/
def Else (S : Nat → Prop) (w w' : World) (v : Value) : Nat → Prop := fun b => Also S w w' b ∧ some b ≠ v.ownBlock
/-- How the document's own Over ends that tells x, ys and bo: in blocks that S names, or in memory that is new. -/
def ROEndS (w : World) (S : Nat → Prop) (x : Nm) (ys : List Nm) (bo : Bool) (e : Ending) (w' : World) : Prop :=
  ∃ D d c E m k A n ca, e = .returned (.tuple #[nmV x.id D d c x.txt E m k, .slice A n ca, .bool bo]) ∧ NG w' (Else S w w' (.slice A n ca)) D d c E m k x ∧ ys.length = n ∧ OwnT w' (Else S w w' (.slice A n ca)) w.heap.size (.slice A n ca) ys ∧ Below w.heap.size w w'
/-- How it ends, in short. -/
def ROEnd (w : World) (x : Nm) (ys : List Nm) (bo : Bool) (e : Ending) (w' : World) : Prop :=
  ∃ D d c E m k A n ca, e = .returned (.tuple #[nmV x.id D d c x.txt E m k, .slice A n ca, .bool bo]) ∧ NV w' w'.heap.size D d c E m k x ∧ ys.length = n ∧ n ≤ ca ∧ RdN w' w'.heap.size A ys ∧ Below w.heap.size w w'
theorem ownT_nil (W : World) (S : Nat → Prop) (base : Nat) : OwnT W S base (.slice none 0 0) [] := ⟨[], World.ownsRow_nil _ _ _ _, fun k x hx => by simp at hx⟩
theorem OwnT.base {W : World} {S : Nat → Prop} {b b' : Nat} {v : Value} {l : List Nm} (h : OwnT W S b v l) (hb : b' ≤ b) : OwnT W S b' v l := by
  obtain ⟨xs, h1, h2⟩ := h
  exact ⟨xs, own_mono h1 hb, h2⟩
theorem ROEndS.short {w w' : World} {S : Nat → Prop} {x : Nm} {ys : List Nm} {bo : Bool} {e : Ending} (hS : ∀ b, S b → b < w.heap.size) (h : ROEndS w S x ys bo e w') : ROEnd w x ys bo e w' := by
  obtain ⟨D, d, c, E, m, k, A, n, ca, h0, h1, h2, h3, h4⟩ := h
  have up : ∀ b, Else S w w' (.slice A n ca) b → b < w'.heap.size := fun b hb => by
    rcases hb.1 with h | h
    · exact Nat.lt_of_lt_of_le (hS b h) h4.size
    · exact h.2
  obtain ⟨A', c', e', g1, g2⟩ := rdN_ownT h3 up
  rw [h2] at e' g1
  injection e' with e1 e2 e3
  subst e1 e3
  exact ⟨D, d, c, E, m, k, A, n, ca, h0, (h1.mono up).nv, h2, g1, g2, h4⟩

end Tg
end Go.Proofs.Ytdnkinajbebkoaa

namespace Go.Proofs.Ytdnkinajbebkoaa
open Go.RowKit
set_option linter.unusedVariables false
set_option linter.unusedSimpArgs false
namespace Tg
open Tx Df Sq Hk Tr Pr Fl Pn

end Tg
end Go.Proofs.Ytdnkinajbebkoaa

set_option maxRecDepth 100000
namespace Go.Proofs.Ytdnkinajbebkoaa
open Go.RowKit
set_option linter.unusedVariables false
namespace Bb
open Tx Df Sq Hk Tr Pr Fl Pn Tg

/-- The blocks there are that are no row's of the two. -/
def PS (W : World) (v u : Value) : Nat → Prop := fun b => b < W.heap.size ∧ some b ≠ v.ownBlock ∧ some b ≠ u.ownBlock
/-- Two rows of patches, made since w. -/
structure Rows2 (w W : World) (v u : Value) (s g : List Nm) : Prop where
  a : Tg.OwnT W (PS W v u) w.heap.size v s
  b : Tg.OwnT W (PS W v u) w.heap.size u g
  ne : ∀ k, v.ownBlock = some k → u.ownBlock ≠ some k
  bw : Below w.heap.size w W
section
variable {w W W' : World} {v u v' u' : Value} {s g t : List Nm}
theorem ps_swap : ∀ b, PS W v u b → PS W u v b := fun b h => ⟨h.1, h.2.2, h.2.1⟩
theorem ps_size (hs : W.heap.size ≤ W'.heap.size) : ∀ b, PS W v u b → PS W' v u b := fun b h => ⟨Nat.lt_of_lt_of_le h.1 hs, h.2⟩
theorem Rows2.swap (h : Rows2 w W v u s g) : Rows2 w W u v g s := ⟨h.b.mono ps_swap, h.a.mono ps_swap, fun k e e' => h.ne k e' e, h.bw⟩
theorem Rows2.below (h : Rows2 w W v u s g) (hb : Below W.heap.size W W') : Rows2 w W' v u s g := ⟨(h.a.below hb).mono (ps_size hb.size), (h.b.below hb).mono (ps_size hb.size), h.ne, below_mv h.bw hb⟩
/-- What is older than both lies in no row of theirs. -/
theorem Rows2.old (h : Rows2 w W v u s g) : ∀ b, b < w.heap.size → PS W v u b := fun b hb =>
  ⟨Nat.lt_of_lt_of_le hb h.bw.size, fun e => by have := Tg.ownT_ge h.a b e.symm; omega, fun e => by have := Tg.ownT_ge h.b b e.symm; omega⟩
/-- Appended onto the first one. -/
theorem Rows2.app (h : Rows2 w W v u s g) (ho : Tg.OwnT W' (PS W v u) w.heap.size v' t) (hg : W.grownBy W' v.ownBlock) (hw : ∀ b, v'.ownBlock = some b → v.ownBlock = some b ∨ W.heap.size ≤ b) : Rows2 w W' v' u t g := by
  have up : ∀ b, PS W v u b → PS W' v' u b := fun b hb => ⟨Nat.lt_of_lt_of_le hb.1 hg.size, fun e => by
    rcases hw b e.symm with h | h
    · exact hb.2.1 h.symm
    · have := hb.1; omega, hb.2.2⟩
  refine ⟨ho.mono up, (h.b.other hg ?_ fun b hb => hb.2.1).mono up, fun k e e' => ?_, h.bw.grown hg h.bw.size (fun k e => Tg.ownT_ge h.a k e)⟩
  · cases e : u.ownBlock with
    | none => exact .inl rfl
    | some k => exact .inr fun e' => h.ne k e'.symm e
  · rcases hw k e with h1 | h1
    · exact h.ne k h1 e'
    · have := Tg.ownT_lt h.b k e'; omega
theorem else_ps (h : Rows2 w W v u s g) (hx : Tg.OwnT W' (Else (PS W v u) W W' u') W.heap.size u' t) (hb : Below W.heap.size W W') : ∀ b, Else (PS W v u) W W' u' b → PS W' v u' b := fun b hq => by
  rcases hq.1 with h1 | h1
  · exact ⟨Nat.lt_of_lt_of_le h1.1 hb.size, h1.2.1, hq.2⟩
  · exact ⟨h1.2, fun e => by have := Tg.ownT_lt h.a b e.symm; omega, hq.2⟩
/-- Another one in the second one's place. -/
theorem Rows2.over (h : Rows2 w W v u s g) (hx : Tg.OwnT W' (Else (PS W v u) W W' u') W.heap.size u' t) (hb : Below W.heap.size W W') : Rows2 w W' v u' s t := by
  refine ⟨(h.a.below hb).mono fun b hq => ⟨Nat.lt_of_lt_of_le hq.1 hb.size, hq.2.1, fun e => ?_⟩, (hx.mono (else_ps h hx hb)).base h.bw.size, fun k e e' => ?_, below_mv h.bw hb⟩
  · have := Tg.ownT_ge hx b e.symm; have := hq.1; omega
  · have := Tg.ownT_ge hx k e'; have := Tg.ownT_lt h.a k e; omega
theorem ps_lt : ∀ b, PS W v u b → b < W.heap.size := fun b h => h.1
end

/-- How a function ends that tells two lists of patches. -/
def PartEnd (w : World) (s g : List Nm) (e : Ending) (w' : World) : Prop :=
  ∃ A1 n1 c1 A2 n2 c2, e = .returned (.tuple #[.slice A1 n1 c1, .slice A2 n2 c2]) ∧ s.length = n1 ∧ n1 ≤ c1 ∧ RdN w' w'.heap.size A1 s ∧ g.length = n2 ∧ n2 ≤ c2 ∧ RdN w' w'.heap.size A2 g ∧ Below w.heap.size w w'
theorem Rows2.end_ {w W : World} {A1 A2 : Option Addr} {n1 c1 n2 c2 : Nat} {s g : List Nm} (h : Rows2 w W (.slice A1 n1 c1) (.slice A2 n2 c2) s g) : PartEnd w s g (.returned (.tuple #[.slice A1 n1 c1, .slice A2 n2 c2])) W := by
  obtain ⟨A, c, e, h1, h2⟩ := rdN_ownT h.a ps_lt
  injection e with e1 e2 e3
  subst e1 e2 e3
  obtain ⟨A, c, e, g1, g2⟩ := rdN_ownT h.b ps_lt
  injection e with e1 e2 e3
  subst e1 e2 e3
  exact ⟨_, _, _, _, _, _, rfl, rfl, h1, h2, rfl, g1, g2, h.bw⟩

end Bb
end Go.Proofs.Ytdnkinajbebkoaa

set_option maxRecDepth 100000
namespace Go.Proofs.Ytdnkinajbebkoaa
open Go.RowKit
set_option linter.unusedVariables false
namespace Bb
open Tx Df Sq Hk Tr Pr Fl Pn Tg

/-- All that there was is as it was, but for the blocks that R names. -/
structure Mine (R : Nat → Prop) (W W' : World) : Prop where
  os : W'.os = W.os
  tape : W'.tape = W.tape
  output : W'.output = W.output
  size : W.heap.size ≤ W'.heap.size
  block : ∀ k, k < W.heap.size → ¬ R k → W'.heap[k]? = W.heap[k]?
section
variable {R T : Nat → Prop} {W W' X : World}
theorem Mine.refl (R : Nat → Prop) (W : World) : Mine R W W := ⟨rfl, rfl, rfl, Nat.le_refl _, fun _ _ _ => rfl⟩
theorem mine_below (h : Below W.heap.size W W') : Mine R W W' := ⟨h.os, h.tape, h.output, h.size, fun k hk _ => h.block k hk⟩
theorem mine_grown {row : Option Nat} (h : W.grownBy W' row) (hr : ∀ k, row = some k → R k) : Mine R W W' := ⟨h.os, h.tape, h.output, h.size, fun k hk hn => h.block k hk fun e => hn (hr k e.symm)⟩
theorem mine_set (W : World) {b : Nat} (hR : R b) (j : Nat) (x : Value) : Mine R W (W.setCell ⟨b, j, none⟩ x) := mine_grown (grownBy_set W b j x) fun k e => by injection e with e; exact e ▸ hR
theorem Mine.trans (h : Mine R W X) (k : Mine T X W') (hT : ∀ b, T b → R b ∨ W.heap.size ≤ b) : Mine R W W' :=
  ⟨k.os.trans h.os, k.tape.trans h.tape, k.output.trans h.output, Nat.le_trans h.size k.size, fun b hb hn => (k.block b (Nat.lt_of_lt_of_le hb h.size) fun e => (hT b e).elim hn (fun h => by omega)).trans (h.block b hb hn)⟩
theorem Mine.mono (h : Mine R W W') (hT : ∀ b, R b → T b) : Mine T W W' := ⟨h.os, h.tape, h.output, h.size, fun b hb hn => h.block b hb fun e => hn (hT b e)⟩
theorem Mine.setn (h : Mine R W X) {b : Nat} (hb : R b ∨ W.heap.size ≤ b) (j : Nat) (x : Value) : Mine R W (X.setCell ⟨b, j, none⟩ x) := h.trans (mine_set (R := fun c => c = b) X rfl j x) (fun c e => e ▸ hb)
theorem Mine.set5 (h : Mine R W X) {b : Nat} (hb : R b ∨ W.heap.size ≤ b) (v0 v1 v2 v3 v4 : Value) : Mine R W (((((X.setCell ⟨b, 0, none⟩ v0).setCell ⟨b, 1, none⟩ v1).setCell ⟨b, 2, none⟩ v2).setCell ⟨b, 3, none⟩ v3).setCell ⟨b, 4, none⟩ v4) :=
  ((((h.setn hb 0 v0).setn hb 1 v1).setn hb 2 v2).setn hb 3 v3).setn hb 4 v4
theorem Mine.blk {b : Nat} {t : TypeId} {cs : Array Value} (h : Mine R W W') (hb : Blk W b t cs) (hn : ¬ R b) : Blk W' b t cs := (h.block b hb.lt hn).trans hb
theorem Mine.keeps (h : Mine R W W') (hR : ∀ b, R b → ∃ c t f, W.heap[b]? = some (.cells c t f)) (B : Nat) : KeepsFrom B W W' := ⟨h.size, fun k o _ hk ho => by
  refine (h.block k (Array.getElem?_eq_some_iff.1 hk).1 fun e => ?_).trans hk
  obtain ⟨c, t, f, e'⟩ := hR k e
  rw [hk] at e'
  cases e'
  cases ho⟩
theorem Mine.below {n : Nat} {w : World} (h : Mine R W W') (hb : Below n w W) (hR : ∀ b, R b → n ≤ b) (hn : n ≤ W.heap.size) : Below n w W' :=
  ⟨h.os.trans hb.os, h.tape.trans hb.tape, h.output.trans hb.output, Nat.le_trans hb.size h.size, fun k hk => (h.block k (by omega) fun e => by have := hR k e; omega).trans (hb.block k hk)⟩
theorem Mine.cells5 {A : Option Addr} {m : Nat} (h : Mine R W W') (hc : Cells5 W A m) (hA : ∀ a, A = some a → ¬ R a.block) : Cells5 W' A m := fun i hi => by
  obtain ⟨a, v0, v1, v2, v3, v4, rfl, c0, c1, c2, c3, c4⟩ := hc i hi
  have key : ∀ {p : Addr} {u : Value}, p.block = a.block → W.cell? p = some u → W'.cell? p = some u := fun {p u} e hu => (World.cell?_of_block (h.block p.block (World.block_lt_of_cell? W p hu) (by rw [e]; exact hA a rfl))).trans hu
  exact ⟨a, v0, v1, v2, v3, v4, rfl, key (add_block _ _) c0, key (add_block _ _) c1, key (add_block _ _) c2, key (add_block _ _) c3, key (add_block _ _) c4⟩
end

/-- The blocks there are that are no row's of the two, and that R does not name. -/
def PR (R : Nat → Prop) (W : World) (v u : Value) : Nat → Prop := fun b => b < W.heap.size ∧ ¬ R b ∧ some b ≠ v.ownBlock ∧ some b ≠ u.ownBlock
/-- Two rows of patches, made since w, beside the blocks that R names. -/
structure Rows3 (R : Nat → Prop) (w W : World) (v u : Value) (g s : List Nm) : Prop where
  a : Tg.OwnT W (PR R W v u) w.heap.size v g
  b : Tg.OwnT W (PR R W v u) w.heap.size u s
  ne : ∀ k, v.ownBlock = some k → u.ownBlock ≠ some k
  na : ∀ k, v.ownBlock = some k → ¬ R k
  nb : ∀ k, u.ownBlock = some k → ¬ R k
  bw : Below w.heap.size w W
  rl : ∀ k, R k → w.heap.size ≤ k ∧ k < W.heap.size
section
variable {R T : Nat → Prop} {w W W' : World} {v u v' u' : Value} {s g t : List Nm}
theorem pr_swap : ∀ b, PR R W v u b → PR R W u v b := fun b h => ⟨h.1, h.2.1, h.2.2.2, h.2.2.1⟩
theorem pr_size (hs : W.heap.size ≤ W'.heap.size) : ∀ b, PR R W v u b → PR R W' v u b := fun b h => ⟨Nat.lt_of_lt_of_le h.1 hs, h.2⟩
theorem pr_lt : ∀ b, PR R W v u b → b < W.heap.size := fun b h => h.1
theorem Rows3.swap (h : Rows3 R w W v u g s) : Rows3 R w W u v s g := ⟨h.b.mono pr_swap, h.a.mono pr_swap, fun k e e' => h.ne k e' e, h.nb, h.na, h.bw, h.rl⟩
theorem Rows3.below (h : Rows3 R w W v u g s) (hb : Below W.heap.size W W') : Rows3 R w W' v u g s :=
  ⟨(h.a.below hb).mono (pr_size hb.size), (h.b.below hb).mono (pr_size hb.size), h.ne, h.na, h.nb, below_mv h.bw hb, fun k e => ⟨(h.rl k e).1, Nat.lt_of_lt_of_le (h.rl k e).2 hb.size⟩⟩
/-- Other boxes, which are new. -/
theorem Rows3.more (h : Rows3 R w W v u g s) (hT : ∀ b, T b → R b ∨ W.heap.size ≤ b) (hb : Below W.heap.size W W') (hl : ∀ b, T b → b < W'.heap.size) : Rows3 T w W' v u g s := by
  have up : ∀ b, PR R W v u b → PR T W' v u b := fun b hq => ⟨Nat.lt_of_lt_of_le hq.1 hb.size, fun e => (hT b e).elim hq.2.1 (fun e => by have := hq.1; omega), hq.2.2⟩
  have lt1 : ∀ k, v.ownBlock = some k → k < W.heap.size := Tg.ownT_lt h.a
  have lt2 : ∀ k, u.ownBlock = some k → k < W.heap.size := Tg.ownT_lt h.b
  refine ⟨(h.a.below hb).mono up, (h.b.below hb).mono up, h.ne, fun k e e' => ?_, fun k e e' => ?_, below_mv h.bw hb, fun k e => ⟨?_, hl k e⟩⟩
  · rcases hT k e' with h1 | h1
    · exact h.na k e h1
    · have := lt1 k e; omega
  · rcases hT k e' with h1 | h1
    · exact h.nb k e h1
    · have := lt2 k e; omega
  · rcases hT k e with h1 | h1
    · exact (h.rl k h1).1
    · exact Nat.le_trans h.bw.size h1
/-- Fewer boxes. -/
theorem Rows3.less (h : Rows3 R w W v u g s) (hT : ∀ b, T b → R b) : Rows3 T w W v u g s := by
  have up : ∀ b, PR R W v u b → PR T W v u b := fun b hq => ⟨hq.1, fun e => hq.2.1 (hT b e), hq.2.2⟩
  exact ⟨h.a.mono up, h.b.mono up, h.ne, fun k e e' => h.na k e (hT k e'), fun k e e' => h.nb k e (hT k e'), h.bw, fun k e => h.rl k (hT k e)⟩
/-- A box is written. -/
theorem Rows3.set (h : Rows3 R w W v u g s) {b : Nat} (hb : R b) (j : Nat) (x : Value) : Rows3 R w (W.setCell ⟨b, j, none⟩ x) v u g s := by
  have hs : W.heap.size = (W.setCell ⟨b, j, none⟩ x).heap.size := by simp
  have up : ∀ c, PR R W v u c → PR R (W.setCell ⟨b, j, none⟩ x) v u c := pr_size (Nat.le_of_eq hs)
  exact ⟨(h.a.set (fun e => h.na b e.symm hb) (fun e => e.2.1 hb) j x).mono up, (h.b.set (fun e => h.nb b e.symm hb) (fun e => e.2.1 hb) j x).mono up, h.ne, h.na, h.nb, h.bw.setCell (p := ⟨b, j, none⟩) (h.rl b hb).1 x, fun k e => ⟨(h.rl k e).1, by rw [← hs]; exact (h.rl k e).2⟩⟩
theorem Rows3.set5 (h : Rows3 R w W v u g s) {b : Nat} (hb : R b) (v0 v1 v2 v3 v4 : Value) : Rows3 R w (((((W.setCell ⟨b, 0, none⟩ v0).setCell ⟨b, 1, none⟩ v1).setCell ⟨b, 2, none⟩ v2).setCell ⟨b, 3, none⟩ v3).setCell ⟨b, 4, none⟩ v4) v u g s :=
  ((((h.set hb 0 v0).set hb 1 v1).set hb 2 v2).set hb 3 v3).set hb 4 v4
/-- The first row is written, or appended onto. -/
theorem Rows3.app (h : Rows3 R w W v u g s) (ho : Tg.OwnT W' (PR R W v u) w.heap.size v' t) (hg : W.grownBy W' v.ownBlock) (hw : ∀ b, v'.ownBlock = some b → v.ownBlock = some b ∨ W.heap.size ≤ b) : Rows3 R w W' v' u t s := by
  have up : ∀ b, PR R W v u b → PR R W' v' u b := fun b hb => ⟨Nat.lt_of_lt_of_le hb.1 hg.size, hb.2.1, fun e => by
    rcases hw b e.symm with h | h
    · exact hb.2.2.1 h.symm
    · have := hb.1; omega, hb.2.2.2⟩
  refine ⟨ho.mono up, (h.b.other hg ?_ fun b hb => hb.2.2.1).mono up, fun k e e' => ?_, fun k e e' => ?_, h.nb, h.bw.grown hg h.bw.size (fun k e => Tg.ownT_ge h.a k e), fun k e => ⟨(h.rl k e).1, Nat.lt_of_lt_of_le (h.rl k e).2 hg.size⟩⟩
  · cases e : u.ownBlock with
    | none => exact .inl rfl
    | some k => exact .inr fun e' => h.ne k e'.symm e
  · rcases hw k e with h1 | h1
    · exact h.ne k h1 e'
    · have := Tg.ownT_lt h.b k e'; omega
  · rcases hw k e with h1 | h1
    · exact h.na k h1 e'
    · have := (h.rl k e').2; omega
/-- Another one, all of it new, in the first one's place. -/
theorem Rows3.over (h : Rows3 R w W v u g s) (hx : Tg.OwnT W' (fun b => Since W W' b ∧ some b ≠ v'.ownBlock) W.heap.size v' t) (hb : Below W.heap.size W W') : Rows3 R w W' v' u t s := by
  have lt2 : ∀ k, u.ownBlock = some k → k < W.heap.size := Tg.ownT_lt h.b
  have ge : ∀ k, v'.ownBlock = some k → W.heap.size ≤ k := Tg.ownT_ge hx
  have up1 : ∀ b, (Since W W' b ∧ some b ≠ v'.ownBlock) → PR R W' v' u b := fun b hq =>
    ⟨hq.1.2, fun e => by have := (h.rl b e).2; have := hq.1.1; omega, hq.2, fun e => by have := lt2 b e.symm; have := hq.1.1; omega⟩
  have up2 : ∀ b, PR R W v u b → PR R W' v' u b := fun b hq => ⟨Nat.lt_of_lt_of_le hq.1 hb.size, hq.2.1, fun e => by have := ge b e.symm; have := hq.1; omega, hq.2.2.2⟩
  exact ⟨(hx.mono up1).base h.bw.size, (h.b.below hb).mono up2, fun k e e' => by have := ge k e; have := lt2 k e'; omega, fun k e e' => by have := ge k e; have := (h.rl k e').2; omega, h.nb, below_mv h.bw hb, fun k e => ⟨(h.rl k e).1, Nat.lt_of_lt_of_le (h.rl k e).2 hb.size⟩⟩
/-- A block that is no row of cells is turned. -/
theorem Rows3.plain {row : Option Nat} (h : Rows3 R w W v u g s) (hg : W.grownBy W' row) (hr : ∀ r, row = some r → ∃ o : Obj, W.heap[r]? = some o ∧ o.isCells = false) (hB : ∀ r, row = some r → w.heap.size ≤ r) : Rows3 R w W' v u g s :=
  ⟨(h.a.plain hg hr).mono (pr_size hg.size), (h.b.plain hg hr).mono (pr_size hg.size), h.ne, h.na, h.nb, h.bw.grown hg h.bw.size hB, fun k e => ⟨(h.rl k e).1, Nat.lt_of_lt_of_le (h.rl k e).2 hg.size⟩⟩
/-- What is older than both lies in no row of theirs, and in no box. -/
theorem Rows3.old (h : Rows3 R w W v u g s) : ∀ b, b < w.heap.size → PR R W v u b := fun b hb =>
  ⟨Nat.lt_of_lt_of_le hb h.bw.size, fun e => by have := (h.rl b e).1; omega, fun e => by have := Tg.ownT_ge h.a b e.symm; omega, fun e => by have := Tg.ownT_ge h.b b e.symm; omega⟩
theorem rows3_nil (w : World) {W : World} (hb : Below w.heap.size w W) (hR : ∀ k, R k → w.heap.size ≤ k ∧ k < W.heap.size) : Rows3 R w W (.slice none 0 0) (.slice none 0 0) [] [] := ⟨Tg.ownT_nil _ _ _, Tg.ownT_nil _ _ _, fun k h => (by cases h), fun k h => (by cases h), fun k h => (by cases h), hb, hR⟩
theorem Rows3.rows (h : Rows3 R w W v u g s) : Rows2 w W v u g s := ⟨h.a.mono fun b hb => ⟨hb.1, hb.2.2⟩, h.b.mono fun b hb => ⟨hb.1, hb.2.2⟩, h.ne, h.bw⟩
/-- The blocks that a step of the kept row writes: its box, its row. -/
def RK (K : Nat) (v : Value) : Nat → Prop := fun b => b = K ∨ some b = v.ownBlock
theorem rk_cells {K : Nat} {t : TypeId} {cs : Array Value} (h : Rows3 R w W v u g s) (hb : Blk W K t cs) : ∀ b, RK K v b → ∃ c t f, W.heap[b]? = some (.cells c t f) := fun b hb' => by
  rcases hb' with rfl | e
  · exact ⟨_, _, _, hb⟩
  · obtain ⟨xs, hw, _⟩ := h.a
    rcases hw.2 with ⟨rfl, _⟩ | ⟨g, cap, cur, rfl, _, hgb, _⟩
    · cases e
    · injection e with e
      have e : b = g := e
      subst e
      exact ⟨_, _, _, hgb⟩
end

/-- What keep leaves. -/
def KeepEnd (R : Nat → Prop) (K : Nat) (w : World) (v u : Value) (g s : List Nm) (W : World) (e : Ending) (W' : World) : Prop :=
  ∃ v', e = .returned (.tuple #[]) ∧ Rows3 R w W' v' u g s ∧ Blk W' K 58 #[v'] ∧ Mine (RK K v) W W'
/-- What ahead and behind leave: the patch as it is then, and those that are kept. -/
def GoneEnd (R : Nat → Prop) (K : Nat) (w : World) (v u : Value) (g s : List Nm) (o : Option (Nm × List Nm)) (W : World) (e : Ending) (W' : World) : Prop :=
  ∃ D d c A m k v', e = .returned (.tuple #[nmV (o.getD (noN, g)).1.id D d c (o.getD (noN, g)).1.txt A m k, .bool o.isSome]) ∧ NG W' (PR R W' v' u) D d c A m k (o.getD (noN, g)).1 ∧ Rows3 R w W' v' u (o.getD (noN, g)).2 s ∧ Blk W' K 58 #[v'] ∧ Mine (fun b => b = K) W W'

end Bb
end Go.Proofs.Ytdnkinajbebkoaa

set_option maxRecDepth 100000
namespace Go.Proofs.Ytdnkinajbebkoaa
open Go.RowKit
set_option linter.unusedVariables false
set_option linter.unusedSimpArgs false
namespace Bb
open Tx Df Sq Hk Tr Pr Fl Pn Tg

/-- How own ends. -/
def OwnNEnd (w : World) (q : Nm) (dn m : Nat) (e : Ending) (w' : World) : Prop :=
  ∃ D c A d, e = .returned (nmV q.id D dn c q.txt A m d) ∧ NG w' (Since w w') D dn c A m d q ∧ Below w.heap.size w w'

set_option maxRecDepth 100000 in
set_option maxHeartbeats 4000000 in
theorem OwnNC (D : Option Addr) (dn dc : Nat) (E : Option Addr) (m k : Nat) (q : Nm) (w : World) (hm : m ≤ 1000) (hd : dn ≤ 100000) (hl : Lt q.l) (hv : NV w w.heap.size D dn dc E m k q) :
    Calls Try.prog 53 #[nmV q.id D dn dc q.txt E m k] w (OwnNEnd w q dn m) := by
  have b0 := (Blk.new w 45 #[.int .i64 q.id.1, .int .i64 q.id.2, .slice D dn dc, strV q.txt, .slice E m k]).alloc (.cells #[.int .i64 0, .int .i64 0, .slice none 0 0, .string ⟨#[]⟩, .slice none 0 0] 45)
  have b1 := Blk.new (w.alloc (.cells #[.int .i64 q.id.1, .int .i64 q.id.2, .slice D dn dc, strV q.txt, .slice E m k] 45)) 45 #[.int .i64 0, .int .i64 0, .slice none 0 0, .string ⟨#[]⟩, .slice none 0 0]
  have hba := two_box w (.cells #[.int .i64 q.id.1, .int .i64 q.id.2, .slice D dn dc, strV q.txt, .slice E m k] 45) (.cells #[.int .i64 0, .int .i64 0, .slice none 0 0, .string ⟨#[]⟩, .slice none 0 0] 45)
  simp only [World.size_alloc] at b1
  go_enter Try.func53, Try.ntmps53
  go_upto_region 1 with fail
  generalize ((w.alloc (.cells #[.int .i64 q.id.1, .int .i64 q.id.2, .slice D dn dc, strV q.txt, .slice E m k] 45)).alloc (.cells #[.int .i64 0, .int .i64 0, .slice none 0 0, .string ⟨#[]⟩, .slice none 0 0] 45)) = w1 at b0 b1 hba ⊢
  obtain ⟨z, hz⟩ : ∃ z, w.heap.size = z := ⟨_, rfl⟩
  have HV := Lib.hid (NV.mv hv hba)
  rw [hz] at b0 b1 ⊢
  have HB0 := Lib.hid b0; have HB1 := Lib.hid b1; have HBA := Lib.hid hba; have HZ := Lib.hid hz; have HM := Lib.hid hm; have HLQ := Lib.hid hl
  obtain ⟨N, hN⟩ : ∃ N, w1.heap.size = N := ⟨_, rfl⟩
  have HNW := Lib.hid hN
  have HA := Lib.hid (show Below w1.heap.size w1 (w1.alloc (.cells #[.int .i64 q.id.1, .int .i64 q.id.2, .slice D dn dc, strV q.txt, .slice E m k] 45)).drew from below_drewN ((Below.refl _ _).alloc (Nat.le_refl _) _) 1)
  have HBB := Lib.hid (show Below w1.heap.size w1 w1.drew from below_drewN (Below.refl _ _) 1)
  have HZA := Lib.hid (show Blk (w1.alloc (.cells #[.int .i64 q.id.1, .int .i64 q.id.2, .slice D dn dc, strV q.txt, .slice E m k] 45)).drew w1.heap.size 45 #[.int .i64 q.id.1, .int .i64 q.id.2, .slice D dn dc, strV q.txt, .slice E m k] from (Blk.new w1 _ _).drewN 1)
  have HSA := Lib.hid (RdI.mv HV.out.dr HA.out); have HSB := Lib.hid (RdI.mv HV.out.dr HBB.out)
  have HDL := Lib.hid HV.out.dl
  have HL1 : Hid (([] : List Id_).length + dn ≤ 100000) := Lib.hid (by simp; omega)
  have HLA : Hid (N ≤ (w1.alloc (.cells #[.int .i64 q.id.1, .int .i64 q.id.2, .slice D dn dc, strV q.txt, .slice E m k] 45)).drew.heap.size) := Lib.hid (by rw [← hN]; exact HA.out.size)
  have HLB : Hid (N ≤ w1.drew.heap.size) := Lib.hid (by rw [← hN]; exact HBB.out.size)
  have PA : Hid (∀ (X : World) (G : Nat), Below w1.heap.size w1 X → Blk X G 45 #[.int .i64 q.id.1, .int .i64 q.id.2, .slice D dn dc, strV q.txt, .slice E m k] → Calls Try.prog 43 #[.slice (some ⟨G, 0, none⟩) 1 1] X (fun e u => ∃ A c, e = .returned (.slice A m c) ∧ m ≤ c ∧ RdP u (Since X u) A q.l ∧ Below X.heap.size X u)) := Lib.hid (fun X G h1 h2 => first_all HM.out HLQ.out (HV.out.mv h1) h2)
  have PA0 := Lib.hid (PA.out _ _ HA.out HZA.out)
  have x0 := b0.cell 0 rfl; have x1 := b0.cell 1 rfl; have x2 := b0.cell 2 rfl; have x3 := b0.cell 3 rfl; have x4 := b0.cell 4 rfl; have zl := b0.lt
  clear b0 b1 hba hz hm hd hl hv hN
  go_region_law (first
    | ((with_reducible refine step_ownI (W := (w1.alloc (.cells #[.int .i64 q.id.1, .int .i64 q.id.2, .slice D dn dc, strV q.txt, .slice E m k] 45)).drew) (base := N) (c := dc) ?_ (.const (.slice none 0 0)) (.tmp 4) ?_ ?_ ?_ (ownI_nil _ N) HSA.out HDL.out HL1.out HLA.out ?_); rfl; rfl; rfl; rfl; intro v1 u1 ho hg; have hb1 := below_gr hg; have HU1 := Lib.hid (below_mv HA.out hb1); have HQ1 := Lib.hid (HZA.out.below hb1 HZA.out.lt); have PA1 := Lib.hid (PA.out _ _ HU1.out HQ1.out); obtain ⟨A2, c2, hv, hc2, hr2⟩ := rdI_own_hi ho; rw [List.nil_append] at hv hc2 hr2; rw [HDL.out] at hv hc2; subst hv; have HR2 := Lib.hid hr2; have HK2 := Lib.hid hc2; have HX1 := Lib.hid (Below.refl u1.heap.size u1); have pu := HB0.out.below HU1.out HB0.out.lt; have pu0 := pu.cell 0 rfl; have pu1 := pu.cell 1 rfl; have pu2 := pu.cell 2 rfl; have pu3 := pu.cell 3 rfl; have pu4 := pu.cell 4 rfl; have pul := pu.lt; clear hb1 ho hg hr2 hc2 pu)
    | ((with_reducible refine step_ownI (W := w1.drew) (base := N) (c := dc) ?_ (.const (.slice none 0 0)) (.tmp 4) ?_ ?_ ?_ (ownI_nil _ N) HSB.out HDL.out HL1.out HLB.out ?_); rfl; rfl; rfl; rfl; intro v1 u1 ho hg; have hb1 := below_gr hg; have HU0 := Lib.hid (below_mv HBB.out hb1); have hbx : Below u1.heap.size u1 (u1.alloc (.cells #[.int .i64 q.id.1, .int .i64 q.id.2, .slice D dn dc, strV q.txt, .slice E m k] 45)) := (Below.refl _ _).alloc (Nat.le_refl _) _; have HU1 := Lib.hid (below_mv HU0.out hbx); have PA1 := Lib.hid (PA.out _ _ HU1.out (Blk.new u1 45 #[.int .i64 q.id.1, .int .i64 q.id.2, .slice D dn dc, strV q.txt, .slice E m k])); obtain ⟨A2, c2, hv, hc2, hr2⟩ := rdI_own_hi ho; rw [List.nil_append] at hv hc2 hr2; rw [HDL.out] at hv hc2; subst hv; have HR2 := Lib.hid hr2; have HK2 := Lib.hid hc2; have HX1 := Lib.hid hbx; have pu := HB0.out.below HU0.out HB0.out.lt; have pu0 := pu.cell 0 rfl; have pu1 := pu.cell 1 rfl; have pu2 := pu.cell 2 rfl; have pu3 := pu.cell 3 rfl; have pu4 := pu.cell 4 rfl; have pul := pu.lt; clear hb1 hbx ho hg hr2 hc2 pu)
    | (go_simp; go_at_call 43; (with_reducible refine (PA1.out).mono ?_); rintro e u2 ⟨A1, c1, rfl, hk1, hr1, hb1⟩; have HU2 := Lib.hid (below_mv HU1.out hb1); have HR1 := Lib.hid (hr1.mono fun b h => (⟨Nat.le_trans HU1.out.size h.1, h.2⟩ : w1.heap.size ≤ b ∧ b < u2.heap.size)); have HK1 := Lib.hid hk1; have HD2 := Lib.hid ((HR2.out.to (fun b _ hl => (below_mv HX1.out hb1).block b hl)).mono fun b h => (⟨by have := HNW.out; have := h.1; omega, Nat.lt_of_lt_of_le h.2 (below_mv HX1.out hb1).size⟩ : w1.heap.size ≤ b ∧ b < u2.heap.size)); have pv := HB0.out.below HU2.out HB0.out.lt; have pv2 := pv.cell 2 rfl; have pv4 := pv.cell 4 rfl; have pf2 := pv.frozen 2; have pf4 := pv.frozen 4; have pvl := pv.lt; clear hb1 hr1 hk1 pv)
    | (go_simp; go_at_call 43; (with_reducible refine (PA0.out).mono ?_); rintro e u0 ⟨A1, c1, rfl, hk1, hr1, hb1⟩; have HU0 := Lib.hid (below_mv HA.out hb1); have HR0 := Lib.hid (hr1.mono fun b h => (⟨Nat.le_trans HA.out.size h.1, h.2⟩ : w1.heap.size ≤ b ∧ b < u0.heap.size)); have HK1 := Lib.hid hk1; have HSC := Lib.hid (RdI.mv HV.out.dr HU0.out); have HLC : Hid (N ≤ u0.heap.size) := Lib.hid (by rw [← HNW.out]; exact HU0.out.size); have pu := HB0.out.below HU0.out HB0.out.lt; have pu0 := pu.cell 0 rfl; have pu1 := pu.cell 1 rfl; have pu2 := pu.cell 2 rfl; have pu3 := pu.cell 3 rfl; have pu4 := pu.cell 4 rfl; have pul := pu.lt; clear hb1 hr1 hk1 pu)
    | ((with_reducible refine step_ownI (W := u0) (base := N) (c := dc) ?_ (.const (.slice none 0 0)) (.tmp 4) ?_ ?_ ?_ (ownI_nil _ N) HSC.out HDL.out HL1.out HLC.out ?_); rfl; rfl; rfl; rfl; intro v1 u2 ho hg; have hb1 := below_gr hg; have HU2 := Lib.hid (below_mv HU0.out hb1); obtain ⟨A2, c2, hv, hc2, hr2⟩ := rdI_own_hi ho; rw [List.nil_append] at hv hc2 hr2; rw [HDL.out] at hv hc2; subst hv; have HD2 := Lib.hid (hr2.mono fun b h => (⟨by have := HNW.out; have := h.1; omega, h.2⟩ : w1.heap.size ≤ b ∧ b < u2.heap.size)); have HK2 := Lib.hid hc2; have HR1 := Lib.hid ((HR0.out.to ((alike_below hb1).mono fun b h => h.2)).mono fun b h => (⟨h.1, Nat.lt_of_lt_of_le h.2 hb1.size⟩ : w1.heap.size ≤ b ∧ b < u2.heap.size)); have pv := HB0.out.below HU2.out HB0.out.lt; have pv2 := pv.cell 2 rfl; have pv4 := pv.cell 4 rfl; have pf2 := pv.frozen 2; have pf4 := pv.frozen 4; have pvl := pv.lt; clear hb1 ho hg hr2 hc2 pv))
  all_goals
    have b2 : Blk ((u2.setCell ⟨z, 2, none⟩ (.slice A2 dn c2)).setCell ⟨z, 4, none⟩ (.slice A1 m c1)) z 45 #[.int .i64 q.id.1, .int .i64 q.id.2, .slice A2 dn c2, strV q.txt, .slice A1 m c1] := ((HB0.out.below HU2.out HB0.out.lt).set 2 _).set 4 _
    have b3 : Blk ((u2.setCell ⟨z, 2, none⟩ (.slice A2 dn c2)).setCell ⟨z, 4, none⟩ (.slice A1 m c1)) (z + 1) 45 #[.int .i64 0, .int .i64 0, .slice none 0 0, .string ⟨#[]⟩, .slice none 0 0] := ((HB1.out.below HU2.out HB1.out.lt).set_ne (by omega) 2 _).set_ne (by omega) 4 _
    have hb3 : Below w.heap.size w ((u2.setCell ⟨z, 2, none⟩ (.slice A2 dn c2)).setCell ⟨z, 4, none⟩ (.slice A1 m c1)) := ((below_mv HBA.out HU2.out).setCell (p := ⟨z, 2, none⟩) (Nat.le_of_eq HZ.out) _).setCell (p := ⟨z, 4, none⟩) (Nat.le_of_eq HZ.out) _
    have hz1 : z + 1 < w1.heap.size := HB1.out.lt
    have al : Fl.Alike (· ≠ z) u2 ((u2.setCell ⟨z, 2, none⟩ (.slice A2 dn c2)).setCell ⟨z, 4, none⟩ (.slice A1 m c1)) := (alike_set u2 z 2 _).trans_ (alike_set _ z 4 _) (by simp)
    have hd3 := HD2.out.to (al.mono fun b h => by have := h.1; omega)
    have hr3 := HR1.out.to (al.mono fun b h => by have := h.1; omega)
    have hs3 : ((u2.setCell ⟨z, 2, none⟩ (.slice A2 dn c2)).setCell ⟨z, 4, none⟩ (.slice A1 m c1)).heap.size = u2.heap.size := by simp
    generalize ((u2.setCell ⟨z, 2, none⟩ (.slice A2 dn c2)).setCell ⟨z, 4, none⟩ (.slice A1 m c1)) = w3 at *
    have HZ1 := Lib.hid hz1; have HB3 := Lib.hid hb3; have HD3 := Lib.hid hd3; have HR3 := Lib.hid hr3; have HS3 := Lib.hid hs3; have B2 := Lib.hid b2; have B3 := Lib.hid b3
    clear hz1 hb3 hd3 hr3 hs3 b2 b3 al pv2 pv4 pf2 pf4 pvl x0 x1 x2 x3 x4 zl PA PA0
    have x0 := B2.out.cell 0 rfl; have x1 := B2.out.cell 1 rfl; have x2 := B2.out.cell 2 rfl; have x3 := B2.out.cell 3 rfl; have x4 := B2.out.cell 4 rfl
    have y0 := B3.out.cell 0 rfl; have y1 := B3.out.cell 1 rfl; have y2 := B3.out.cell 2 rfl; have y3 := B3.out.cell 3 rfl; have y4 := B3.out.cell 4 rfl
    have g0 := B3.out.frozen 0; have g1 := B3.out.frozen 1; have g2 := B3.out.frozen 2; have g3 := B3.out.frozen 3; have g4 := B3.out.frozen 4
    have hl0 := B2.out.lt; have hl1 := B3.out.lt
    go_wp2_with fail
    have b14 := Tg.blk5 B3.out (.int .i64 q.id.1) (.int .i64 q.id.2) (.slice A2 dn c2) (strV q.txt) (.slice A1 m c1)
    have hb4 := below_set5 HB3.out (show w.heap.size ≤ z + 1 by have := HZ.out; omega) (.int .i64 q.id.1) (.int .i64 q.id.2) (.slice A2 dn c2) (strV q.txt) (.slice A1 m c1)
    have al4 := alike_set5 w3 (z + 1) (.int .i64 q.id.1) (.int .i64 q.id.2) (.slice A2 dn c2) (strV q.txt) (.slice A1 m c1)
    have hd4 := HD3.out.to (al4.mono fun b h => by have := h.1; have := HZ1.out; omega)
    have hr4 := HR3.out.to (al4.mono fun b h => by have := h.1; have := HZ1.out; omega)
    have hs4 : (World.setCell (World.setCell (World.setCell (World.setCell (World.setCell w3 ⟨z + 1, 0, none⟩ (.int .i64 q.id.1)) ⟨z + 1, 1, none⟩ (.int .i64 q.id.2)) ⟨z + 1, 2, none⟩ (.slice A2 dn c2)) ⟨z + 1, 3, none⟩ (strV q.txt)) ⟨z + 1, 4, none⟩ (.slice A1 m c1)).heap.size = w3.heap.size := by simp
    generalize (World.setCell (World.setCell (World.setCell (World.setCell (World.setCell w3 ⟨z + 1, 0, none⟩ (.int .i64 q.id.1)) ⟨z + 1, 1, none⟩ (.int .i64 q.id.2)) ⟨z + 1, 2, none⟩ (.slice A2 dn c2)) ⟨z + 1, 3, none⟩ (strV q.txt)) ⟨z + 1, 4, none⟩ (.slice A1 m c1)) = w4 at *
    have t0 := b14.cell 0 rfl; have t1 := b14.cell 1 rfl; have t2 := b14.cell 2 rfl; have t3 := b14.cell 3 rfl; have t4 := b14.cell 4 rfl
    refine bodyPost_ret (v := .agg #[.int .i64 q.id.1, .int .i64 q.id.2, .slice A2 dn c2, strV q.txt, .slice A1 m c1]) (by simp [results, Try.results53, go_sem, t0, t1, t2, t3, t4]) rfl ?_
    have hw := HBA.out.size
    have hs3 := HS3.out
    exact ⟨A2, c2, A1, c1, rfl, ⟨HV.out.dl, HK2.out, HV.out.dm, hd4.mono fun b h => (⟨Nat.le_trans hw h.1, by have := h.2; omega⟩ : w.heap.size ≤ b ∧ b < w4.heap.size), HV.out.tm, HV.out.l, HK1.out, HV.out.m, hr4.mono fun b h => (⟨Nat.le_trans hw h.1, by have := h.2; omega⟩ : w.heap.size ≤ b ∧ b < w4.heap.size)⟩, hb4⟩

end Bb
end Go.Proofs.Ytdnkinajbebkoaa

set_option maxRecDepth 100000
namespace Go.Proofs.Ytdnkinajbebkoaa
open Go.RowKit
set_option linter.unusedVariables false
set_option linter.unusedSimpArgs false
namespace Tg
open Tx Df Sq Hk Tr Pr Fl Pn

def exB : Ch := ⟨0, [98], [], ⟨0, [], []⟩⟩
def exQ : Nm := ⟨(0, 2), [], [], [exB]⟩
theorem pg_exB (W : World) (S : Nat → Prop) : PG W S none 0 0 none 0 0 exB :=
  ⟨rfl, rfl, Nat.le_refl _, Nat.le_refl _, by decide, by decide, .inl rfl, .inl rfl, by unfold I64; decide, by unfold I64; decide, by decide, by decide, (fun x hx => by cases hx), (fun x hx => by cases hx)⟩
theorem nv_exQ {W : World} {N b : Nat} (h : RdP W (· < N) (some ⟨b, 0, none⟩) [exB]) : NV W N none 0 0 (some ⟨b, 0, none⟩) 1 1 exQ :=
  ⟨rfl, Nat.le_refl _, by decide, .inl rfl, by decide, rfl, Nat.le_refl _, by decide, h⟩
theorem lt_exN : Lt exN.l := fun x hx => by
  have : x = exA := by simpa [exN] using hx
  rw [this]
  decide
theorem lt_exB : Lt [exB] := fun x hx => by
  have : x = exB := by simpa using hx
  rw [this]
  decide
theorem lt_exQ : Lt exQ.l := lt_exB
instance : DecidableEq Nm := fun p q => decidable_of_iff (sameN p q = true) sameN_iff
theorem three_blk (w : World) (t0 t1 t2 : TypeId) (c0 c1 c2 : Array Value) : let W := ((w.alloc (.cells c0 t0)).alloc (.cells c1 t1)).alloc (.cells c2 t2)
    Blk W w.heap.size t0 c0 ∧ Blk W (w.heap.size + 1) t1 c1 ∧ Blk W (w.heap.size + 1 + 1) t2 c2 ∧ Below w.heap.size w W := by
  intro W
  have b0 := ((Blk.new w t0 c0).alloc (.cells c1 t1)).alloc (.cells c2 t2)
  have b1 := (Blk.new (w.alloc (.cells c0 t0)) t1 c1).alloc (.cells c2 t2)
  have b2 := Blk.new ((w.alloc (.cells c0 t0)).alloc (.cells c1 t1)) t2 c2
  simp only [World.size_alloc] at b1 b2
  exact ⟨b0, b1, b2, ((((Below.refl _ _).alloc (Nat.le_refl _) _).alloc (by simp) _).alloc (by simp; omega) _)⟩

end Tg
end Go.Proofs.Ytdnkinajbebkoaa

set_option maxRecDepth 100000
namespace Go.Proofs.Ytdnkinajbebkoaa
open Go.RowKit
set_option linter.unusedVariables false
namespace Tg
open Tx Df Sq Hk Tr Pr Fl Pn

theorem lightN_lt {p : Nm} {m : Nat} (h : lightN p m = true) : Lt p.l ∧ p.l.length ≤ m ∧ p.deps.length ≤ 100 := by
  have h0 := h
  unfold lightN fewP at h
  simp only [Bool.and_eq_true, decide_eq_true_eq, List.all_eq_true] at h
  exact ⟨fun x hx => okP_light (h.1.2 x hx), h.1.1, h.2.1⟩
theorem few_all {l : List Nm} {m : Nat} (h : fewN l m = true) : ∀ p ∈ l, Lt p.l ∧ p.l.length ≤ 10 ∧ p.deps.length ≤ 100 := fun p hp => lightN_lt (fewN_all h p hp)
/-- What two patches tell. -/
theorem outN_some {o : Option (Nm × Nm)} {x y : Nm} (h : outN o = (x, y)) (hs : o.isSome = true) : o = some (x, y) := by
  cases o with
  | none => cases hs
  | some z => exact congrArg some h
theorem outN_none {o : Option (Nm × Nm)} {x y : Nm} (h : outN o = (x, y)) (hs : o.isSome = false) : x = noN ∧ y = noN := by
  cases o with
  | none => injection h with h1 h2; exact ⟨h1.symm, h2.symm⟩
  | some z => cases hs
theorem noN_lt : Lt noN.l := fun x hx => by cases hx
/-- What is told is of few changes, and light. -/
theorem out_few {p q x y : Nm} {bo : Bool} (ho : outN (passN p q) = (x, y)) (hs : (passN p q).isSome = bo) (hp : Lt p.l ∧ p.l.length ≤ 10 ∧ p.deps.length ≤ 100) (hq : Lt q.l ∧ q.l.length ≤ 10 ∧ q.deps.length ≤ 100) :
    (Lt x.l ∧ x.l.length ≤ 10 ∧ x.deps.length ≤ 100) ∧ (Lt y.l ∧ y.l.length ≤ 10 ∧ y.deps.length ≤ 100) := by
  cases bo with
  | false =>
    obtain ⟨rfl, rfl⟩ := outN_none ho hs
    exact ⟨⟨noN_lt, Nat.zero_le _, Nat.zero_le _⟩, noN_lt, Nat.zero_le _, Nat.zero_le _⟩
  | true =>
    have h := outN_some ho hs
    obtain ⟨⟨_, a2, _, a4⟩, _, b2, _, b4⟩ := passN_keeps h
    obtain ⟨l1, l2⟩ := passN_lt h hp.1 hq.1
    exact ⟨⟨l1, by rw [a4]; exact hq.2.1, by rw [a2]; exact hq.2.2⟩, l2, by rw [b4]; exact hp.2.1, by rw [b2]; exact hp.2.2⟩

end Tg
end Go.Proofs.Ytdnkinajbebkoaa

set_option maxRecDepth 100000
namespace Go.Proofs.Ytdnkinajbebkoaa
open Go.RowKit
set_option linter.unusedVariables false
set_option linter.unusedSimpArgs false
namespace Tg
open Tx Df Sq Hk Tr Pr Fl Pn

/-- A light patch of few changes. -/
abbrev Lit (p : Nm) : Prop := Lt p.l ∧ p.l.length ≤ 10 ∧ p.deps.length ≤ 100
theorem pass_lit {p q x y : Nm} (h : passN p q = some (x, y)) (hp : Lit p) (hq : Lit q) : Lit x ∧ Lit y := out_few (bo := true) (by rw [h]; rfl) (by rw [h]; rfl) hp hq
theorem over_lit {l m : List Nm} {q x : Nm} {bo : Bool} (ho : outO (overN l q) = (x, m)) (hs : (overN l q).isSome = bo) (hl : ∀ p ∈ l, Lit p) (hq : Lit q) : Lit x ∧ ∀ y ∈ m, Lit y := by
  cases h : overN l q with
  | none =>
    rw [h] at ho
    injection ho with h1 h2
    subst h1 h2
    exact ⟨⟨noN_lt, Nat.zero_le _, Nat.zero_le _⟩, fun y hy => by cases hy⟩
  | some z =>
    rw [h] at ho
    have e : overN l q = some (x, m) := by rw [h]; exact congrArg some ho
    exact one_all (Q := Lit) passN (fun h hp hq => pass_lit h hp hq) e hl hq
theorem over_all {l : List Nm} (hl : ∀ p ∈ l, Lit p) : ∀ p ∈ l, Lt p.l ∧ p.l.length ≤ 1000 ∧ p.deps.length ≤ 100000 := fun p hp => ⟨(hl p hp).1, by have := (hl p hp).2.1; omega, by have := (hl p hp).2.2; omega⟩

end Tg
end Go.Proofs.Ytdnkinajbebkoaa

set_option maxRecDepth 100000
namespace Go.Proofs.Ytdnkinajbebkoaa
open Go.RowKit
set_option linter.unusedVariables false
set_option linter.unusedSimpArgs false
namespace Bb
open Tx Df Sq Hk Tr Pr Fl Pn Tg

section
variable {R : Nat → Prop} {w W W' : World} {v u : Value} {s g : List Nm}
/-- What is new lies in no row, and in no box. -/
theorem pr_since (h : Rows3 R w W v u g s) : ∀ b, Since W W' b → PR R W' v u b := fun b hb =>
  ⟨hb.2, fun e => by have := (h.rl b e).2; have := hb.1; omega, fun e => by have := Tg.ownT_lt h.a b e.symm; have := hb.1; omega, fun e => by have := Tg.ownT_lt h.b b e.symm; have := hb.1; omega⟩
end

set_option maxRecDepth 100000 in
set_option maxHeartbeats 4000000 in
theorem KeepC {R : Nat → Prop} {w W : World} {v u : Value} {s g : List Nm} (K : Nat) (D : Option Addr) (dn dc : Nat) (E : Option Addr) (m k : Nat) (p : Nm) (hR : R K) (h : Rows3 R w W v u g s) (hb : Blk W K 58 #[v]) (hm : m ≤ 1000) (hd : dn ≤ 100000) (hl : Lt p.l) (hg : g.length ≤ 1000) (hv : NV W W.heap.size D dn dc E m k p) :
    Calls Try.prog 31 #[.pointer (some ⟨K, 0, none⟩), nmV p.id D dn dc p.txt E m k] W (KeepEnd R K w v u (g ++ [p]) s W) := by
  obtain ⟨Av, cv, rfl, hcv⟩ := Tg.ownT_slice h.a
  obtain ⟨nv, hnv⟩ : ∃ nv, g.length = nv := ⟨_, rfl⟩
  rw [hnv] at h hb hcv hg ⊢
  have HNV := Lib.hid hnv
  have hba : Below W.heap.size W (W.alloc (.cells #[.int .i64 p.id.1, .int .i64 p.id.2, .slice D dn dc, strV p.txt, .slice E m k] 45)) := (Below.refl _ _).alloc (Nat.le_refl _) _
  have HBZ := Lib.hid (Blk.new W 45 #[.int .i64 p.id.1, .int .i64 p.id.2, .slice D dn dc, strV p.txt, .slice E m k])
  have HB := Lib.hid (hb.below hba hb.lt); have HO := Lib.hid (h.below hba); have HV := Lib.hid (NV.mv hv hba); have HBA := Lib.hid hba
  have HLK : Hid (K < W.heap.size) := Lib.hid hb.lt
  have HM := Lib.hid hm; have HD := Lib.hid hd; have HLP := Lib.hid hl; have HRK := Lib.hid hR
  have HN1 : Hid (nv + 1 ≤ 100000) := Lib.hid (by omega)
  have HBW := Lib.hid h.bw.size
  clear hba hb h hv hnv hcv hm hd hl hR hg
  go_enter Try.func31, Try.ntmps31
  go_upto_region 1 with fail
  generalize (W.alloc (.cells #[.int .i64 p.id.1, .int .i64 p.id.2, .slice D dn dc, strV p.txt, .slice E m k] 45)) = W1 at HBZ HB HO HV HBA ⊢
  obtain ⟨z, hz⟩ : ∃ z, W.heap.size = z := ⟨_, rfl⟩
  rw [hz] at HBZ ⊢
  have HZ := Lib.hid hz
  clear hz
  have b0 := HB.out.cell 0 rfl; have bl := HB.out.lt
  have z0 := HBZ.out.cell 0 rfl; have z1 := HBZ.out.cell 1 rfl; have z2 := HBZ.out.cell 2 rfl; have z3 := HBZ.out.cell 3 rfl; have z4 := HBZ.out.cell 4 rfl; have zl := HBZ.out.lt
  have HDR := Lib.hid (show Below W1.heap.size W1 W1.drew from below_drewN (Below.refl _ _) 1)
  have PO := Lib.hid (OwnNC D dn dc E m k p W1.drew HM.out HD.out HLP.out (HV.out.mv HDR.out))
  go_region_law (first
    | (go_simp; go_at_call 53; (with_reducible refine (PO.out).mono ?_); rintro e u1 ⟨D1, c1, A1, k1, rfl, hn, hb1⟩; have HU1 := Lib.hid (below_mv HDR.out hb1); have hx : Below u1.heap.size u1 (u1.alloc (.cells #[.int .i64 p.id.1, .int .i64 p.id.2, .slice D1 dn c1, strV p.txt, .slice A1 m k1] 45)) := (Below.refl _ _).alloc (Nat.le_refl _) _; have HU2 := Lib.hid (below_mv HU1.out hx); have HO2 := Lib.hid (HO.out.below HU2.out); have HNG := Lib.hid ((hn.to_ (fun b _ hl => hx.block b hl)).mono fun b hb => pr_since HO.out b (⟨Nat.le_trans HDR.out.size hb.1, Nat.lt_of_lt_of_le hb.2 hx.size⟩ : Since W1 (u1.alloc (.cells #[.int .i64 p.id.1, .int .i64 p.id.2, .slice D1 dn c1, strV p.txt, .slice A1 m k1] 45)) b)); have HSR := Lib.hid (one_src (Blk.new u1 45 (Tg.nmC p D1 dn c1 A1 m k1)) HNG.out); have HSS : Hid (∀ b, PR R (u1.alloc (.cells #[.int .i64 p.id.1, .int .i64 p.id.2, .slice D1 dn c1, strV p.txt, .slice A1 m k1] 45)) (.slice Av nv cv) u b → b < (u1.alloc (.cells #[.int .i64 p.id.1, .int .i64 p.id.2, .slice D1 dn c1, strV p.txt, .slice A1 m k1] 45)).heap.size ∧ some b ≠ (Value.slice Av nv cv).ownBlock) := Lib.hid (fun b hb => ⟨hb.1, hb.2.2.1⟩); have HBS := Lib.hid HO2.out.bw.size; have HLL : Hid (g.length + 1 ≤ 100000) := Lib.hid (by rw [HNV.out]; exact HN1.out); have B1 := HB.out.below HU1.out HB.out.lt; have b01 := B1.cell 0 rfl; have bl1 := B1.lt; have HB1 := Lib.hid (HB.out.below HU2.out HB.out.lt); clear hn hb1 hx B1)
    | ((with_reducible refine step_ownT (W := (u1.alloc (.cells #[.int .i64 p.id.1, .int .i64 p.id.2, .slice D1 dn c1, strV p.txt, .slice A1 m k1] 45))) (base := w.heap.size) (c := 1) ?_ (.tmp 8) (.tmp 11) ?_ ?_ ?_ HO2.out.a HSR.out ?_ HLL.out HSS.out HBS.out ?_); rfl; rfl; rfl; rfl; rfl; intro v' W' ho hg hw; obtain ⟨A2, c2, hv2, hc2⟩ := Tg.ownT_slice ho; obtain ⟨n2, hn2⟩ : ∃ n, List.length (g ++ [p]) = n := ⟨_, rfl⟩; rw [hn2] at hv2; clear hn2 hc2; subst hv2; have HR3 := Lib.hid (HO2.out.app ho hg hw); have HB3 := Lib.hid (HB1.out.gr hg (fun e => HO2.out.na K e.symm HRK.out)); have HMI := Lib.hid (((mine_below HBA.out : Mine (RK K (.slice Av nv cv)) W W1).trans (mine_below HU2.out : Mine (RK K (.slice Av nv cv)) W1 (u1.alloc (.cells #[.int .i64 p.id.1, .int .i64 p.id.2, .slice D1 dn c1, strV p.txt, .slice A1 m k1] 45))) (fun b hb => .inl hb)).trans (mine_grown hg (fun k e => .inr e.symm) : Mine (RK K (.slice Av nv cv)) (u1.alloc (.cells #[.int .i64 p.id.1, .int .i64 p.id.2, .slice D1 dn c1, strV p.txt, .slice A1 m k1] 45)) W') (fun b hb => .inl hb)); have b1 := HB3.out.cell 0 rfl; have bf1 := HB3.out.frozen 0; have bl3 := HB3.out.lt; clear ho hg hw))
  all_goals
    go_end0
    exact ⟨_, rfl, HR3.out.set HRK.out 0 _, HB3.out.set 0 _, HMI.out.trans (mine_set _ (.inl rfl : RK K (.slice Av nv cv) K) 0 _) (fun b hb => .inl hb)⟩

/-- What stands when Over has told: the patch in a box of its own. -/
def OverLay (w : World) (x : Nm) (ys : List Nm) (v : Value) (F : Nat) (W : World) : Prop :=
  ∃ D d e E m k, Blk W F 45 (Tg.nmC x D d e E m k) ∧ NG W (fun b => (Since w W b ∧ some b ≠ v.ownBlock) ∧ b ≠ F) D d e E m k x ∧ Tg.OwnT W (fun b => (Since w W b ∧ some b ≠ v.ownBlock) ∧ b ≠ F) w.heap.size v ys ∧ w.heap.size ≤ F ∧ v.ownBlock ≠ some F ∧ Below w.heap.size w W
theorem over_lay_a {w u1 : World} {x : Nm} {ys : List Nm} {D E : Option Addr} {d c m k : Nat} {v : Value} (hn : NG u1 (fun b => Since w u1 b ∧ some b ≠ v.ownBlock) D d c E m k x) (ho : Tg.OwnT u1 (fun b => Since w u1 b ∧ some b ≠ v.ownBlock) w.heap.size v ys) (hb : Below w.heap.size w u1) :
    OverLay w x ys v u1.heap.size (u1.alloc (.cells (Tg.nmC x D d c E m k) 45)) := by
  have hx : Below u1.heap.size u1 (u1.alloc (.cells (Tg.nmC x D d c E m k) 45)) := (Below.refl _ _).alloc (Nat.le_refl _) _
  have up : ∀ b, (Since w u1 b ∧ some b ≠ v.ownBlock) → ((Since w (u1.alloc (.cells (Tg.nmC x D d c E m k) 45)) b ∧ some b ≠ v.ownBlock) ∧ b ≠ u1.heap.size) := fun b h => ⟨⟨⟨h.1.1, Nat.lt_of_lt_of_le h.1.2 hx.size⟩, h.2⟩, Nat.ne_of_lt h.1.2⟩
  exact ⟨D, d, c, E, m, k, Blk.new _ _ _, (hn.to_ (fun b _ hl => hx.block b hl)).mono up, (ho.below hx).mono up, hb.size, fun e => absurd (Tg.ownT_lt ho _ e) (Nat.lt_irrefl _), below_mv hb hx⟩
theorem over_lay_b {w w0 u1 : World} {x : Nm} {ys : List Nm} {D E : Option Addr} {d c m k F : Nat} {v : Value} (hn : NG u1 (fun b => Since w0 u1 b ∧ some b ≠ v.ownBlock) D d c E m k x) (ho : Tg.OwnT u1 (fun b => Since w0 u1 b ∧ some b ≠ v.ownBlock) w0.heap.size v ys) (hb : Below w0.heap.size w0 u1) (hw : Below w.heap.size w w0) (hF : w.heap.size ≤ F) (hf : Blk w0 F 45 #[.int .i64 0, .int .i64 0, .slice none 0 0, .string ⟨#[]⟩, .slice none 0 0]) :
    OverLay w x ys v F (((((u1.setCell ⟨F, 0, none⟩ (.int .i64 x.id.1)).setCell ⟨F, 1, none⟩ (.int .i64 x.id.2)).setCell ⟨F, 2, none⟩ (.slice D d c)).setCell ⟨F, 3, none⟩ (strV x.txt)).setCell ⟨F, 4, none⟩ (.slice E m k)) := by
  have hlt := hf.lt
  have al := alike_set5 u1 F (.int .i64 x.id.1) (.int .i64 x.id.2) (.slice D d c) (strV x.txt) (.slice E m k)
  have hs : u1.heap.size = (((((u1.setCell ⟨F, 0, none⟩ (.int .i64 x.id.1)).setCell ⟨F, 1, none⟩ (.int .i64 x.id.2)).setCell ⟨F, 2, none⟩ (.slice D d c)).setCell ⟨F, 3, none⟩ (strV x.txt)).setCell ⟨F, 4, none⟩ (.slice E m k)).heap.size := by simp
  have hne : ∀ b, (Since w0 u1 b ∧ some b ≠ v.ownBlock) → b ≠ F := fun b h e => by have := h.1.1; omega
  have ge := fun k e => Tg.ownT_ge ho k e
  have hv : v.ownBlock ≠ some F := fun e => by have := ge F e; omega
  have hsz := hw.size
  have up : ∀ b, (Since w0 u1 b ∧ some b ≠ v.ownBlock) → ((Since w (((((u1.setCell ⟨F, 0, none⟩ (.int .i64 x.id.1)).setCell ⟨F, 1, none⟩ (.int .i64 x.id.2)).setCell ⟨F, 2, none⟩ (.slice D d c)).setCell ⟨F, 3, none⟩ (strV x.txt)).setCell ⟨F, 4, none⟩ (.slice E m k)) b ∧ some b ≠ v.ownBlock) ∧ b ≠ F) := fun b h => ⟨⟨⟨Nat.le_trans hsz h.1.1, by rw [← hs]; exact h.1.2⟩, h.2⟩, hne b h⟩
  exact ⟨D, d, c, E, m, k, Tg.blk5 (hf.below hb hlt) _ _ _ _ _, (hn.to_ (al.mono hne)).mono up, ((ho.set5 (fun e => hv e.symm) (fun h => hne F h rfl) _ _ _ _ _).mono up).base hsz, hF, hv, below_set5 (below_mv hw hb) hF _ _ _ _ _⟩
set_option maxRecDepth 100000 in
set_option maxHeartbeats 8000000 in
theorem AheadC {R : Nat → Prop} {w W : World} {v u : Value} {s g : List Nm} (K : Nat) (D : Option Addr) (dn dc : Nat) (E : Option Addr) (m k : Nat) (p : Nm) (hR : R K) (h : Rows3 R w W v u g s) (hb : Blk W K 58 #[v]) (hp : Tg.Lit p) (hg : ∀ x ∈ g, Tg.Lit x) (hgl : g.length ≤ 1000) (hv : NV W W.heap.size D dn dc E m k p) :
    Calls Try.prog 30 #[.pointer (some ⟨K, 0, none⟩), nmV p.id D dn dc p.txt E m k] W (GoneEnd R K w v u g s (overN g p) W) := by
  obtain ⟨Av, cv, rfl, hcv, hrd⟩ := Tg.rdN_ownT h.a pr_lt
  obtain ⟨nv, hnv⟩ : ∃ nv, g.length = nv := ⟨_, rfl⟩
  rw [hnv] at h hb hcv hgl ⊢
  have HNV := Lib.hid hnv
  obtain ⟨⟨x, ys⟩, hoo⟩ : ∃ z, outO (overN g p) = z := ⟨_, rfl⟩
  obtain ⟨bo, hbo⟩ : ∃ b, (overN g p).isSome = b := ⟨_, rfl⟩
  have HOO := Lib.hid hoo; have HBO := Lib.hid hbo
  have hba := two_box W (.cells #[.int .i64 p.id.1, .int .i64 p.id.2, .slice D dn dc, strV p.txt, .slice E m k] 45) (.cells #[.int .i64 0, .int .i64 0, .slice none 0 0, .string ⟨#[]⟩, .slice none 0 0] 45)
  have b0 := (Blk.new W 45 #[.int .i64 p.id.1, .int .i64 p.id.2, .slice D dn dc, strV p.txt, .slice E m k]).alloc (.cells #[.int .i64 0, .int .i64 0, .slice none 0 0, .string ⟨#[]⟩, .slice none 0 0] 45)
  have b1 := Blk.new (W.alloc (.cells #[.int .i64 p.id.1, .int .i64 p.id.2, .slice D dn dc, strV p.txt, .slice E m k] 45)) 45 #[.int .i64 0, .int .i64 0, .slice none 0 0, .string ⟨#[]⟩, .slice none 0 0]
  simp only [World.size_alloc] at b1
  have hs1 : ((W.alloc (.cells #[.int .i64 p.id.1, .int .i64 p.id.2, .slice D dn dc, strV p.txt, .slice E m k] 45)).alloc (.cells #[.int .i64 0, .int .i64 0, .slice none 0 0, .string ⟨#[]⟩, .slice none 0 0] 45)).heap.size = W.heap.size + 2 := by simp
  have HLK : Hid (K < W.heap.size) := Lib.hid hb.lt
  have HRK := Lib.hid hR; have HROW := Lib.hid h; have HBK := Lib.hid hb; have HV := Lib.hid hv; have HRD := Lib.hid hrd
  have HLP := Lib.hid hp; have HLG := Lib.hid hg
  clear hoo hbo hnv hb h hv hcv hR hp hg hrd
  go_enter Try.func30, Try.ntmps30
  go_upto_region 1 with fail
  generalize ((W.alloc (.cells #[.int .i64 p.id.1, .int .i64 p.id.2, .slice D dn dc, strV p.txt, .slice E m k] 45)).alloc (.cells #[.int .i64 0, .int .i64 0, .slice none 0 0, .string ⟨#[]⟩, .slice none 0 0] 45)) = W1 at b0 b1 hba hs1 ⊢
  obtain ⟨z, hz⟩ : ∃ z, W.heap.size = z := ⟨_, rfl⟩
  rw [hz] at b0 b1 hs1 ⊢
  have HZ := Lib.hid hz; have HB0 := Lib.hid b0; have HB1 := Lib.hid b1; have HBA := Lib.hid hba; have HS1 := Lib.hid hs1
  have HK1 := Lib.hid (HBK.out.below hba HBK.out.lt)
  have HR1 : Hid (Rows3 (fun b => R b ∨ b = z ∨ b = z + 1) w W1 (.slice Av nv cv) u g s) := Lib.hid (HROW.out.more (fun b e => e.imp id fun e => by rcases e with e | e <;> omega) hba (fun b e => by rcases e with e | e | e; (have := (HROW.out.rl b e).2; omega); omega; omega))
  have PO : Hid (∀ X, Below W1.heap.size W1 X → Calls Try.prog 25 #[.slice Av nv cv, nmV p.id D dn dc p.txt E m k] X (NOverEnd X x ys bo)) := Lib.hid (fun X hX => OverN Av nv cv g D dn dc E m k p X hgl (by have h1 := HV.out.l; have h2 := HLP.out.2.1; omega) (by have h1 := HV.out.dl; have h2 := HLP.out.2.2; omega) HLP.out.1 (RdN.mv (RdN.mv HRD.out HBA.out) hX) HNV.out (over_all HLG.out) ((HV.out.mv HBA.out).mv hX) x ys bo HOO.out HBO.out)
  have HC : Hid (∀ X, Below W1.heap.size W1 X → X.cell? ⟨K, 0, none⟩ = some (.slice Av nv cv) ∧ X.cell? ⟨z, 0, none⟩ = some (.int .i64 p.id.1) ∧ X.cell? ⟨z, 1, none⟩ = some (.int .i64 p.id.2) ∧ X.cell? ⟨z, 2, none⟩ = some (.slice D dn dc) ∧ X.cell? ⟨z, 3, none⟩ = some (strV p.txt) ∧ X.cell? ⟨z, 4, none⟩ = some (.slice E m k)) := Lib.hid (fun X hX => have h1 := HB0.out.below hX HB0.out.lt; ⟨(HK1.out.below hX HK1.out.lt).cell 0 rfl, h1.cell 0 rfl, h1.cell 1 rfl, h1.cell 2 rfl, h1.cell 3 rfl, h1.cell 4 rfl⟩)
  have HF : Hid (∀ (X : World) (F : Nat) (v0 v1 v2 v3 v4 : Value), Below W1.heap.size W1 X → W1.heap.size ≤ F → (((((X.setCell ⟨F, 0, none⟩ v0).setCell ⟨F, 1, none⟩ v1).setCell ⟨F, 2, none⟩ v2).setCell ⟨F, 3, none⟩ v3).setCell ⟨F, 4, none⟩ v4).cell? ⟨K, 0, none⟩ = some (.slice Av nv cv) ∧ (((((X.setCell ⟨F, 0, none⟩ v0).setCell ⟨F, 1, none⟩ v1).setCell ⟨F, 2, none⟩ v2).setCell ⟨F, 3, none⟩ v3).setCell ⟨F, 4, none⟩ v4).cell? ⟨z, 0, none⟩ = some (.int .i64 p.id.1) ∧ (((((X.setCell ⟨F, 0, none⟩ v0).setCell ⟨F, 1, none⟩ v1).setCell ⟨F, 2, none⟩ v2).setCell ⟨F, 3, none⟩ v3).setCell ⟨F, 4, none⟩ v4).cell? ⟨z, 1, none⟩ = some (.int .i64 p.id.2) ∧ (((((X.setCell ⟨F, 0, none⟩ v0).setCell ⟨F, 1, none⟩ v1).setCell ⟨F, 2, none⟩ v2).setCell ⟨F, 3, none⟩ v3).setCell ⟨F, 4, none⟩ v4).cell? ⟨z, 2, none⟩ = some (.slice D dn dc) ∧ (((((X.setCell ⟨F, 0, none⟩ v0).setCell ⟨F, 1, none⟩ v1).setCell ⟨F, 2, none⟩ v2).setCell ⟨F, 3, none⟩ v3).setCell ⟨F, 4, none⟩ v4).cell? ⟨z, 3, none⟩ = some (strV p.txt) ∧ (((((X.setCell ⟨F, 0, none⟩ v0).setCell ⟨F, 1, none⟩ v1).setCell ⟨F, 2, none⟩ v2).setCell ⟨F, 3, none⟩ v3).setCell ⟨F, 4, none⟩ v4).cell? ⟨z, 4, none⟩ = some (.slice E m k)) := Lib.hid (fun X F v0 v1 v2 v3 v4 hX hF => HC.out _ (below_set5 hX hF v0 v1 v2 v3 v4))
  have HKB := Lib.hid (show Below W1.heap.size W1 W1.drew from below_drewN (Below.refl _ _) 1)
  have HKD := Lib.hid (HC.out W1.drew HKB.out)
  have HDZ := Lib.hid (first_d0 W1 #[.int .i64 0, .int .i64 0, .slice none 0 0, .string ⟨#[]⟩, .slice none 0 0])
  have HLE := Lib.hid (Nat.le_refl W1.heap.size)
  have HS0 := Lib.hid (HC.out W1 (Below.refl _ _))
  clear hz b0 b1 hba hs1
  go_cut [6, 7, 8] from 9 (fun s6 s7 s8 wx => ∃ F v', s6 = .pointer (some ⟨F, 0, none⟩) ∧ s7 = v' ∧ s8 = .bool bo ∧ OverLay W1 x ys v' F wx)
  case first =>
    obtain ⟨k0, z0, z1, z2, z3, z4⟩ := HS0.out
    have hlk := HK1.out.lt; have hlz := HB0.out.lt
    go_region_held3 (fun X => X.cell? ⟨K, 0, none⟩ = some (.slice Av nv cv) ∧ X.cell? ⟨z, 0, none⟩ = some (.int .i64 p.id.1) ∧ X.cell? ⟨z, 1, none⟩ = some (.int .i64 p.id.2) ∧ X.cell? ⟨z, 2, none⟩ = some (.slice D dn dc) ∧ X.cell? ⟨z, 3, none⟩ = some (strV p.txt) ∧ X.cell? ⟨z, 4, none⟩ = some (.slice E m k))
      (first | (with_reducible exact HKD.out) | (with_reducible exact HC.out _ HDZ.out.1) | (with_reducible exact hS1) | (with_reducible exact HC.out _ HE1.out) | (with_reducible exact HC.out _ HE2.out) | (with_reducible exact HF.out _ _ _ _ _ _ _ HU.out HLE.out))
      (first
        | (go_at_call 25; (with_reducible refine (PO.out W1.drew HKB.out).mono ?_); rintro e u1 ⟨D1, d1, e1, E1, m1, k1, v1, rfl, hn, ho, hb⟩; have hbu := below_mv HKB.out hb; have hS1 := HC.out u1 hbu; have HU := Lib.hid hbu; have HE1 := Lib.hid (hbu.alloc hbu.size (.cells #[.int .i64 0, .int .i64 0, .slice none 0 0, .string ⟨#[]⟩, .slice none 0 0] 45)); have HE2 := Lib.hid (hbu.alloc hbu.size (.cells #[.int .i64 x.id.1, .int .i64 x.id.2, .slice D1 d1 e1, strV x.txt, .slice E1 m1 k1] 45)); have HN := Lib.hid (show NG u1 (fun b => Since W1 u1 b ∧ some b ≠ v1.ownBlock) D1 d1 e1 E1 m1 k1 x from hn); have HO := Lib.hid (show Tg.OwnT u1 (fun b => Since W1 u1 b ∧ some b ≠ v1.ownBlock) W1.heap.size v1 ys from ho); clear hn ho hb hbu)
        | (go_at_call 25; (with_reducible refine (PO.out (W1.alloc (.cells #[.int .i64 0, .int .i64 0, .slice none 0 0, .string ⟨#[]⟩, .slice none 0 0] 45)).drew HDZ.out.1).mono ?_); rintro e u1 ⟨D1, d1, e1, E1, m1, k1, v1, rfl, hn, ho, hb⟩; have hbu := below_mv HDZ.out.1 hb; have hS1 := HC.out u1 hbu; have HU := Lib.hid hbu; have tf2 := HDZ.out.2.below hb HDZ.out.2.lt; have y0 := tf2.cell 0 rfl; have y1 := tf2.cell 1 rfl; have y2 := tf2.cell 2 rfl; have y3 := tf2.cell 3 rfl; have y4 := tf2.cell 4 rfl; have fz0 := tf2.frozen 0; have fz1 := tf2.frozen 1; have fz2 := tf2.frozen 2; have fz3 := tf2.frozen 3; have fz4 := tf2.frozen 4; have ylt := tf2.lt; have HN := Lib.hid hn; have HO := Lib.hid ho; have HB := Lib.hid hb; clear hn ho hb hbu))
    all_goals (try go_wp2_with fail)
    all_goals go_meet
    (with_reducible exact ⟨_, _, rfl, rfl, rfl, over_lay_a HN.out HO.out HU.out⟩)
    (with_reducible exact ⟨_, _, rfl, rfl, rfl, over_lay_b HN.out HO.out HB.out HDZ.out.1 HLE.out HDZ.out.2⟩)
  case rest =>
    obtain ⟨F, v', rfl, rfl, rfl, D1, d1, e1, E1, m1, k1, hbf, hng, hot, hF, hvF, hb⟩ := hcut
    clear HC HF HKD HKB HDZ HLE HS0 PO
    have HBF := Lib.hid hbf; have HNG := Lib.hid hng; have HOT := Lib.hid hot; have HFW := Lib.hid hF; have HBW := Lib.hid hb
    have HK2 := Lib.hid (HK1.out.below hb HK1.out.lt); have HY := Lib.hid (HB1.out.below hb HB1.out.lt)
    have hy := HY.out
    have y0 := hy.cell 0 rfl; have y1 := hy.cell 1 rfl; have y2 := hy.cell 2 rfl; have y3 := hy.cell 3 rfl; have y4 := hy.cell 4 rfl; have f0 := hy.frozen 0; have f1 := hy.frozen 1; have f2 := hy.frozen 2; have f3 := hy.frozen 3; have f4 := hy.frozen 4; have hyl := hy.lt; have hyl0 := Nat.lt_of_succ_lt hyl
    have hzw := HZ.out; have hs1 := HS1.out
    cases bo with
    | false =>
      clear hbf hng hot hF hvF hb hy
      have HE : Hid (overN g p = none) := Lib.hid (by have h := HBO.out; cases ho : overN g p with | none => rfl | some q => rw [ho] at h; cases h)
      go_wp2_with fail
      have b4 := Tg.blk5 HY.out (.int .i64 0) (.int .i64 0) (.slice none 0 0) (.string ⟨#[]⟩) (.slice none 0 0)
      have hr4 := ((HR1.out.below HBW.out).set5 (b := z + 1) (.inr (.inr rfl)) (.int .i64 0) (.int .i64 0) (.slice none 0 0) (.string ⟨#[]⟩) (.slice none 0 0)).less (fun b hb => .inl hb)
      have hk4 := blk_set5 HK2.out (g := z + 1) (by have := HLK.out; omega) (.int .i64 0) (.int .i64 0) (.slice none 0 0) (.string ⟨#[]⟩) (.slice none 0 0)
      have hm4 := (mine_below (below_mv HBA.out HBW.out) : Mine (fun b => b = K) W wc).set5 (b := z + 1) (.inr (by omega)) (.int .i64 0) (.int .i64 0) (.slice none 0 0) (.string ⟨#[]⟩) (.slice none 0 0)
      generalize (World.setCell (World.setCell (World.setCell (World.setCell (World.setCell wc ⟨z + 1, 0, none⟩ (.int .i64 0)) ⟨z + 1, 1, none⟩ (.int .i64 0)) ⟨z + 1, 2, none⟩ (.slice none 0 0)) ⟨z + 1, 3, none⟩ (.string ⟨#[]⟩)) ⟨z + 1, 4, none⟩ (.slice none 0 0)) = w9 at *
      have t0 := b4.cell 0 rfl; have t1 := b4.cell 1 rfl; have t2 := b4.cell 2 rfl; have t3 := b4.cell 3 rfl; have t4 := b4.cell 4 rfl
      refine bodyPost_ret (v := .tuple #[.agg #[.int .i64 0, .int .i64 0, .slice none 0 0, .string ⟨#[]⟩, .slice none 0 0], .bool false]) (by simp [results, Try.results30, go_sem, t0, t1, t2, t3, t4]) rfl ?_
      rw [HE.out]
      exact ⟨none, 0, 0, none, 0, 0, _, rfl, ng_no _ _, hr4, hk4, hm4⟩
    | true =>
      have HE : Hid (overN g p = some (x, ys)) := Lib.hid (by have h := HBO.out; have h2 := HOO.out; cases ho : overN g p with | none => rw [ho] at h; cases h | some q => rw [ho] at h2; exact congrArg some h2)
      obtain ⟨A2, c2, rfl, hc2⟩ := Tg.ownT_slice hot
      obtain ⟨n2, hn2⟩ : ∃ n, ys.length = n := ⟨_, rfl⟩
      rw [hn2] at HNG HOT hvF ⊢
      have HVF := Lib.hid hvF
      clear hng hot hc2 hn2 hvF
      have kk0 := HK2.out.cell 0 rfl; have kf := HK2.out.frozen 0; have hkl := HK2.out.lt
      have q0 := hbf.cell 0 rfl; have q1 := hbf.cell 1 rfl; have q2 := hbf.cell 2 rfl; have q3 := hbf.cell 3 rfl; have q4 := hbf.cell 4 rfl; have hfl := hbf.lt
      have HKZ : Hid (K < z) := Lib.hid (by have := HLK.out; omega)
      have hne1 : ¬ K = z + 1 := by have := HKZ.out; omega
      have hne2 : ¬ F = z + 1 := by omega
      have hne3 : ¬ F = K := by have := HKZ.out; omega
      clear hbf hy
      go_wp2_with fail
      have hup : ∀ b, ((Since W1 wc b ∧ some b ≠ (Value.slice A2 n2 c2).ownBlock) ∧ b ≠ F) → b ≠ K ∧ b ≠ z + 1 := fun b hb => by have h1 := hb.1.1.1; have := HKZ.out; omega
      have hn3 := HNG.out.to_ ((alike_set wc K 0 (.slice A2 n2 c2)).mono fun b hb => (hup b hb).1)
      have hr3 := (HR1.out.over (HOT.out.mono fun b hb => hb.1) HBW.out).set (b := K) (.inl HRK.out) 0 (.slice A2 n2 c2)
      have hk3 := HK2.out.set 0 (.slice A2 n2 c2)
      have hy3 := HY.out.set_ne (b' := K) (by omega) 0 (.slice A2 n2 c2)
      have hm3 := (mine_below (below_mv HBA.out HBW.out) : Mine (fun b => b = K) W wc).setn (b := K) (.inl rfl) 0 (.slice A2 n2 c2)
      have hs3 : (wc.setCell ⟨K, 0, none⟩ (.slice A2 n2 c2)).heap.size = wc.heap.size := by simp
      generalize (wc.setCell ⟨K, 0, none⟩ (.slice A2 n2 c2)) = w3 at *
      have b4 := Tg.blk5 hy3 (.int .i64 x.id.1) (.int .i64 x.id.2) (.slice D1 d1 e1) (strV x.txt) (.slice E1 m1 k1)
      have hn4 := hn3.to_ ((alike_set5 w3 (z + 1) (.int .i64 x.id.1) (.int .i64 x.id.2) (.slice D1 d1 e1) (strV x.txt) (.slice E1 m1 k1)).mono fun b hb => (hup b hb).2)
      have hr4 := hr3.set5 (b := z + 1) (.inr (.inr rfl)) (.int .i64 x.id.1) (.int .i64 x.id.2) (.slice D1 d1 e1) (strV x.txt) (.slice E1 m1 k1)
      have hk4 := blk_set5 hk3 (g := z + 1) (by omega) (.int .i64 x.id.1) (.int .i64 x.id.2) (.slice D1 d1 e1) (strV x.txt) (.slice E1 m1 k1)
      have hm4 := hm3.set5 (b := z + 1) (.inr (by omega)) (.int .i64 x.id.1) (.int .i64 x.id.2) (.slice D1 d1 e1) (strV x.txt) (.slice E1 m1 k1)
      have hs4 : (World.setCell (World.setCell (World.setCell (World.setCell (World.setCell w3 ⟨z + 1, 0, none⟩ (.int .i64 x.id.1)) ⟨z + 1, 1, none⟩ (.int .i64 x.id.2)) ⟨z + 1, 2, none⟩ (.slice D1 d1 e1)) ⟨z + 1, 3, none⟩ (strV x.txt)) ⟨z + 1, 4, none⟩ (.slice E1 m1 k1)).heap.size = w3.heap.size := by simp
      generalize (World.setCell (World.setCell (World.setCell (World.setCell (World.setCell w3 ⟨z + 1, 0, none⟩ (.int .i64 x.id.1)) ⟨z + 1, 1, none⟩ (.int .i64 x.id.2)) ⟨z + 1, 2, none⟩ (.slice D1 d1 e1)) ⟨z + 1, 3, none⟩ (strV x.txt)) ⟨z + 1, 4, none⟩ (.slice E1 m1 k1)) = w9 at *
      have t0 := b4.cell 0 rfl; have t1 := b4.cell 1 rfl; have t2 := b4.cell 2 rfl; have t3 := b4.cell 3 rfl; have t4 := b4.cell 4 rfl
      refine bodyPost_ret (v := .tuple #[.agg #[.int .i64 x.id.1, .int .i64 x.id.2, .slice D1 d1 e1, strV x.txt, .slice E1 m1 k1], .bool true]) (by simp [results, Try.results30, go_sem, t0, t1, t2, t3, t4]) rfl ?_
      rw [HE.out]
      refine ⟨D1, d1, e1, E1, m1, k1, _, rfl, hn4.mono fun b hb => ?_, hr4.less (fun b hb => .inl hb), hk4, hm4⟩
      have h1 := hb.1.1.1; have h2 := hb.1.1.2
      refine ⟨by omega, fun e => ?_, hb.1.2, fun e => ?_⟩
      · have := (HROW.out.rl b e).2; omega
      · have := Tg.ownT_lt HROW.out.b b e.symm; omega

end Bb
end Go.Proofs.Ytdnkinajbebkoaa

set_option maxRecDepth 100000
namespace Go.Proofs.Ytdnkinajbebkoaa
open Go.RowKit
set_option linter.unusedVariables false
set_option linter.unusedSimpArgs false
namespace Bb
open Tx Df Sq Hk Tr Pr Fl Pn Tg

/-- A patch behind others that stood behind it: what they are, what it is. -/
def undN : Nm → List Nm → Option (List Nm × Nm)
  | p, [] => some ([], p)
  | p, q :: l => (passN p q).bind fun y => (undN y.2 l).map fun z => (y.1 :: z.1, z.2)
theorem und_eq : ∀ (l : List Nm) (p : Nm), underN p l = (undN p l).map fun z => (z.1, [z.2])
  | [], p => rfl
  | q :: l, p => by
    show passL passN [p] (q :: l) = _
    rw [passL, undN, Fl.one, Fl.one, Option.bind_some]
    cases h : passN p q with
    | none => rfl
    | some y =>
      have := und_eq l y.2
      show (passL passN [y.2] l).map _ = ((undN y.2 l).map _).map _
      rw [show passL passN [y.2] l = _ from this]
      cases undN y.2 l with
      | none => rfl
      | some z => rfl
section
variable {p q x : Nm} {k o l : List Nm}
theorem und_none (h : undN p k = none) : underN p k = none := by rw [und_eq, h]; rfl
theorem und_some (h : undN p k = some (o, q)) : underN p k = some (o, [q]) := by rw [und_eq, h]; rfl
theorem und_lit : ∀ {k o : List Nm} {p q : Nm}, Tg.Lit p → (∀ x ∈ k, Tg.Lit x) → undN p k = some (o, q) → (∀ x ∈ o, Tg.Lit x) ∧ Tg.Lit q
  | [], o, p, q, hp, hk, h => by
    injection h with h
    injection h with h1 h2
    subst h1 h2
    exact ⟨fun x hx => (by cases hx), hp⟩
  | x :: k, o, p, q, hp, hk, h => by
    rw [undN] at h
    cases h1 : passN p x with
    | none => rw [h1] at h; cases h
    | some y =>
      rw [h1, Option.bind_some] at h
      cases h2 : undN y.2 k with
      | none => rw [h2] at h; cases h
      | some z =>
        rw [h2] at h
        injection h with h
        injection h with e1 e2
        have hl := pass_lit h1 hp (hk x (.head _))
        have := und_lit (q := z.2) hl.2 (fun x hx => hk x (.tail _ hx)) h2
        subst e1 e2
        refine ⟨fun w hw => ?_, this.2⟩
        rcases List.mem_cons.1 hw with h | h
        · rw [h]; exact hl.1
        · exact this.1 w h
theorem und_len : ∀ {k o : List Nm} {p q : Nm}, undN p k = some (o, q) → o.length = k.length
  | [], o, p, q, h => by
    injection h with h
    injection h with h1 h2
    subst h1
    rfl
  | x :: k, o, p, q, h => by
    rw [undN] at h
    cases h1 : passN p x with
    | none => rw [h1] at h; cases h
    | some y =>
      rw [h1, Option.bind_some] at h
      cases h2 : undN y.2 k with
      | none => rw [h2] at h; cases h
      | some z =>
        rw [h2] at h
        injection h with h
        injection h with e1 e2
        have := und_len (q := z.2) h2
        subst e1
        rw [List.length_cons, List.length_cons, this]
end
/-- The blocks that S names and those made behind z + 1, but for a row's own. -/
def UP (S : Nat → Prop) (z : Nat) (W : World) (v : Value) : Nat → Prop := fun b => (S b ∨ (z + 2 ≤ b ∧ b < W.heap.size)) ∧ some b ≠ v.ownBlock
/-- Between two rounds of under: x lies in the box z, o in a row. -/
structure UO (W : World) (S : Nat → Prop) (z : Nat) (v : Value) (o : List Nm) (x : Nm) (D : Option Addr) (dn dc : Nat) (E : Option Addr) (m k : Nat) : Prop where
  lo : ∀ b, S b → b < z
  row : Tg.OwnT W (UP S z W v) (z + 2) v o
  bq : Blk W z 45 (Tg.nmC x D dn dc E m k)
  br : Blk W (z + 1) 45 noC
  ng : NG W (UP S z W v) D dn dc E m k x
section
variable {W wc w9 : World} {S : Nat → Prop} {z g : Nat} {v v' : Value} {o o' : List Nm} {x y1 : Nm} {D E D3 E3 : Option Addr} {dn dc m k d3 e3 n3 k3 : Nat}
theorem UO.lt (h : UO W S z v o x D dn dc E m k) : ∀ b, UP S z W v b → b < W.heap.size := fun b hb => by
  rcases hb.1 with h1 | h1
  · have := h.lo b h1; have := h.bq.lt; omega
  · exact h1.2
/-- What a call of Pass told, made since W, is none of the row's. -/
theorem UO.new (h : UO W S z v o x D dn dc E m k) (hg : g + 1 = W.heap.size) {w5 : World} (hs : wc.heap.size ≤ w5.heap.size) (hb : Below W.heap.size W wc) : ∀ b, QS (UP S z W v) g wc b → UP S z w5 v b := fun b hq => by
  have hs0 := hb.size
  have hz := h.br.lt
  rcases hq with h1 | h1
  · refine ⟨h1.1.imp id fun h2 => ⟨h2.1, by omega⟩, h1.2⟩
  · exact ⟨.inr ⟨by omega, by omega⟩, fun e => by have := Tg.ownT_lt h.row b e.symm; omega⟩
theorem UO.up (h : UO W S z v o x D dn dc E m k) {w5 : World} (hs : W.heap.size ≤ w5.heap.size) : ∀ b, UP S z W v b → UP S z w5 v b := fun b hb => ⟨hb.1.imp id fun h2 => ⟨h2.1, by omega⟩, hb.2⟩
end
end Bb
end Go.Proofs.Ytdnkinajbebkoaa

set_option maxRecDepth 100000
namespace Go.Proofs.Ytdnkinajbebkoaa
open Go.RowKit
set_option linter.unusedVariables false
namespace Bb
open Tx Df Sq Hk Tr Pr Rg Fl Pn Tg

section
variable {p x q x1 y1 : Nm} {k o : List Nm}
theorem und_cons {a : Nm} (h : undN p (a :: k) = some (o, x)) : ∃ z o', passN p a = some z ∧ undN z.2 k = some (o', x) ∧ o = z.1 :: o' := by
  unfold undN at h
  cases ha : passN p a with
  | none => rw [ha] at h; cases h
  | some z =>
    rw [ha] at h
    have h : (undN z.2 k).map (fun y => (z.1 :: y.1, y.2)) = some (o, x) := h
    cases hk : undN z.2 k with
    | none => rw [hk] at h; cases h
    | some t =>
      rw [hk] at h
      injection h with h
      injection h with h1 h2
      subst h1 h2
      exact ⟨z, t.1, rfl, hk, rfl⟩
theorem und_put {a : Nm} {z : Nm × Nm} (ha : passN p a = some z) : undN p (a :: k) = (undN z.2 k).map fun y => (z.1 :: y.1, y.2) := by
  rw [undN, ha]; rfl
theorem und_snoc : ∀ {k : List Nm} {p : Nm} {o : List Nm}, undN p k = some (o, x) → passN x q = some (x1, y1) → undN p (k ++ [q]) = some (o ++ [x1], y1)
  | [], p, o, h, hp => by
    injection h with h
    injection h with h1 h2
    subst h1 h2
    show undN p [q] = _
    rw [und_put hp]
    rfl
  | a :: k, p, o, h, hp => by
    obtain ⟨z, o', ha, hk, rfl⟩ := und_cons h
    rw [List.cons_append, und_put ha, und_snoc hk hp]
    rfl
theorem und_snoc_none : ∀ {k : List Nm} {p : Nm} {o : List Nm}, undN p k = some (o, x) → passN x q = none → ∀ t, undN p (k ++ q :: t) = none
  | [], p, o, h, hp, t => by
    injection h with h
    injection h with h1 h2
    subst h1 h2
    show undN p (q :: t) = _
    rw [undN, hp]
    rfl
  | a :: k, p, o, h, hp, t => by
    obtain ⟨z, o', ha, hk, rfl⟩ := und_cons h
    rw [List.cons_append, und_put ha, und_snoc_none hk hp t]
    rfl
end
theorem drop_rev {l : List Nm} {i : Nat} {q : Nm} (h : l[i]? = some q) : (l.drop i).reverse = (l.drop (i + 1)).reverse ++ [q] := by
  have hi := (List.getElem?_eq_some_iff.1 h).1
  rw [List.drop_eq_getElem_cons hi, List.reverse_cons, (List.getElem?_eq_some_iff.1 h).2]
theorem rev_split {l : List Nm} {i : Nat} {q : Nm} (h : l[i]? = some q) : ∃ t, l.reverse = (l.drop (i + 1)).reverse ++ q :: t := by
  have hi := (List.getElem?_eq_some_iff.1 h).1
  refine ⟨(l.take i).reverse, ?_⟩
  have : l = l.take i ++ q :: l.drop (i + 1) := by
    rw [← (List.getElem?_eq_some_iff.1 h).2, ← List.drop_eq_getElem_cons hi, List.take_append_drop]
  rw (config := { occs := .pos [1] }) [this]
  simp

/-- What there was, and the blocks that the walk keeps for itself: the patch's box, the row, the row's box. -/
def UvR (w : World) (F g : Nat) : Nat → Prop := fun b => b < w.heap.size ∨ b = F ∨ b = g ∨ b = g + 1
structure UvI (w : World) (F g n : Nat) (l : List Nm) (p : Nm) (dn m j : Nat) (x : Nm) (post : List Nm) (D : Option Addr) (dc : Nat) (E : Option Addr) (k : Nat) (W : World) : Prop where
  pos : w.heap.size ≤ F ∧ F < g
  eq : undN p (l.drop j).reverse = some (post.reverse, x)
  pl : j + post.length = n
  lx : Tg.Lit x
  row : Tg.OwnT W (But W (UvR w F g)) w.heap.size (.slice (some ⟨g, 0, none⟩) n n) (List.replicate j noN ++ post)
  ng : NG W (But W (UvR w F g)) D dn dc E m k x
  bf : Blk W F 45 (Tg.nmC x D dn dc E m k)
  bb : Blk W (g + 1) 22 #[.slice (some ⟨g, 0, none⟩) n n]
  fr : Below w.heap.size w W
def UvJ (w : World) (F g n : Nat) (l : List Nm) (p : Nm) (dn m : Nat) (pre : List Nat) (W : World) : Prop := ∃ x post D dc E k, UvI w F g n l p dn m (n - pre.length) x post D dc E k W
/-- What holds when the patch can't pass: two boxes have noughts. -/
def UvX (R : Nat → Prop) (K z : Nat) (w we : World) (v u : Value) (gl s : List Nm) (p : Nm) (c : Code) (_ : List Nat) (W : World) : Prop :=
  c = .ret ∧ undN p gl.reverse = none ∧ Blk W (z + 1) 45 noC ∧ Blk W (z + 1 + 1) 4 #[.bool false] ∧ Rows3 R w W v u gl s ∧ Blk W K 58 #[v] ∧ Mine (fun b => b = K) we W
section
variable {w we W : World} {F g n B K z : Nat} {l gl s : List Nm} {p : Nm} {dn m : Nat} {R : Nat → Prop} {v u : Value}
theorem uvJ_ab (hB : w.heap.size ≤ B) : Ab Plain B (UvJ w F g n l p dn m) := fun s W W' row hs hg hr => by
  obtain ⟨x, post, D, dc, E, k, h⟩ := hs
  have bl : ∀ {b : Nat} {t : TypeId} {cs : Array Value}, Blk W b t cs → Blk W' b t cs := fun h => ab_blk (β := Unit) (B := B) (fun _ => _) () W W' row h hg hr
  exact ⟨x, post, D, dc, E, k, h.pos, h.eq, h.pl, h.lx, (h.row.plain hg (fun r e => (hr r e).2)).mono (but_up hg.size), (h.ng.kc (keepC_plain hg (fun r e => (hr r e).2))).mono (but_up hg.size), bl h.bf, bl h.bb, h.fr.grown hg h.fr.size (fun r e => Nat.le_trans hB (hr r e).1)⟩
theorem uvX_ab (hB : w.heap.size ≤ B) (hE : we.heap.size ≤ B) (c : Code) : Ab Plain B (UvX R K z w we v u gl s p c) := fun _ W W' row hs hg hr => by
  obtain ⟨h1, h2, h3, h4, h5, h6, h7⟩ := hs
  have bl : ∀ {b : Nat} {t : TypeId} {cs : Array Value}, Blk W b t cs → Blk W' b t cs := fun h => ab_blk (β := Unit) (B := B) (fun _ => _) () W W' row h hg hr
  exact ⟨h1, h2, bl h3, bl h4, h5.plain hg (fun r e => (hr r e).2) (fun r e => Nat.le_trans hB (hr r e).1), bl h6, h7.trans (mine_grown (R := fun b => B ≤ b) hg (fun k e => (hr k e).1)) (fun b hb => .inr (Nat.le_trans hE hb))⟩
end
theorem UvI.mv {w W W' : World} {F g n : Nat} {l : List Nm} {p : Nm} {dn m j : Nat} {x : Nm} {post : List Nm} {D : Option Addr} {dc : Nat} {E : Option Addr} {k : Nat} (h : UvI w F g n l p dn m j x post D dc E k W) (hb : Below W.heap.size W W') : UvI w F g n l p dn m j x post D dc E k W' :=
  ⟨h.pos, h.eq, h.pl, h.lx, (h.row.below hb).mono (but_up hb.size), (h.ng.to_ (fun b _ hl => hb.block b hl)).mono (but_up hb.size), h.bf.below hb h.bf.lt, h.bb.below hb h.bb.lt, below_mv h.fr hb⟩

/-- A round in which both pass: first the one that is kept is stored, then the patch. -/
theorem uv_step {w X w2 w4 : World} {F g n i : Nat} {l : List Nm} {p x q x1 y1 : Nm} {dn m : Nat} {post : List Nm} {D : Option Addr} {dc : Nat} {E : Option Addr} {k : Nat} {D1 E1 D2 E2 : Option Addr} {d1 c1 m1 k1 c2 k2 : Nat}
    (hI : UvI w F g n l p dn m (i + 1) x post D dc E k X) (hb2 : Below X.heap.size X w2) (hb4 : Below w2.heap.size w2 w4) (n1 : NG w2 (Since X w2) D1 d1 c1 E1 m1 k1 x1) (n2 : NG w2 (Since X w2) D2 dn c2 E2 m k2 y1) (hx : l[i]? = some q) (hq : Tg.Lit q) (hs : passN x q = some (x1, y1)) :
    let w6 := ((((w4.setCell ⟨g, i * 5, none⟩ (.int .i64 x1.id.1)).setCell ⟨g, i * 5 + 1, none⟩ (.int .i64 x1.id.2)).setCell ⟨g, i * 5 + 2, none⟩ (.slice D1 d1 c1)).setCell ⟨g, i * 5 + 3, none⟩ (strV x1.txt)).setCell ⟨g, i * 5 + 4, none⟩ (.slice E1 m1 k1)
    let w9 := ((((w6.setCell ⟨F, 0, none⟩ (.int .i64 y1.id.1)).setCell ⟨F, 1, none⟩ (.int .i64 y1.id.2)).setCell ⟨F, 2, none⟩ (.slice D2 dn c2)).setCell ⟨F, 3, none⟩ (strV y1.txt)).setCell ⟨F, 4, none⟩ (.slice E2 m k2)
    UvI w F g n l p dn m i y1 (x1 :: post) D2 c2 E2 k2 w9 ∧ (∀ B, KeepsFrom B X w9) ∧ (∀ Bs v, Bs ≠ F → Bs ≠ g → Boxed X Bs 22 v → Boxed w9 Bs 22 v) ∧ Blk w6 F 45 (Tg.nmC x D dn dc E m k) := by
  intro w6 w9
  obtain ⟨hF, hFg⟩ := hI.pos
  have hb : Below X.heap.size X w4 := hb2.trans (hb4.mono hb2.size)
  have hX : g + 1 < X.heap.size := hI.bb.lt
  have hs4 : w4.heap.size = w6.heap.size := by simp [w6]
  have hs6 : w6.heap.size = w9.heap.size := by simp [w9]
  have h2 : w2.heap.size ≤ w4.heap.size := hb4.size
  have hS : ∀ b, Since X w2 b → But w4 (UvR w F g) b := fun b h => ⟨by have := h.2; omega, fun e => by have := h.1; have := hI.fr.size; rcases e with e | e | e | e <;> omega⟩
  have ne1 : ∀ b, But w4 (UvR w F g) b → b ≠ g := fun b h e => h.2 (.inr (.inr (.inl e)))
  have ne2 : ∀ b, But w4 (UvR w F g) b → b ≠ F := fun b h e => h.2 (.inr (.inl e))
  have al1 := alike_row5 w4 g i (.int .i64 x1.id.1) (.int .i64 x1.id.2) (.slice D1 d1 c1) (strV x1.txt) (.slice E1 m1 k1)
  have al2 := alike_set5 w6 F (.int .i64 y1.id.1) (.int .i64 y1.id.2) (.slice D2 dn c2) (strV y1.txt) (.slice E2 m k2)
  have up : ∀ b, But w4 (UvR w F g) b → But w9 (UvR w F g) b := but_up (Nat.le_of_eq (hs4.trans hs6))
  have hl3 := hI.bf.lt
  have r4 := (hI.row.below hb).mono (but_up hb.size)
  have m4 := (n1.to_ (fun b h hl => hb4.block b hl)).mono hS
  have n4 := (n2.to_ (fun b h hl => hb4.block b hl)).mono hS
  have hlen : (List.replicate (i + 1) noN ++ post).length = n := by rw [List.length_append, List.length_replicate]; exact hI.pl
  have r6 := r4.store (k := i) hlen (fun h => ne1 g h rfl) m4
  rw [rep_set] at r6
  have b6 := blk_row5 (hI.bf.below hb hl3) (show F ≠ g by omega) i (.int .i64 x1.id.1) (.int .i64 x1.id.2) (.slice D1 d1 c1) (strV x1.txt) (.slice E1 m1 k1)
  refine ⟨⟨⟨hF, hFg⟩, ?_, ?_, ?_, ?_, ?_, ?_, ?_, ?_⟩, fun B => ?_, fun Bs v h1 h2 hv => ?_, b6⟩
  · rw [drop_rev hx, List.reverse_cons]
    exact und_snoc hI.eq hs
  · have := hI.pl
    rw [List.length_cons]; omega
  · exact (pass_lit hs hI.lx hq).2
  · exact (r6.set5 (b := F) (fun e => by injection e with e; have e : F = g := e; omega) (fun h => ne2 F h rfl) _ _ _ _ _).mono up
  · exact ((n4.to_ (al1.mono ne1)).to_ (al2.mono ne2)).mono up
  · exact Tg.blk5 b6 _ _ _ _ _
  · exact blk_set5 (blk_row5 (hI.bb.below hb hX) (by omega) i _ _ _ _ _) (by omega) _ _ _ _ _
  · exact below_set5 (below_row5 (below_mv hI.fr hb) (by omega) i _ _ _ _ _) (by omega) _ _ _ _ _
  · exact ((keepsFrom_below B hb).trans (keeps_row5 w4 B g i _ _ _ _ _)).trans (keeps_set5 w6 B F _ _ _ _ _)
  · exact blk_set5 (blk_row5 (Blk.below (show Blk X Bs 22 #[v] from hv) hb hv.lt) h2 i _ _ _ _ _) h1 _ _ _ _ _

/-- The memory in which the range begins. -/
theorem uv_start {w u1 : World} {n dn m c k : Nat} {A D E : Option Addr} {l : List Nm} {p : Nm} (hng : NG u1 (Since w u1) D dn c E m k p) (hb : Below w.heap.size w u1) (hls : RdN w w.heap.size A l) (hl : l.length = n) (hn : n ≤ 1000) (hlp : Tg.Lit p) (c' : Nat) :
    let wc := u1.alloc (.cells (Tg.nmC p D dn c E m k) 45)
    let w5 := ((wc.alloc (.cells (madeCells noC (n * 5)) 45)).alloc (.cells #[.slice (some ⟨u1.heap.size + 1, 0, none⟩) n n] 22)).alloc (.cells #[.slice A n c'] 22)
    UvJ w u1.heap.size (u1.heap.size + 1) n l p dn m [] w5 ∧ Boxed w5 (u1.heap.size + 1 + 1 + 1) 22 (.slice A n c') ∧ w5.heap.size = u1.heap.size + 4 ∧ Cells5 w5 A n := by
  intro wc w5
  have hsc : wc.heap.size = u1.heap.size + 1 := by simp [wc]
  have hbc : Below u1.heap.size u1 wc := (Below.refl _ _).alloc (Nat.le_refl _) _
  have h5 : Below wc.heap.size wc w5 := (((Below.refl _ _).alloc (Nat.le_refl _) _).alloc (by simp) _).alloc (by simp; omega) _
  have hsz : w5.heap.size = u1.heap.size + 4 := by simp [w5, hsc]
  have hall : Below w.heap.size w w5 := below_mv (below_mv hb hbc) h5
  have hbb := (Blk.new (wc.alloc (.cells (madeCells noC (n * 5)) 45)) 22 #[.slice (some ⟨u1.heap.size + 1, 0, none⟩) n n]).alloc (.cells #[.slice A n c'] 22)
  have hbx := Boxed.new ((wc.alloc (.cells (madeCells noC (n * 5)) 45)).alloc (.cells #[.slice (some ⟨u1.heap.size + 1, 0, none⟩) n n] 22)) 22 (.slice A n c')
  simp only [World.size_alloc, hsc] at hbb hbx
  have hmd := ownT_made wc n (But w5 (UvR w u1.heap.size (u1.heap.size + 1))) hn
  rw [hsc] at hmd
  have hm2 : Below (wc.alloc (.cells (madeCells noC (n * 5)) 45)).heap.size (wc.alloc (.cells (madeCells noC (n * 5)) 45)) w5 := ((Below.refl _ _).alloc (Nat.le_refl _) _).alloc (by simp) _
  have hbf : Blk w5 u1.heap.size 45 (Tg.nmC p D dn c E m k) := (Blk.new u1 45 (Tg.nmC p D dn c E m k)).below h5 (by rw [hsc]; omega)
  refine ⟨⟨p, [], D, c, E, k, ⟨hb.size, by omega⟩, ?_, by simp, hlp, ?_, ?_, hbf, hbb, hall⟩, hbx, hsz, cells5_rd (RdN.below hls hall) hl⟩
  · rw [List.length_nil, Nat.sub_zero, List.drop_of_length_le (by rw [hl]; exact Nat.le_refl _)]; rfl
  · rw [List.length_nil, Nat.sub_zero, List.append_nil]
    obtain ⟨xs, x1, x2⟩ := hmd.below hm2
    exact ⟨xs, own_mono x1 (Nat.le_trans hb.size (Nat.le_succ _)), x2⟩
  · refine ((hng.to_ (fun b _ hl => hbc.block b hl)).to_ ((alike_below h5).mono fun b h => by have := h.2; omega)).mono fun b h => ⟨by have := h.2; omega, fun e => ?_⟩
    have h1 := h.1; have h2 := h.2
    rcases e with e | e | e | e <;> omega

/-- The patch can't pass: two boxes get noughts. -/
theorem uv_no {w we w1 X w2 : World} {T : Nat → Prop} {K z : Nat} {v u : Value} {gl s : List Nm} {p : Nm} {pre : List Nat} {B : Nat} (hR : Rows3 T w w1 v u gl s) (hK : Blk w1 K 58 #[v]) (hKz : K < z) (h1 : T (z + 1)) (h2 : T (z + 1 + 1)) (hz : we.heap.size = z) (hbe : Below we.heap.size we w1) (r0 : Blk w1 (z + 1) 45 noC) (r1 : Blk w1 (z + 1 + 1) 4 #[.bool false])
    (hb1 : Below w1.heap.size w1 X) (hb2 : Below X.heap.size X w2) (hn : undN p gl.reverse = none) (o o' : Obj) :
    KeepsFrom B X (((((((((w2.setCell ⟨z + 1, 0, none⟩ (.int .i64 0)).setCell ⟨z + 1, 1, none⟩ (.int .i64 0)).setCell ⟨z + 1, 2, none⟩ (.slice none 0 0)).setCell ⟨z + 1, 3, none⟩ (.string ⟨#[]⟩)).setCell ⟨z + 1, 4, none⟩ (.slice none 0 0)).setCell ⟨z + 1 + 1, 0, none⟩ (.bool false)).alloc o).alloc o')) ∧
    UvX T K z w we v u gl s p .ret pre (((((((((w2.setCell ⟨z + 1, 0, none⟩ (.int .i64 0)).setCell ⟨z + 1, 1, none⟩ (.int .i64 0)).setCell ⟨z + 1, 2, none⟩ (.slice none 0 0)).setCell ⟨z + 1, 3, none⟩ (.string ⟨#[]⟩)).setCell ⟨z + 1, 4, none⟩ (.slice none 0 0)).setCell ⟨z + 1 + 1, 0, none⟩ (.bool false)).alloc o).alloc o')) := by
  have hb := below_mv hb1 hb2
  have hr := ((hR.below hb).set5 h1 (.int .i64 0) (.int .i64 0) (.slice none 0 0) (.string ⟨#[]⟩) (.slice none 0 0)).set h2 0 (.bool false)
  have hk := (blk_set5 (hK.below hb hK.lt) (g := z + 1) (by omega) (.int .i64 0) (.int .i64 0) (.slice none 0 0) (.string ⟨#[]⟩) (.slice none 0 0)).set_ne (b' := z + 1 + 1) (by omega) 0 (.bool false)
  have h0 := (Tg.blk5 (r0.below hb r0.lt) (.int .i64 0) (.int .i64 0) (.slice none 0 0) (.string ⟨#[]⟩) (.slice none 0 0)).set_ne (b' := z + 1 + 1) (by omega) 0 (.bool false)
  have h4 := (blk_set5 (r1.below hb r1.lt) (g := z + 1) (by omega) (.int .i64 0) (.int .i64 0) (.slice none 0 0) (.string ⟨#[]⟩) (.slice none 0 0)).set 0 (.bool false)
  have hm := ((mine_below (below_mv hbe hb) : Mine (fun b => b = K) we w2).set5 (b := z + 1) (.inr (by omega)) (.int .i64 0) (.int .i64 0) (.slice none 0 0) (.string ⟨#[]⟩) (.slice none 0 0)).setn (b := z + 1 + 1) (.inr (by omega)) 0 (.bool false)
  have hk1 : KeepsFrom B X ((((((w2.setCell ⟨z + 1, 0, none⟩ (.int .i64 0)).setCell ⟨z + 1, 1, none⟩ (.int .i64 0)).setCell ⟨z + 1, 2, none⟩ (.slice none 0 0)).setCell ⟨z + 1, 3, none⟩ (.string ⟨#[]⟩)).setCell ⟨z + 1, 4, none⟩ (.slice none 0 0)).setCell ⟨z + 1 + 1, 0, none⟩ (.bool false)) := ((keepsFrom_below B hb2).trans (keeps_set5 w2 B (z + 1) _ _ _ _ _)).trans ((KeepsOthers.setCell _ _ _).from B)
  generalize ((((((w2.setCell ⟨z + 1, 0, none⟩ (.int .i64 0)).setCell ⟨z + 1, 1, none⟩ (.int .i64 0)).setCell ⟨z + 1, 2, none⟩ (.slice none 0 0)).setCell ⟨z + 1, 3, none⟩ (.string ⟨#[]⟩)).setCell ⟨z + 1, 4, none⟩ (.slice none 0 0)).setCell ⟨z + 1 + 1, 0, none⟩ (.bool false)) = w3 at *
  have h5 : Below w3.heap.size w3 ((w3.alloc o).alloc o') := two_box w3 o o'
  exact ⟨(hk1.trans ((KeepsOthers.alloc _ o).from B)).trans ((KeepsOthers.alloc _ o').from B), rfl, hn, (h0.alloc o).alloc o', (h4.alloc o).alloc o', hr.below h5, (hk.alloc o).alloc o', hm.trans (mine_below (R := fun _ => False) h5) (fun b e => e.elim)⟩

/-- The patch has passed all. -/
theorem uv_done {w we w1 W : World} {T : Nat → Prop} {K z F g n dn m E : Nat} {v u : Value} {gl s post : List Nm} {p x : Nm} {D : Option Addr} {dc : Nat} {Ad : Option Addr} {k : Nat} (hI : UvI w1 F g n gl p dn m 0 x post D dc Ad k W) (hR : Rows3 T w w1 v u gl s) (hK : Blk w1 K 58 #[v]) (hKz : K < z) (h0 : T K) (h1 : T (z + 1)) (h2 : T (z + 1 + 1)) (hz : we.heap.size = z) (hz1 : w1.heap.size = z + 3) (hbe : Below we.heap.size we w1) (r0 : Blk w1 (z + 1) 45 noC) (r1 : Blk w1 (z + 1 + 1) 4 #[.bool false])
    (hE : w1.heap.size ≤ E) (hKE : W.heap[E]? = some (.deferred (some []))) :
    let W9 := ((((((W.setCell ⟨K, 0, none⟩ (.slice (some ⟨g, 0, none⟩) n n)).setCell ⟨z + 1, 0, none⟩ (.int .i64 x.id.1)).setCell ⟨z + 1, 1, none⟩ (.int .i64 x.id.2)).setCell ⟨z + 1, 2, none⟩ (.slice D dn dc)).setCell ⟨z + 1, 3, none⟩ (strV x.txt)).setCell ⟨z + 1, 4, none⟩ (.slice Ad m k)).setCell ⟨z + 1 + 1, 0, none⟩ (.bool true)
    W9.heap[E]? = some (.deferred (some [])) ∧ Blk (W9.putObj E (.deferred none)) (z + 1) 45 (Tg.nmC x D dn dc Ad m k) ∧ Blk (W9.putObj E (.deferred none)) (z + 1 + 1) 4 #[.bool true] ∧ NG (W9.putObj E (.deferred none)) (PR T (W9.putObj E (.deferred none)) (.slice (some ⟨g, 0, none⟩) n n) u) D dn dc Ad m k x ∧
      Rows3 T w (W9.putObj E (.deferred none)) (.slice (some ⟨g, 0, none⟩) n n) u post s ∧ Blk (W9.putObj E (.deferred none)) K 58 #[.slice (some ⟨g, 0, none⟩) n n] ∧ Mine (fun b => b = K) we (W9.putObj E (.deferred none)) := by
  intro W9
  obtain ⟨hF, hFg⟩ := hI.pos
  have hrow := hI.row
  rw [List.replicate_zero, List.nil_append] at hrow
  have hx : Tg.OwnT W (fun b => Since w1 W b ∧ some b ≠ (Value.slice (some ⟨g, 0, none⟩) n n).ownBlock) w1.heap.size (.slice (some ⟨g, 0, none⟩) n n) post := hrow.mono fun b hb => ⟨⟨Nat.le_of_not_lt fun e => hb.2 (.inl e), hb.1⟩, fun e => hb.2 (.inr (.inr (.inl (by injection e))))⟩
  have hr : Rows3 T w W9 (.slice (some ⟨g, 0, none⟩) n n) u post s := (((hR.over hx hI.fr).set h0 0 (.slice (some ⟨g, 0, none⟩) n n)).set5 h1 (.int .i64 x.id.1) (.int .i64 x.id.2) (.slice D dn dc) (strV x.txt) (.slice Ad m k)).set h2 0 (.bool true)
  have hk : Blk W9 K 58 #[.slice (some ⟨g, 0, none⟩) n n] := (blk_set5 ((hK.below hI.fr hK.lt).set 0 (.slice (some ⟨g, 0, none⟩) n n)) (g := z + 1) (by omega) (.int .i64 x.id.1) (.int .i64 x.id.2) (.slice D dn dc) (strV x.txt) (.slice Ad m k)).set_ne (b' := z + 1 + 1) (by omega) 0 (.bool true)
  have b0 : Blk W9 (z + 1) 45 (Tg.nmC x D dn dc Ad m k) := (Tg.blk5 ((r0.below hI.fr r0.lt).set_ne (b' := K) (by omega) 0 (.slice (some ⟨g, 0, none⟩) n n)) (.int .i64 x.id.1) (.int .i64 x.id.2) (.slice D dn dc) (strV x.txt) (.slice Ad m k)).set_ne (b' := z + 1 + 1) (by omega) 0 (.bool true)
  have b1 : Blk W9 (z + 1 + 1) 4 #[.bool true] := (blk_set5 ((r1.below hI.fr r1.lt).set_ne (b' := K) (by omega) 0 (.slice (some ⟨g, 0, none⟩) n n)) (g := z + 1) (by omega) (.int .i64 x.id.1) (.int .i64 x.id.2) (.slice D dn dc) (strV x.txt) (.slice Ad m k)).set 0 (.bool true)
  have hm : Mine (fun b => b = K) we W9 := (((mine_below (below_mv hbe hI.fr) : Mine (fun b => b = K) we W).setn (b := K) (.inl rfl) 0 (.slice (some ⟨g, 0, none⟩) n n)).set5 (b := z + 1) (.inr (by omega)) (.int .i64 x.id.1) (.int .i64 x.id.2) (.slice D dn dc) (strV x.txt) (.slice Ad m k)).setn (b := z + 1 + 1) (.inr (by omega)) 0 (.bool true)
  have ge : ∀ b, But W (UvR w1 F g) b → w1.heap.size ≤ b := fun b hb => Nat.le_of_not_lt fun e => hb.2 (.inl e)
  have hng : NG W9 (But W (UvR w1 F g)) D dn dc Ad m k x := ((hI.ng.to_ ((alike_set W K 0 (.slice (some ⟨g, 0, none⟩) n n)).mono fun b hb e => by have := ge b hb; omega)).to_ ((alike_set5 _ (z + 1) (.int .i64 x.id.1) (.int .i64 x.id.2) (.slice D dn dc) (strV x.txt) (.slice Ad m k)).mono fun b hb e => by have := ge b hb; omega)).to_ ((alike_set _ (z + 1 + 1) 0 (.bool true)).mono fun b hb e => by have := ge b hb; omega)
  have k9 : W9.heap[E]? = some (.deferred (some [])) := ((((KeepsOthers.setCell W _ _).from E).trans (keeps_set5 _ E (z + 1) _ _ _ _ _)).trans ((KeepsOthers.setCell _ _ _).from E)).same E _ (Nat.le_refl _) hKE rfl
  have hs : W.heap.size = W9.heap.size := by simp [W9]
  clear_value W9
  have hp := grownBy_putObj' W9 E (.deferred none)
  have hpr : ∀ r, some E = some r → ∃ o : Obj, W9.heap[r]? = some o ∧ o.isCells = false := fun r e => by injection e with e; subst e; exact ⟨_, k9, rfl⟩
  have bp : ∀ {b : Nat} {t : TypeId} {cs : Array Value}, Blk W9 b t cs → Blk (W9.putObj E (.deferred none)) b t cs := fun {b t cs} h => h.gr hp (fun e => by
    injection e with e
    subst e
    rw [show W9.heap[b]? = _ from h] at k9
    cases k9)
  have hsz : W.heap.size = (W9.putObj E (.deferred none)).heap.size := by rw [hs]; simp
  have hr9 := hr.plain hp hpr (fun r e => by injection e with e; have := hR.bw.size; omega)
  refine ⟨k9, bp b0, bp b1, ((hng.kc (keepC_plain hp hpr)).mono fun b hb => ?_), hr9, bp hk, hm.trans (mine_grown (R := fun b => b = E) hp (fun j e => by injection e with e; exact e.symm)) (fun b e => .inr (by have := hbe.size; omega))⟩
  have h3 := ge b hb
  refine ⟨by have := hb.1; omega, fun e => ?_, fun e => hb.2 (.inr (.inr (.inl (by injection e)))), fun e => ?_⟩
  · have := (hR.rl b e).2; omega
  · have := Tg.ownT_lt hR.b b e.symm; omega

end Bb
end Go.Proofs.Ytdnkinajbebkoaa

set_option maxRecDepth 100000
namespace Go.Proofs.Ytdnkinajbebkoaa
open Go.RowKit Go.Shelf
set_option linter.unusedVariables false
namespace Bb
open Tx Rg Fl Pn Tg
attribute [local go_sem] Oper.semAt_some

theorem allN_in (n : Nat) (A : Option Addr) (l c : Nat) (w : World) :
    CallsIn Fence.wide n Try.prog 29 #[.slice A l c] w fun e w' => e = .returned (.func (.func 52) #[] #[.pointer (some ⟨w.heap.size, 0, none⟩)]) ∧ w' = w.alloc (.cells #[.slice A l c] 22) := by
  refine callsIn_of_wp Try.func29 rfl trivial ?_ rfl
  simp only [Try.ntmps29, List.size_toArray, List.length_cons, List.length_nil, Nat.reduceAdd, Nat.reduceSub, Array.replicate_succ, Array.replicate_zero, List.push_toArray, List.append_toArray, List.nil_append, List.cons_append]
  gi_wp2
  go_ret
  exact ⟨rfl, rfl⟩
/-- The cells of m patches, in their forms. -/
def CellsN (W : World) (A : Option Addr) (m : Nat) : Prop := ∀ i, i < m → ∃ a x y D dn dc t E n c, A = some a ∧ W.cell? (a.add (i * 5)) = some (.int .i64 x) ∧ W.cell? ⟨(a.add (i * 5)).block, (a.add (i * 5)).off + 1, none⟩ = some (.int .i64 y) ∧ W.cell? ⟨(a.add (i * 5)).block, (a.add (i * 5)).off + 2, none⟩ = some (.slice D dn dc) ∧
  W.cell? ⟨(a.add (i * 5)).block, (a.add (i * 5)).off + 3, none⟩ = some (strV t) ∧ W.cell? ⟨(a.add (i * 5)).block, (a.add (i * 5)).off + 4, none⟩ = some (.slice E n c)
/-- What a round must keep: the box in which the slice lies, and the cells of its row. -/
def KpA (Bs : Nat) (A : Option Addr) (W W' : World) : Prop := (∀ v, Boxed W Bs 22 v → Boxed W' Bs 22 v) ∧ (∀ a, A = some a → ∀ (p : Addr) u, p.block = a.block → W.cell? p = some u → W'.cell? p = some u)
section
variable {Bs m : Nat} {A : Option Addr} {W W' : World}
theorem CellsN.kp (h : CellsN W A m) (hk : ∀ a, A = some a → ∀ (p : Addr) u, p.block = a.block → W.cell? p = some u → W'.cell? p = some u) : CellsN W' A m := fun i hi => by
  obtain ⟨a, x, y, D, dn, dc, t, E, n, c, rfl, c0, c1, c2, c3, c4⟩ := h i hi
  exact ⟨a, x, y, D, dn, dc, t, E, n, c, rfl, hk a rfl _ _ (add_block _ _) c0, hk a rfl _ _ (add_block _ _) c1, hk a rfl _ _ (add_block _ _) c2, hk a rfl _ _ (add_block _ _) c3, hk a rfl _ _ (add_block _ _) c4⟩
theorem CellsN.cells5 (h : CellsN W A m) : Cells5 W A m := fun i hi => by
  obtain ⟨a, x, y, D, dn, dc, t, E, n, c, rfl, c0, c1, c2, c3, c4⟩ := h i hi
  exact ⟨a, _, _, _, _, _, rfl, c0, c1, c2, c3, c4⟩
theorem cellsN_rd {B : Nat} {l : List Nm} (h : RdN W B A l) (hm : l.length = m) : CellsN W A m := fun i hi => by
  obtain ⟨a, x, D, dn, dc, E, n, c, e, _, _, c0, c1, c2, c3, c4, _⟩ := h.elem (k := i) (by omega)
  exact ⟨a, _, _, _, _, _, _, _, _, _, e, c0, c1, c2, c3, c4⟩
theorem kpA_gr {row : Option Nat} (hg : W.grownBy W' row) (hr : ∀ r, row = some r → ∃ o : Obj, W.heap[r]? = some o ∧ o.isCells = false) : KpA Bs A W W' :=
  ⟨fun v hv => hv.kept hg (fun e => by obtain ⟨o, ho, hf⟩ := hr Bs e.symm; rw [show W.heap[Bs]? = _ from hv] at ho; cases ho; cases hf), fun a _ p u _ hu => (keepC_plain (S := fun _ => True) hg hr).cell trivial hu⟩
theorem kpA_t {W W1 W2 : World} (h : KpA Bs A W W1) (k : KpA Bs A W1 W2) : KpA Bs A W W2 := ⟨fun v hv => k.1 v (h.1 v hv), fun a e p u hp hu => k.2 a e p u hp (h.2 a e p u hp hu)⟩
theorem kpA_b {l : Nat} (W : World) (o o' : Obj) (h : W.heap[l]? = some o) (ho : o.isCells = false) : KpA Bs A W (W.putObj l o') := kpA_gr (grownBy_putObj' W l o') (fun r e => by cases e; exact ⟨o, h, ho⟩)
theorem kpA_new (hg : W.grownBy W' none) : KpA Bs A W W' := kpA_gr hg (fun r e => by cases e)
theorem kpA_below (hb : Below W.heap.size W W') : KpA Bs A W W' := kpA_gr (row := none) ⟨hb.os, hb.tape, hb.output, hb.size, fun k hk _ => hb.block k hk⟩ (fun r e => by cases e)
theorem KpA.kpN (h : KpA Bs A W W') : KpN Bs A m W W' := ⟨h.1, fun hc i hi => by
  obtain ⟨a, v0, v1, v2, v3, v4, rfl, c0, c1, c2, c3, c4⟩ := hc i hi
  exact ⟨a, v0, v1, v2, v3, v4, rfl, h.2 a rfl _ _ (add_block _ _) c0, h.2 a rfl _ _ (add_block _ _) c1, h.2 a rfl _ _ (add_block _ _) c2, h.2 a rfl _ _ (add_block _ _) c3, h.2 a rfl _ _ (add_block _ _) c4⟩⟩
end
theorem gives_kp {α : Type} {P : Program} {Free : Obj → Prop} {n g : Nat} {lb : Array Value} {E : α → Array Value → World → Prop} {full : List α} {Kp Kp' : World → World → Prop} {w : World} (h : GivesE P Free n g lb E full Kp w) (hk : ∀ W W', Kp' W W' → Kp W W') : GivesE P Free n g lb E full Kp' w := fun J Jx W h1 h2 h3 h4 h5 h6 =>
  h J Jx W h1 h2 h3 h4 (fun pre x post vals W1 a b c => by
    obtain ⟨fn, tmps, assign, body, hy, hR⟩ := h5 pre x post vals W1 a b c
    exact ⟨fn, tmps, assign, body, hy, hR.mono fun e w' h => h.imp (fun h => ⟨h.1, h.2.1, hk _ _ h.2.2⟩) id⟩) h6
theorem up_succ {m k : Nat} (h : k < m) : List.range' k (m - k) = k :: List.range' (k + 1) (m - (k + 1)) := by
  rw [show m - k = (m - (k + 1)) + 1 by omega, List.range'_succ]

set_option maxRecDepth 100000 in
set_option maxHeartbeats 2000000 in
theorem allN1_in (n l Bs cap m : Nat) (A : Option Addr) (hle : m ≤ 1000000) (J Jx : List Nat → World → Prop) (hJ : ∀ pre (W : World) (o : Obj), J pre W → J pre (W.alloc o))
    (hY : ∀ pre x post vals W1, List.range' 0 m = pre ++ x :: post → J pre W1 → EN m A x vals W1 → YieldAt Fence.wide (n - 1) Try.prog l vals W1 fun e W' =>
      (e = .returned (.bool true) ∧ J (pre ++ [x]) W' ∧ KpA Bs A W1 W') ∨ (e = .returned (.bool false) ∧ Jx (pre ++ [x]) W'))
    (W : World) (hBs : Boxed W Bs 22 (.slice A m cap)) (hR : CellsN W A m) (h0 : J [] W) :
    CallsIn Fence.wide n Try.prog 52 #[.func (.yield l) #[] #[], .pointer (some ⟨Bs, 0, none⟩)] W fun e W' => (∃ v, e = .returned v) ∧ (J (List.range' 0 m) W' ∨ ∃ pre post, List.range' 0 m = pre ++ post ∧ Jx pre W') := by
  have hc := hBs.cell
  refine callsIn_of_wp Try.func52 rfl trivial ?_ rfl
  simp only [Try.ntmps52, List.size_toArray, List.length_cons, List.length_nil, Nat.reduceAdd, Nat.reduceSub, Array.replicate_succ, Array.replicate_zero, List.push_toArray, List.append_toArray, List.nil_append, List.cons_append]
  gi_wp2
  gi_loopw [7] (fun i wr => ∃ k pre, k ≤ m ∧ i = .int .i64 (k : Int) ∧ List.range' 0 m = pre ++ List.range' k (m - k) ∧ J pre wr ∧ Boxed wr Bs 22 (.slice A m cap) ∧ CellsN wr A m) (fun i _ => m - (intOf i).toNat)
  case atStart => exact ⟨0, [], Nat.zero_le _, rfl, rfl, h0, hBs, hR⟩
  case round =>
    clear hc
    obtain ⟨k, pre, hk, rfl, hb, hJs, hBs', hR'⟩ := hrel
    have HB := Lib.hid hb; clear hb
    have HR := Lib.hid hR'; clear hR'
    have hc := hBs'.cell
    by_cases hlt : k < m
    · have hki : (k : Int) < (m : Int) := by omega
      have HB2 : Hid (List.range' 0 m = pre ++ k :: List.range' (k + 1) (m - (k + 1))) := Lib.hid (by rw [HB.out, up_succ hlt])
      clear HB
      obtain ⟨a, x, y, D, dn, dc, t, E, en, ec, rfl, c0, c1, c2, c3, c4⟩ := HR.out k hlt
      obtain ⟨fn, tmps, assign, body, hy, hRR⟩ := hY pre k _ #[.int .i64 (k : Int), .agg #[.int .i64 x, .int .i64 y, .slice D dn dc, strV t, .slice E en ec]] (wr.alloc (.cells #[.int .i64 x, .int .i64 y, .slice D dn dc, strV t, .slice E en ec] 45)) HB2.out (hJ _ _ _ hJs) (ab_EN.alloc (s := ()) (B := 0) _ ⟨hlt, a, _, _, _, _, _, rfl, rfl, c0, c1, c2, c3, c4⟩)
      gi_wp2
      refine ⟨(fun h => by cases h), ?_⟩
      refine hRR.mono ?_
      rintro e W3 (⟨rfl, hJ3, hk3⟩ | ⟨rfl, hJx3⟩)
      · have hk0 := kpA_new (Bs := Bs) (A := some a) (World.grownBy_alloc wr (.cells #[.int .i64 x, .int .i64 y, .slice D dn dc, strV t, .slice E en ec] 45) none)
        have hB2 := hk3.1 _ (hk0.1 _ hBs')
        have hR2 := (HR.out.kp hk0.2).kp hk3.2
        have hc3 := hB2.cell
        clear c0 c1 c2 c3 c4
        gi_wp2
        go_roundw
        case rel => exact ⟨k + 1, pre ++ [k], by omega, rfl, by rw [HB2.out]; simp, hJ3, hB2, hR2⟩
        case measure => simp [intOf]; omega
      · gi_wp2
        refine bodyPost_ret (results_none rfl _ _ _) rfl ?_
        exact ⟨⟨_, rfl⟩, .inr ⟨pre ++ [k], List.range' (k + 1) (m - (k + 1)), by rw [HB2.out]; simp, hJx3⟩⟩
    · have hki : ¬ (k : Int) < (m : Int) := by omega
      gi_wp2
      go_end0
      exact ⟨⟨_, rfl⟩, .inl (by have := HB.out; rw [show m - k = 0 by omega] at this; rw [this, List.range'_zero, List.append_nil]; exact hJs)⟩

theorem allN_gives (n Bs cap m : Nat) (A : Option Addr) (hle : m ≤ 1000000) (w : World) (hBs : Boxed w Bs 22 (.slice A m cap)) (hR : CellsN w A m) :
    GivesE Try.prog Plain n 52 #[.pointer (some ⟨Bs, 0, none⟩)] (EN m A) (List.range' 0 m) (KpA Bs A) w := fun J Jx W hW hs hA _ hY h0 =>
  allN1_in n _ Bs cap m A hle J Jx (fun pre W o h => hA.alloc o h) (fun pre x post vals W1 h1 h2 h3 => yield_less (hY pre x post vals W1 h1 h2 h3)) W ((hW.block Bs hBs.lt).trans hBs) (hR.kp (kpA_below hW (Bs := Bs)).2) h0

end Bb
end Go.Proofs.Ytdnkinajbebkoaa

set_option maxRecDepth 100000
namespace Go.Proofs.Ytdnkinajbebkoaa
open Go.RowKit
set_option linter.unusedVariables false
set_option linter.unusedSimpArgs false
namespace Bb
open Tx Df Sq Hk Tr Pr Fl Pn Tg
attribute [local go_sem] eq_id

/-- Is an id one of some? -/
def isIn (l : List Id_) (x : Id_) : Bool := decide (x ∈ l)
/-- How a function ends that tells ids: a row of one's own. -/
def IdsEnd (w : World) (l : List Id_) (e : Ending) (w' : World) : Prop := ∃ A n c, e = .returned (.slice A n c) ∧ l.length = n ∧ n ≤ c ∧ RdI w' w'.heap.size A l ∧ Below w.heap.size w w'
theorem ids_take {l : List Nm} {k : Nat} {p : Nm} (h : l[k]? = some p) : idsN (l.take (k + 1)) = idsN (l.take k) ++ [p.id] := by
  unfold idsN
  rw [List.take_add_one, h, List.map_append]
  rfl

end Bb
end Go.Proofs.Ytdnkinajbebkoaa

set_option maxRecDepth 100000
namespace Go.Proofs.Ytdnkinajbebkoaa
open Go.RowKit
set_option linter.unusedVariables false
namespace Bb
open Tx Df Sq Hk Tr Pr Rg Fl Pn Tg

theorem lit_snoc {l : List Nm} {p : Nm} (h : ∀ x ∈ l, Tg.Lit x) (hp : Tg.Lit p) : ∀ x ∈ l ++ [p], Tg.Lit x := fun x hx => by
  rcases List.mem_append.1 hx with h1 | h1
  · exact h x h1
  · cases List.mem_singleton.1 h1; exact hp
/-- Patches, one by one: which are told to pass, which are kept. -/
def bubG (ids : List Id_) (step : List Nm → Nm → Option (Nm × List Nm)) : List Nm → List Nm → List Nm → List Nm × List Nm
  | [], s, g => (s, g)
  | p :: l, s, g => if isIn ids p.id = true then bubG ids step l s (g ++ [p]) else match step g p with
    | some z => bubG ids step l (s ++ [z.1]) z.2
    | none => bubG ids step l s (g ++ [p])
section
variable {ids : List Id_} {step : List Nm → Nm → Option (Nm × List Nm)} {l s g : List Nm} {p : Nm} {z : Nm × List Nm}
theorem bub_in (h : isIn ids p.id = true) : bubG ids step (p :: l) s g = bubG ids step l s (g ++ [p]) := by rw [bubG, if_pos h]
theorem bub_no (h : step g p = none) : bubG ids step (p :: l) s g = bubG ids step l s (g ++ [p]) := by rw [bubG, h]; simp
theorem bub_go (hi : isIn ids p.id = false) (h : step g p = some z) : bubG ids step (p :: l) s g = bubG ids step l (s ++ [z.1]) z.2 := by rw [bubG, hi, h]; rfl
theorem part_bub : ∀ {l s g : List Nm}, partG ids l s g = bubG ids overN l s g
  | [], s, g => by rw [partG, bubG]
  | p :: l, s, g => by
    by_cases hi : p.id ∈ ids
    · rw [partG_in hi, bub_in (decide_eq_true hi)]; exact part_bub
    · cases ho : overN g p with
      | none => rw [partG_no ho, bub_no ho]; exact part_bub
      | some z => rw [partG_over hi ho, bub_go (decide_eq_false hi) ho]; exact part_bub
/-- A patch behind those that are kept, which stand the other way round. -/
def behN (g : List Nm) (p : Nm) : Option (Nm × List Nm) := (undN p g.reverse).map fun z => (z.2, z.1.reverse)
theorem bub_app : ∀ {a b s g : List Nm}, bubG ids step (a ++ b) s g = bubG ids step b (bubG ids step a s g).1 (bubG ids step a s g).2
  | [], b, s, g => rfl
  | p :: a, b, s, g => by
    rw [List.cons_append]
    cases hi : isIn ids p.id with
    | true => rw [bub_in hi, bub_in hi]; exact bub_app
    | false =>
      cases ho : step g p with
      | none => rw [bub_no ho, bub_no ho]; exact bub_app
      | some z => rw [bub_go hi ho, bub_go hi ho]; exact bub_app
theorem pick_bub : ∀ {l : List Nm}, bubG ids behN l.reverse [] [] = ((pickN ids l).2.reverse, (pickN ids l).1.reverse)
  | [] => rfl
  | p :: l => by
    rw [List.reverse_cons, bub_app, pick_bub]
    by_cases hi : p.id ∈ ids
    · rw [bub_in (decide_eq_true hi)]
      rcases h : pickN ids l with ⟨k, r⟩
      rw [pickN, if_pos hi, h]
      simp [bubG]
    · rcases h : pickN ids l with ⟨k, r⟩
      cases ho : undN p k with
      | none =>
        have : behN k.reverse p = none := by unfold behN; rw [List.reverse_reverse, ho]; rfl
        rw [bub_no this, pickN, if_neg hi, h, und_none ho]
        simp [bubG]
      | some z =>
        have : behN k.reverse p = some (z.2, z.1.reverse) := by unfold behN; rw [List.reverse_reverse, ho]; rfl
        rw [bub_go (decide_eq_false hi) this, pickN, if_neg hi, h, und_some (o := z.1) (q := z.2) ho]
        simp [bubG]
theorem over_step {g g' : List Nm} {p x : Nm} (h : overN g p = some (x, g')) (hp : Tg.Lit p) (hg : ∀ y ∈ g, Tg.Lit y) : g'.length = g.length ∧ ∀ y ∈ g', Tg.Lit y :=
  ⟨overN_len h, (over_lit (bo := true) (by rw [h]; rfl) (by rw [h]; rfl) hg hp).2⟩
theorem beh_step {g g' : List Nm} {p x : Nm} (h : behN g p = some (x, g')) (hp : Tg.Lit p) (hg : ∀ y ∈ g, Tg.Lit y) : g'.length = g.length ∧ ∀ y ∈ g', Tg.Lit y := by
  unfold behN at h
  cases hu : undN p g.reverse with
  | none => rw [hu] at h; cases h
  | some z =>
    rw [hu] at h
    injection h with h
    injection h with h1 h2
    subst h1 h2
    refine ⟨?_, fun y hy => ?_⟩
    · rw [List.length_reverse, und_len (o := z.1) (q := z.2) hu, List.length_reverse]
    · exact (und_lit (o := z.1) (q := z.2) hp (fun x hx => hg x (List.mem_reverse.1 hx)) hu).1 y (List.mem_reverse.1 hy)
end

/-- Append onto a row of patches, in a fenced walk. -/
theorem wpListIn_ownT {F : Fence} {n : Nat} {W : World} {ops : Array Oper} {rest : List Oper} {o : Oper} {a : Act} {Q : Exit → Act → World → Prop} (hgd : o.guard = none) (s x : Operand)
    (ho : o.op = .call { callee := .builtin .append, args := #[s, x], argTypes := #[22, 22] })
    (S : Nat → Prop) (base m c : Nat) (v : Value) (A : Option Addr) (l u : List Nm) (hs : a.eval s = v) (hx : a.eval x = .slice A m c) (h : Tg.OwnT W S base v l) (hu : Tg.Src W S A u)
    (hm : u.length = m) (hn : l.length + m ≤ 100000) (hS : ∀ b, S b → b < W.heap.size ∧ some b ≠ v.ownBlock) (hbase : base ≤ W.heap.size)
    (hK : ∀ v' W', Tg.OwnT W' S base v' (l ++ u) → W.grownBy W' v.ownBlock → (∀ b, v'.ownBlock = some b → v.ownBlock = some b ∨ W.heap.size ≤ b) → wpListIn F n Try.prog ops Q rest (a.put o.dst v') W') : wpListIn F n Try.prog ops Q (o :: rest) a W := by
  refine wpListIn_plain hgd fun K hK' => ?_
  obtain ⟨v', W', hrun, h2, h3, h4⟩ := run_ownT (ty := o.type) (c := c) h hu hm hn hS hbase
  unfold Oper.wpIn
  refine ⟨?_, ?_⟩
  · simp [Oper.about, ho, resolve, Target.leads, Sem.run_pure]
  · rw [Oper.semAt_plain F _ _ (by rw [ho]; intro c hc'; cases hc')]
    simp [execOp, ho, resolve, invoke, builtin, hs, hx, hrun, Result.andThen]
    exact hK' _ _ (hK _ _ h2 h3 h4)

/-- The two boxes that split writes. -/
abbrev RS (K z : Nat) : Nat → Prop := fun b => b = K ∨ b = z + 3
/-- What holds while patches are split. -/
structure SpI (w : World) (K z : Nat) (iv pv kv : Value) (v u : Value) (g s : List Nm) (W : World) : Prop where
  row : Rows3 (RS K z) w W v u g s
  bk : Blk W K 58 #[v]
  bf : Blk W (z + 3) 22 #[u]
  b0 : Blk W z 23 #[iv]
  b1 : Blk W (z + 1) 63 #[pv]
  b2 : Blk W (z + 2) 64 #[kv]
def SpJ (w : World) (K z : Nat) (iv pv kv : Value) (ids : List Id_) (step : List Nm → Nm → Option (Nm × List Nm)) (L S G : List Nm) (pre : List Nat) (W : World) : Prop :=
  ∃ v u g s, SpI w K z iv pv kv v u g s W ∧ bubG ids step (L.drop pre.length) s g = (S, G) ∧ s.length + g.length = pre.length ∧ ∀ x ∈ g, Tg.Lit x
section
variable {w W W' : World} {K z : Nat} {iv pv kv v u v' u' : Value} {g s g' s' : List Nm}
theorem SpI.plain {row : Option Nat} (h : SpI w K z iv pv kv v u g s W) (hg : W.grownBy W' row) (hr : ∀ r, row = some r → ∃ o : Obj, W.heap[r]? = some o ∧ o.isCells = false) (hB : ∀ r, row = some r → w.heap.size ≤ r) : SpI w K z iv pv kv v u g s W' := by
  have bl : ∀ {b : Nat} {t : TypeId} {cs : Array Value}, Blk W b t cs → Blk W' b t cs := fun {b t cs} h => h.gr hg (fun e => by
    obtain ⟨o, ho, hf⟩ := hr b e.symm
    rw [show W.heap[b]? = _ from h] at ho; cases ho; cases hf)
  exact ⟨h.row.plain hg hr hB, bl h.bk, bl h.bf, bl h.b0, bl h.b1, bl h.b2⟩
theorem SpI.below (h : SpI w K z iv pv kv v u g s W) (hb : Below W.heap.size W W') : SpI w K z iv pv kv v u g s W' :=
  ⟨h.row.below hb, h.bk.below hb h.bk.lt, h.bf.below hb h.bf.lt, h.b0.below hb h.b0.lt, h.b1.below hb h.b1.lt, h.b2.below hb h.b2.lt⟩
theorem rk_not {t : TypeId} {cs : Array Value} {b : Nat} (h : Rows3 (RS K z) w W v u g s) (hk : Blk W K 58 #[v]) (hb : Blk W b t cs) (h1 : t ≠ 58) (h2 : t ≠ 45) : ¬ RK K v b := fun e => by
  rcases e with rfl | e
  · have h3 := (show W.heap[b]? = _ from hb).symm.trans hk
    simp at h3
    exact h1 h3.2
  · obtain ⟨xs, hr, _⟩ := h.a
    exact hb.not_row h2 hr e
/-- Behind a step of those that are kept. -/
theorem SpI.to (h : SpI w K z iv pv kv v u g s W) (hr : Rows3 (RS K z) w W' v' u g' s) (hk : Blk W' K 58 #[v']) (hm : Mine (RK K v) W W') : SpI w K z iv pv kv v' u g' s W' :=
  ⟨hr, hk, hm.blk h.bf (rk_not h.row h.bk h.bf (by decide) (by decide)), hm.blk h.b0 (rk_not h.row h.bk h.b0 (by decide) (by decide)), hm.blk h.b1 (rk_not h.row h.bk h.b1 (by decide) (by decide)), hm.blk h.b2 (rk_not h.row h.bk h.b2 (by decide) (by decide))⟩
theorem SpI.kpA {Bs : Nat} {A : Option Addr} (h : SpI w K z iv pv kv v u g s W) (hm : Mine (RK K v) W W') (hA : ∀ a, A = some a → a.block < w.heap.size) : KpA Bs A W W' :=
  ⟨fun x hx => hm.blk (show Blk W Bs 22 #[x] from hx) (rk_not h.row h.bk (show Blk W Bs 22 #[x] from hx) (by decide) (by decide)), fun a e p c hp hc => by
    have hl := hA a e
    refine (World.cell?_of_block (hm.block p.block (World.block_lt_of_cell? W p hc) fun e => ?_)).trans hc
    rw [hp] at e
    rcases e with e | e
    · have := (h.row.rl K (.inl rfl)).1; omega
    · have := Tg.ownT_ge h.row.a _ e.symm; omega⟩
/-- The row of those that pass grows, and its box is written. -/
theorem SpI.free {t : List Nm} (h : SpI w K z iv pv kv v u g s W) (ho : Tg.OwnT W' (PR (RS K z) W u v) w.heap.size u' t) (hg : W.grownBy W' u.ownBlock) (hw : ∀ b, u'.ownBlock = some b → u.ownBlock = some b ∨ W.heap.size ≤ b) (hKz : K < z) : SpI w K z iv pv kv v u' g t (W'.setCell ⟨z + 3, 0, none⟩ u') := by
  have hr := ((h.row.swap.app ho hg hw).swap).set (b := z + 3) (.inr rfl) 0 u'
  have nr : ∀ {b : Nat} {t : TypeId} {cs : Array Value}, Blk W b t cs → t ≠ 45 → some b ≠ u.ownBlock := fun {b t cs} hb ht => by
    obtain ⟨xs, hx, _⟩ := h.row.b
    exact hb.not_row ht hx
  exact ⟨hr, (h.bk.gr hg (nr h.bk (by decide))).set_ne (by omega) 0 u', (h.bf.gr hg (nr h.bf (by decide))).set 0 u', (h.b0.gr hg (nr h.b0 (by decide))).set_ne (by omega) 0 u', (h.b1.gr hg (nr h.b1 (by decide))).set_ne (by omega) 0 u', (h.b2.gr hg (nr h.b2 (by decide))).set_ne (by omega) 0 u'⟩
theorem SpI.free_box (h : SpI w K z iv pv kv v u g s W) (hg : W.grownBy W' u.ownBlock) : Blk W' (z + 3) 22 #[u] := h.bf.gr hg (by
  obtain ⟨xs, hx, _⟩ := h.row.b
  exact h.bf.not_row (by decide) hx)
/-- What is older than all this reads as it did. -/
theorem nv_base {X Y : World} {D E : Option Addr} {dn dc n c : Nat} {q : Nm} (h : NV X w.heap.size D dn dc E n c q) (hx : Below w.heap.size w X) (hy : Below w.heap.size w Y) : NV Y Y.heap.size D dn dc E n c q :=
  (((ng_of h).to_ (fun b hb _ => (hy.block b hb).trans (hx.block b hb).symm)).nv).up hy.size
theorem SpI.mine_free (h : SpI w K z iv pv kv v u g s W) (hg : W.grownBy W' u.ownBlock) : Mine (RK (z + 3) u) W (W'.setCell ⟨z + 3, 0, none⟩ u') :=
  (mine_grown hg (fun k e => .inr e.symm) : Mine (RK (z + 3) u) W W').setn (.inl (.inl rfl)) 0 u'
theorem SpI.free_cells (h : SpI w K z iv pv kv v u g s W) : ∀ b, RK (z + 3) u b → ∃ c t f, W.heap[b]? = some (.cells c t f) := rk_cells h.row.swap h.bf
theorem SpI.kpF {Bs : Nat} {A : Option Addr} (h : SpI w K z iv pv kv v u g s W) (hm : Mine (RK (z + 3) u) W W') (hA : ∀ a, A = some a → a.block < w.heap.size) (hB : Bs < z) : KpA Bs A W W' :=
  ⟨fun x hx => hm.blk (show Blk W Bs 22 #[x] from hx) (fun e => by
    rcases e with e | e
    · omega
    · obtain ⟨xs, hr, _⟩ := h.row.b
      exact (show Blk W Bs 22 #[x] from hx).not_row (by decide) hr e), fun a e p c hp hc => by
    have hl := hA a e
    refine (World.cell?_of_block (hm.block p.block (World.block_lt_of_cell? W p hc) fun e => ?_)).trans hc
    rw [hp] at e
    rcases e with e | e
    · have := (h.row.rl (z + 3) (.inr rfl)).1; omega
    · have := Tg.ownT_ge h.row.b _ e.symm; omega⟩
theorem spJ_ab {B : Nat} {ids : List Id_} {step : List Nm → Nm → Option (Nm × List Nm)} {L S G : List Nm} (hB : w.heap.size ≤ B) : Ab Plain B (SpJ w K z iv pv kv ids step L S G) := fun pre W W' row hs hg hr => by
  obtain ⟨v, u, g, s, h, h2⟩ := hs
  exact ⟨v, u, g, s, h.plain hg (fun r e => (hr r e).2) (fun r e => Nat.le_trans hB (hr r e).1), h2⟩
/-- Two blocks of different types. -/
theorem blk_two {b b' : Nat} {t t' : TypeId} {cs cs' : Array Value} (h : Blk W b t cs) (h' : Blk W b' t' cs') (ht : t ≠ t') : b ≠ b' := fun e => by
  subst e
  have h3 := (show W.heap[b]? = _ from h).symm.trans h'
  simp at h3
  exact ht h3.2
end

/-- How split ends. -/
def SplitEnd (w : World) (K : Nat) (S G : List Nm) (e : Ending) (W' : World) : Prop := ∃ v u, e = .returned u ∧ Rows3 (fun b => b = K) w W' v u G S ∧ Blk W' K 58 #[v]

end Bb
end Go.Proofs.Ytdnkinajbebkoaa

set_option maxRecDepth 100000
namespace Go.Proofs.Ytdnkinajbebkoaa
open Go.RowKit Go.Shelf
set_option linter.unusedVariables false
set_option linter.unusedSimpArgs false
namespace Bb
open Tx Df Sq Hk Tr Pr Rg Fl Pn Tg
attribute [local go_sem] Oper.semAt_some

/-- A patch is kept: what holds behind the round. -/
theorem sp_keep {w X W' : World} {K z Bs : Nat} {iv pv kv v u : Value} {ids : List Id_} {step : List Nm → Nm → Option (Nm × List Nm)} {L S G g s : List Nm} {pre : List Nat} {i : Nat} {q : Nm} {A : Option Addr} {e : Ending}
    (hI : SpI w K z iv pv kv v u g s X) (hb : bubG ids step (L.drop pre.length) s g = (S, G)) (hl : s.length + g.length = pre.length) (hg : ∀ x ∈ g, Tg.Lit x) (hq : L[pre.length]? = some q) (hlq : Tg.Lit q) (hk : isIn ids q.id = true ∨ step g q = none) (hA : ∀ a, A = some a → a.block < w.heap.size)
    (hE : KeepEnd (RS K z) K w v u (g ++ [q]) s X e W') : e = .returned (.tuple #[]) ∧ (∀ B, KeepsFrom B X W') ∧ KpA Bs A X W' ∧ SpJ w K z iv pv kv ids step L S G (pre ++ [i]) W' := by
  obtain ⟨v', he, hr, hbk, hm⟩ := hE
  refine ⟨he, hm.keeps (rk_cells hI.row hI.bk), hI.kpA hm hA, v', u, g ++ [q], s, hI.to hr hbk hm, ?_, ?_, lit_snoc hg hlq⟩
  · rw [List.length_append, List.length_singleton]
    rw [drop_at hq] at hb
    rcases hk with h | h
    · rw [bub_in h] at hb; exact hb
    · rw [bub_no h] at hb; exact hb
  · rw [List.length_append, List.length_append, List.length_singleton, List.length_singleton]; omega

set_option maxRecDepth 100000 in
set_option maxHeartbeats 8000000 in
theorem SplitC (gf pf Bs K : Nat) (A : Option Addr) (n c : Nat) (l L : List Nm) (full : List Nat) (A' : Option Addr) (n' c' : Nat) (ids : List Id_) (step : List Nm → Nm → Option (Nm × List Nm)) (S G : List Nm) (w W : World)
    (hge : ∀ args w, (callFunc gf args).run Try.prog w = .ok (.enter gf args) w) (hpe : ∀ args w, (callFunc pf args).run Try.prog w = .ok (.enter pf args) w)
    (hG : ∀ w5, Boxed w5 Bs 22 (.slice A n c) → CellsN w5 A n → GivesE Try.prog Plain 3 gf #[.pointer (some ⟨Bs, 0, none⟩)] (EN n A) full (KpA Bs A) w5)
    (hP : ∀ (R : Nat → Prop) (X : World) (v u : Value) (g s : List Nm) (D : Option Addr) (dn dc : Nat) (E : Option Addr) (m k : Nat) (p : Nm), R K → Rows3 R w X v u g s → Blk X K 58 #[v] → Tg.Lit p → (∀ x ∈ g, Tg.Lit x) → g.length ≤ 1000 → NV X X.heap.size D dn dc E m k p →
      Calls Try.prog pf #[.pointer (some ⟨K, 0, none⟩), nmV p.id D dn dc p.txt E m k] X (GoneEnd R K w v u g s (step g p) X))
    (hSt : ∀ g p x g', step g p = some (x, g') → Tg.Lit p → (∀ y ∈ g, Tg.Lit y) → g'.length = g.length ∧ ∀ y ∈ g', Tg.Lit y)
    (hln : l.length = n) (hle : n ≤ 100) (hfull : ∀ k i : Nat, full[k]? = some i → k < n ∧ L[k]? = l[i]?) (hLn : L.length = n) (hfn : full.length = n) (hll : ∀ p ∈ l, Tg.Lit p) (hls : RdN w w.heap.size A l) (hin : ids.length = n') (hile : n' ≤ 1000000) (his : RdI w w.heap.size A' ids)
    (hBs : Boxed W Bs 22 (.slice A n c)) (hbw : Below w.heap.size w W) (hK : Blk W K 58 #[.slice none 0 0]) (hKw : w.heap.size ≤ K) (hSG : bubG ids step L [] [] = (S, G)) :
    Calls Try.prog 28 #[.func (.func gf) #[] #[.pointer (some ⟨Bs, 0, none⟩)], .slice A' n' c', .func (.func pf) #[.pointer (some ⟨K, 0, none⟩)] #[], .func (.func 31) #[.pointer (some ⟨K, 0, none⟩)] #[]] W (SplitEnd w K S G) := by
  have HGE := Lib.hid hge; have HPE := Lib.hid hpe; have HP := Lib.hid hP; have HST := Lib.hid hSt; have HFULL := Lib.hid hfull; have HLL := Lib.hid hll; have HLS := Lib.hid hls; have HIS := Lib.hid his; have HIN := Lib.hid hin; have HLN := Lib.hid hln; have HLLN := Lib.hid hLn; have HFN := Lib.hid hfn; have HKW := Lib.hid hKw; have HG := Lib.hid hG
  have HKL : Hid (K < W.heap.size) := Lib.hid hK.lt
  have HBL : Hid (Bs < W.heap.size) := Lib.hid hBs.lt
  have HSG := Lib.hid hSG
  obtain ⟨b0, b1, b2, b3, hba⟩ := four_blk W 23 63 64 22 #[(.slice A' n' c')] #[(.func (.func pf) #[.pointer (some ⟨K, 0, none⟩)] #[])] #[(.func (.func 31) #[.pointer (some ⟨K, 0, none⟩)] #[])] #[.slice none 0 0]
  have hs1 : ((((W.alloc (.cells #[(.slice A' n' c')] 23)).alloc (.cells #[(.func (.func pf) #[.pointer (some ⟨K, 0, none⟩)] #[])] 63)).alloc (.cells #[(.func (.func 31) #[.pointer (some ⟨K, 0, none⟩)] #[])] 64)).alloc (.cells #[.slice none 0 0] 22)).heap.size = W.heap.size + 4 := by simp
  have hk1 := hK.below hba hK.lt
  have hbs1 : Boxed ((((W.alloc (.cells #[(.slice A' n' c')] 23)).alloc (.cells #[(.func (.func pf) #[.pointer (some ⟨K, 0, none⟩)] #[])] 63)).alloc (.cells #[(.func (.func 31) #[.pointer (some ⟨K, 0, none⟩)] #[])] 64)).alloc (.cells #[.slice none 0 0] 22)) Bs 22 (.slice A n c) := (hba.block Bs hBs.lt).trans hBs
  have hbw1 := below_mv hbw hba
  have hwW := hbw.size
  clear hge hpe hP hSt hfull hll hls his hin hln hLn hfn hKw hG hBs hbw hK hSG
  refine (callsIn_wide (n := 4)).1 ?_
  refine callsIn_of_wp_marks Try.func28 rfl trivial ?_ rfl
  simp only [Try.ntmps28, List.size_toArray, List.length_cons, List.length_nil, Nat.reduceAdd, Nat.reduceSub, Array.replicate_succ, Array.replicate_zero, List.push_toArray, List.append_toArray, List.nil_append, List.cons_append]
  gi_wp2
  generalize ((((W.alloc (.cells #[(.slice A' n' c')] 23)).alloc (.cells #[(.func (.func pf) #[.pointer (some ⟨K, 0, none⟩)] #[])] 63)).alloc (.cells #[(.func (.func 31) #[.pointer (some ⟨K, 0, none⟩)] #[])] 64)).alloc (.cells #[.slice none 0 0] 22)) = w5 at *
  obtain ⟨z, hz⟩ : ∃ z, W.heap.size = z := ⟨_, rfl⟩
  rw [hz] at b0 b1 b2 b3 hs1 hwW ⊢
  have HZ := Lib.hid hz; have HSZ := Lib.hid hs1
  have hrow : Rows3 (RS K z) w w5 (.slice none 0 0) (.slice none 0 0) [] [] := rows3_nil w hbw1 (fun k e => by have h1 := HKW.out; have h2 := HKL.out; have h3 := HZ.out; rcases e with e | e <;> omega)
  have hst : (SpJ w K z (.slice A' n' c') (.func (.func pf) #[.pointer (some ⟨K, 0, none⟩)] #[]) (.func (.func 31) #[.pointer (some ⟨K, 0, none⟩)] #[]) ids step L S G) [] w5 := ⟨_, _, [], [], ⟨hrow, hk1, b3, b0, b1, b2⟩, HSG.out, rfl, fun x hx => (by cases hx)⟩
  have hc5 := cellsN_rd (RdN.below HLS.out hbw1) HLN.out
  have HA : Hid (∀ a, A = some a → a.block < w.heap.size ∨ n = 0) := Lib.hid (fun a e => by
    rcases HLS.out with h | ⟨a', e', h1, _⟩
    · right; rw [← HLN.out, h]; rfl
    · rw [e] at e'; injection e' with e'; subst e'; exact .inl h1)
  clear b0 b1 b2 b3 hba hk1 hbw1 hrow hz
  refine range_law (n := 4) (gf := gf) (lb := #[.pointer (some ⟨Bs, 0, none⟩)]) rfl HGE.out (Free := Plain) (fun _ h => h)
    (HG.out w5 hbs1 hc5) kpA_t (fun W o o' h ho => kpA_b W o o' h ho) (fun x vals W h => by obtain ⟨_, _, _, _, _, _, _, _, rfl, _⟩ := h; rfl)
    (SpJ w K z (.slice A' n' c') (.func (.func pf) #[.pointer (some ⟨K, 0, none⟩)] #[]) (.func (.func 31) #[.pointer (some ⟨K, 0, none⟩)] #[]) ids step L S G) (fun _ _ _ => False) (spJ_ab (by rw [hs1]; omega)) (fun c => ab_pure _ _ _) hst
    (fun i a' X => ∃ b v0 v1 v2 v3 v4, a' = { tmps := #[.func (.func gf) #[] #[.pointer (some ⟨Bs, 0, none⟩)], .slice A' n' c', .func (.func pf) #[.pointer (some ⟨K, 0, none⟩)] #[], .func (.func 31) #[.pointer (some ⟨K, 0, none⟩)] #[], undef, .pointer (some ⟨z, 0, none⟩), .pointer (some ⟨z + 1, 0, none⟩), .pointer (some ⟨z + 1 + 1, 0, none⟩), .slice none 0 0, .pointer (some ⟨z + 1 + 1 + 1, 0, none⟩), undef, .pointer (some ⟨b, 0, none⟩), undef, undef, .func (.func gf) #[] #[.pointer (some ⟨Bs, 0, none⟩)], .int .i64 (i : Int), .agg #[v0, v1, v2, v3, v4], undef, undef, undef, undef, undef, undef, undef, undef, undef, undef, undef, undef, undef, undef, undef, undef, undef, undef, undef, undef, undef, undef], defers := [] } ∧ EN n A i #[.int .i64 (i : Int), .agg #[v0, v1, v2, v3, v4]] X ∧ Blk X b 45 #[v0, v1, v2, v3, v4])
    (fun i a' => ab_ex fun b => ab_ex fun v0 => ab_ex fun v1 => ab_ex fun v2 => ab_ex fun v3 => ab_ex fun v4 => Ab.and (ab_pure _ _ _) (Ab.and ab_EN (ab_blk fun _ => _))) ?assign ?body ?done ?stop
  case assign =>
    rintro y pre i vals X Kc hi hEL hK
    obtain ⟨v, u, g, s, hI, _⟩ := id hi
    obtain ⟨q, D', dn', dc', E', m', k', hq, rfl, hv⟩ := EN.rd hEL (RdN.below HLS.out hI.row.bw) HLN.out
    clear hI hq hv
    gi_wp2
    exact hK _ _ ((KeepsOthers.alloc X _).from _) (kpA_new (World.grownBy_alloc X _ none)) ((spJ_ab (Nat.le_refl _)).alloc _ hi) ⟨_, _, _, _, _, _, rfl, ab_EN.alloc (s := ()) (B := 0) _ hEL, Blk.new _ _ _⟩
  case body =>
    rintro y pre pst i a' X hfl hI ⟨b, v0, v1, v2, v3, v4, rfl, hEL, hb⟩
    obtain ⟨v, u, g, s, hI, hbub, hlen, hlg⟩ := hI
    have hfk : full[pre.length]? = some i := by rw [hfl, List.getElem?_append_right (Nat.le_refl _), Nat.sub_self]; rfl
    obtain ⟨hkn, hLk⟩ := HFULL.out _ _ hfk
    have hrx := RdN.below HLS.out hI.row.bw
    obtain ⟨q, D, dn, dc, E, m, k, hq, hv, hqv⟩ := EN.rd hEL hrx HLN.out
    obtain ⟨rfl, rfl, rfl, rfl, rfl⟩ := valsN_eq hv
    have HLQ := Lib.hid (HLL.out q (List.mem_of_getElem? hq))
    have HAB : Hid (∀ a, A = some a → a.block < w.heap.size) := Lib.hid (fun a e => (HA.out a e).resolve_right (by omega))
    have HQL := Lib.hid (hLk.trans hq); have HI := Lib.hid hI; have HB := Lib.hid hb; have HBUB := Lib.hid hbub; have HLEN := Lib.hid hlen; have HLG := Lib.hid hlg
    have HPV := Lib.hid (hqv.up hI.row.bw.size); have HPV0 := Lib.hid hqv
    have HGL : Hid (g.length ≤ 99) := Lib.hid (by omega)
    have HSL : Hid (s.length ≤ 99) := Lib.hid (by omega)
    clear hfl hfk hLk hrx hq hv hqv hEL hbub hlen hlg hkn
    obtain ⟨bi, hbi⟩ : ∃ b, isIn ids q.id = b := ⟨_, rfl⟩
    have HBI := Lib.hid hbi
    clear hbi
    have e0 := hb.cell 0 rfl; have e1 := hb.cell 1 rfl; have e2 := hb.cell 2 rfl; have e3 := hb.cell 3 rfl; have e4 := hb.cell 4 rfl; have el := hb.lt
    have z0 := hI.b0.cell 0 rfl; have zl := hI.b0.lt
    clear hI hb
    gi_wp2_with fail
    refine ⟨trivial, CallsIn.inRound y (callsIn_wide.2 ((ContainsI q.id A' n' c' X.heap.size ids X bi HIN.out hile (Nat.le_refl _) (RdI.mv HIS.out HI.out.row.bw) HBI.out).mono ?_))⟩
    rintro e w2 ⟨rfl, hb2⟩
    have HI2 := Lib.hid (HI.out.below hb2); have HBX2 := Lib.hid (HB.out.below hb2 HB.out.lt); have HPV2 := Lib.hid (HPV.out.mv hb2); have HB2 := Lib.hid hb2
    clear e0 e1 e2 e3 e4 el z0 zl hb2
    have e0 := HBX2.out.cell 0 rfl; have e1 := HBX2.out.cell 1 rfl; have e2 := HBX2.out.cell 2 rfl; have e3 := HBX2.out.cell 3 rfl; have e4 := HBX2.out.cell 4 rfl; have el := HBX2.out.lt
    cases bi with
    | true =>
      have z2 : w2.cell? ⟨z + 1 + 1, 0, none⟩ = some (.func (.func 31) #[.pointer (some ⟨K, 0, none⟩)] #[]) := HI2.out.b2.cell 0 rfl; have zl := HI2.out.b2.lt
      gi_wp2_with fail
      refine ⟨trivial, CallsIn.inRound y (callsIn_wide.2 ((KeepC K D dn dc E m k q (.inl rfl) HI2.out.row HI2.out.bk (by have h1 := HPV2.out.l; have h2 := HLQ.out.2.1; omega) (by have h1 := HPV2.out.dl; have h2 := HLQ.out.2.2; omega) HLQ.out.1 (by have := HGL.out; omega) HPV2.out).mono ?_))⟩
      rintro e w3 he
      obtain ⟨rfl, h1, h2, h3⟩ := sp_keep (Bs := Bs) (i := i) HI2.out HBUB.out HLEN.out HLG.out HQL.out HLQ.out (.inl HBI.out) HAB.out he
      clear e0 e1 e2 e3 e4 el z2 zl he
      gi_wp2_with fail
      exact ⟨(keepsFrom_below _ HB2.out).trans (h1 _), kpA_t (kpA_below HB2.out) h2, h3⟩
    | false =>
      obtain ⟨os, hos⟩ : ∃ o, step g q = o := ⟨_, rfl⟩
      have HOS := Lib.hid hos
      have PC := Lib.hid (HP.out (RS K z) w2 v u g s D dn dc E m k q (.inl rfl) HI2.out.row HI2.out.bk HLQ.out HLG.out (by have := HGL.out; omega) HPV2.out)
      rw [hos] at PC
      have z1 := HI2.out.b1.cell 0 rfl; have zl := HI2.out.b1.lt
      have hpe := HPE.out
      clear hos
      gi_wp2_with fail
      clear hpe
      refine ⟨trivial, CallsIn.inRound y (callsIn_wide.2 (PC.out.mono ?_))⟩
      rintro e w3 ⟨D1, d1, c1, E1, m1, k1, v3, he, hnx, hr3, hk3, hm3⟩
      have HNX := Lib.hid hnx
      have HBX3 := Lib.hid (hm3.blk HBX2.out (blk_two HBX2.out HI2.out.bk (by decide)))
      have HI3 := Lib.hid (HI2.out.to hr3 hk3 (hm3.mono fun b e => .inl e))
      have HKF3 : Hid (∀ B, KeepsFrom B X w3) := Lib.hid (fun B => (keepsFrom_below B HB2.out).trans (hm3.keeps (fun b e => by subst e; exact ⟨_, _, _, HI2.out.bk⟩) B))
      have HKP3 : Hid (KpA Bs A X w3) := Lib.hid (kpA_t (kpA_below HB2.out) (HI2.out.kpA (hm3.mono fun b e => .inl e) HAB.out))
      clear e0 e1 e2 e3 e4 el z1 zl hm3 hr3 hk3 hnx PC
      cases os with
      | none =>
        obtain rfl : e = .returned (.tuple #[.agg #[.int .i64 0, .int .i64 0, .slice D1 d1 c1, .string ⟨#[]⟩, .slice E1 m1 k1], .bool false]) := he
        replace HI3 : Hid (SpI w K z (.slice A' n' c') (.func (.func pf) #[.pointer (some ⟨K, 0, none⟩)] #[]) (.func (.func 31) #[.pointer (some ⟨K, 0, none⟩)] #[]) v3 u g s w3) := HI3
        have e0 := HBX3.out.cell 0 rfl; have e1 := HBX3.out.cell 1 rfl; have e2 := HBX3.out.cell 2 rfl; have e3 := HBX3.out.cell 3 rfl; have e4 := HBX3.out.cell 4 rfl; have el := HBX3.out.lt
        have z2 : w3.cell? ⟨z + 1 + 1, 0, none⟩ = some (.func (.func 31) #[.pointer (some ⟨K, 0, none⟩)] #[]) := HI3.out.b2.cell 0 rfl; have zl : z + 1 + 1 < w3.heap.size := HI3.out.b2.lt
        gi_wp2_with fail
        have hba : Below w3.heap.size w3 (w3.alloc (.cells #[.int .i64 0, .int .i64 0, .slice D1 d1 c1, .string ⟨#[]⟩, .slice E1 m1 k1] 45)) := (Below.refl _ _).alloc (Nat.le_refl _) _
        have HI4 := Lib.hid (HI3.out.below hba); have HBA := Lib.hid hba
        have HPV4 := Lib.hid (nv_base HPV0.out HI.out.row.bw HI4.out.row.bw)
        clear e0 e1 e2 e3 e4 el z2 zl hba
        generalize (w3.alloc (.cells #[.int .i64 0, .int .i64 0, .slice D1 d1 c1, .string ⟨#[]⟩, .slice E1 m1 k1] 45)) = w4 at HBA HI4 HPV4 ⊢
        refine ⟨trivial, CallsIn.inRound y (callsIn_wide.2 ((KeepC K D dn dc E m k q (.inl rfl) HI4.out.row HI4.out.bk (by have h1 := HPV4.out.l; have h2 := HLQ.out.2.1; omega) (by have h1 := HPV4.out.dl; have h2 := HLQ.out.2.2; omega) HLQ.out.1 (by have := HGL.out; omega) HPV4.out).mono ?_))⟩
        rintro e w9 he
        obtain ⟨rfl, h1, h2, h3⟩ := sp_keep (Bs := Bs) (i := i) HI4.out HBUB.out HLEN.out HLG.out HQL.out HLQ.out (.inr HOS.out) HAB.out he
        clear he
        gi_wp2_with fail
        exact ⟨((HKF3.out _).trans (keepsFrom_below _ HBA.out)).trans (h1 _), kpA_t (kpA_t HKP3.out (kpA_below HBA.out)) h2, h3⟩
      | some zx =>
        obtain ⟨x, g'⟩ := zx
        obtain rfl : e = .returned (.tuple #[nmV x.id D1 d1 c1 x.txt E1 m1 k1, .bool true]) := he
        replace HI3 : Hid (SpI w K z (.slice A' n' c') (.func (.func pf) #[.pointer (some ⟨K, 0, none⟩)] #[]) (.func (.func 31) #[.pointer (some ⟨K, 0, none⟩)] #[]) v3 u g' s w3) := HI3
        replace HNX : Hid (NG w3 (PR (RS K z) w3 v3 u) D1 d1 c1 E1 m1 k1 x) := HNX
        have hbb := two_box w3 (.cells #[.int .i64 x.id.1, .int .i64 x.id.2, .slice D1 d1 c1, strV x.txt, .slice E1 m1 k1] 45) (.cells #[.int .i64 x.id.1, .int .i64 x.id.2, .slice D1 d1 c1, strV x.txt, .slice E1 m1 k1] 45)
        have HI5 := Lib.hid (HI3.out.below hbb); have HBB := Lib.hid hbb
        have b5 := Blk.new (w3.alloc (.cells #[.int .i64 x.id.1, .int .i64 x.id.2, .slice D1 d1 c1, strV x.txt, .slice E1 m1 k1] 45)) 45 (Tg.nmC x D1 d1 c1 E1 m1 k1)
        rw [World.size_alloc] at b5
        have HSR := Lib.hid (one_src b5 ((HNX.out.to_ ((alike_below hbb).mono pr_lt)).mono fun b hb => pr_swap b (pr_size hbb.size b hb)))
        have HSS : Hid (∀ b, PR (RS K z) ((w3.alloc (.cells #[.int .i64 x.id.1, .int .i64 x.id.2, .slice D1 d1 c1, strV x.txt, .slice E1 m1 k1] 45)).alloc (.cells #[.int .i64 x.id.1, .int .i64 x.id.2, .slice D1 d1 c1, strV x.txt, .slice E1 m1 k1] 45)) u v3 b → b < ((w3.alloc (.cells #[.int .i64 x.id.1, .int .i64 x.id.2, .slice D1 d1 c1, strV x.txt, .slice E1 m1 k1] 45)).alloc (.cells #[.int .i64 x.id.1, .int .i64 x.id.2, .slice D1 d1 c1, strV x.txt, .slice E1 m1 k1] 45)).heap.size ∧ some b ≠ u.ownBlock) := Lib.hid (fun b hb => ⟨hb.1, hb.2.2.1⟩)
        have HBS := Lib.hid HI5.out.row.bw.size
        have HSN : Hid (s.length + 1 ≤ 100000) := Lib.hid (by have := HSL.out; omega)
        have HOW := Lib.hid HI5.out.row.swap.a
        have z3 : w3.cell? ⟨z + 1 + 1 + 1, 0, none⟩ = some u := HI3.out.bf.cell 0 rfl; have zl : z + 1 + 1 + 1 < w3.heap.size := HI3.out.bf.lt
        have zl1 := Nat.lt_succ_of_lt zl
        clear hbb b5
        gi_wp2_with (gi_at_builtin; refine wpListIn_ownT rfl (.tmp 31) (.tmp 33) rfl (PR (RS K z) ((w3.alloc (.cells #[.int .i64 x.id.1, .int .i64 x.id.2, .slice D1 d1 c1, strV x.txt, .slice E1 m1 k1] 45)).alloc (.cells #[.int .i64 x.id.1, .int .i64 x.id.2, .slice D1 d1 c1, strV x.txt, .slice E1 m1 k1] 45)) u v3) w.heap.size 1 1 u (some ⟨w3.heap.size + 1, 0, none⟩) s [x] rfl rfl HOW.out HSR.out rfl HSN.out HSS.out HBS.out ?_; intro u9 w9 ho hg hw; obtain ⟨A9, c9, hv9, hc9⟩ := Tg.ownT_slice ho; obtain ⟨n9, hn9⟩ : ∃ n, List.length (s ++ [x]) = n := ⟨_, rfl⟩; rw [hn9] at hv9; clear hn9 hc9; subst hv9; have HO9 := Lib.hid ho; have HG9 := Lib.hid hg; have HW9 := Lib.hid hw; have bF := HI5.out.free_box hg; have y3 : w9.cell? ⟨z + 1 + 1 + 1, 0, none⟩ = some u := bF.cell 0 rfl; have yf : w9.frozen? ⟨z + 1 + 1 + 1, 0, none⟩ = false := bF.frozen 0; have yl : z + 1 + 1 + 1 < w9.heap.size := bF.lt; clear ho hg hw bF)
        have hst := HST.out g q x g' HOS.out HLQ.out HLG.out
        refine ⟨((HKF3.out _).trans (keepsFrom_below _ HBB.out)).trans ((HI5.out.mine_free HG9.out).keeps HI5.out.free_cells _), kpA_t (kpA_t HKP3.out (kpA_below HBB.out)) (HI5.out.kpF (HI5.out.mine_free HG9.out) HAB.out (by have := HBL.out; have := HZ.out; omega)), v3, _, g', s ++ [x], HI5.out.free HO9.out HG9.out HW9.out (by have := HKL.out; have := HZ.out; omega), ?_, ?_, hst.2⟩
        · have hb := HBUB.out
          rw [drop_at HQL.out, bub_go HBI.out HOS.out] at hb
          rw [List.length_append, List.length_singleton]
          exact hb
        · have := HLEN.out
          rw [List.length_append, List.length_append, List.length_singleton, List.length_singleton, hst.1]; omega
  case done =>
    rintro E9 W9 hE hI hK
    obtain ⟨v, u, g, s, hI, hbub, _⟩ := hI
    rw [HFN.out, List.drop_of_length_le (by rw [HLLN.out]; exact Nat.le_refl _)] at hbub
    have hbub : (s, g) = (S, G) := hbub
    injection hbub with h1 h2
    subst h1 h2
    have f0 := hI.bf.cell 0 rfl; have fl := hI.bf.lt
    have HI := Lib.hid hI
    clear hI
    gi_wp2
    refine ⟨by simp, .inl ⟨_, _, rfl, run_takeDeferred hK, ?_⟩⟩
    have hpg := grownBy_putObj' W9 E9 (.deferred none)
    have hpr : ∀ r, some E9 = some r → ∃ o : Obj, W9.heap[r]? = some o ∧ o.isCells = false := fun r e => by injection e with e; subst e; exact ⟨_, hK, rfl⟩
    have h9 := HI.out.plain hpg hpr (fun r e => by injection e with e; have := HSZ.out; omega)
    clear hK hpr hpg f0 fl
    generalize (World.putObj W9 E9 (.deferred none)) = Wf at *
    refine ⟨u, by simp [results, Try.results28, go_sem], v, u, rfl, h9.row.less (fun b e => .inl e), h9.bk⟩
  case stop =>
    rintro E9 c' pre post W9 hE hpp hf
    exact hf.elim

end Bb
end Go.Proofs.Ytdnkinajbebkoaa
