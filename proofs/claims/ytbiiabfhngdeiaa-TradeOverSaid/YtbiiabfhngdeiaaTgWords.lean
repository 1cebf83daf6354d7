/-
  Words for package trade's Over: what stands between two rounds. No function of the program is walked here.
-/
import Derived.Test.YtbiiabfhngdeiaaTgPass
import Derived.Test.YtbiiabfhngdeiaaTgBack
import Derived.Test.YtbiiabfhngdeiaaFlThru
set_option maxRecDepth 100000
namespace Go.Proofs.Ytbiiabfhngdeiaa
open Go.RowKit Go.Shelf
set_option linter.unusedVariables false
set_option linter.unusedSimpArgs false
namespace Tg
open Tx Df Sq Hk Tr Pr Rg Fl Pn

abbrev noC : Array Value := #[.int .i64 0, .int .i64 0, .slice none 0 0, .string ⟨#[]⟩, .slice none 0 0]
/-- What there was ahead of Over, and the blocks that it keeps for itself: boxes, the first one's box, the row, the row's box. -/
def OvR (z F g : Nat) : Nat → Prop := fun b => b < z + 4 ∨ b = F ∨ b = g ∨ b = g + 1
theorem overN_len {l m : List Nm} {q x : Nm} (h : overN l q = some (x, m)) : m.length = l.length := one_len passN h
theorem passN_lt {p q x y : Nm} (h : passN p q = some (x, y)) (hp : Lt p.l) (hq : Lt q.l) : Lt x.l ∧ Lt y.l := passF_lt (passN_inv h).2.1 hp hq
/-- What is told lies at places that patches may have. -/
structure OvI (w : World) (z F g n : Nat) (A : Option Addr) (l : List Nm) (q : Nm) (dn m j : Nat) (x : Nm) (post : List Nm) (D : Option Addr) (dc : Nat) (E : Option Addr) (k : Nat) (W : World) : Prop where
  pos : w.heap.size = z ∧ z + 4 ≤ F ∧ F < g
  eq : overN (l.drop j) q = some (x, post)
  lx : Lt x.l
  row : OwnT W (But W (OvR z F g)) w.heap.size (.slice (some ⟨g, 0, none⟩) n n) (List.replicate j noN ++ post)
  ng : NG W (But W (OvR z F g)) D dn dc E m k x
  bf : Blk W F 28 (nmC x D dn dc E m k)
  r0 : Blk W (z + 1) 28 noC
  r1 : Blk W (z + 1 + 1) 22 #[.slice none 0 0]
  r2 : Blk W (z + 1 + 1 + 1) 4 #[.bool false]
  bb : Blk W (g + 1) 22 #[.slice (some ⟨g, 0, none⟩) n n]
  ls : RdN W z A l
  fr : Below w.heap.size w W
def OvJ (w : World) (z F g n : Nat) (A : Option Addr) (l : List Nm) (q : Nm) (dn m : Nat) (pre : List Nat) (W : World) : Prop := ∃ x post D dc E k, OvI w z F g n A l q dn m (n - pre.length) x post D dc E k W
def OvX (w : World) (z : Nat) (l : List Nm) (q : Nm) (c : Code) (_ : List Nat) (W : World) : Prop :=
  c = .ret ∧ overN l q = none ∧ Blk W (z + 1) 28 noC ∧ Blk W (z + 1 + 1) 22 #[.slice none 0 0] ∧ Blk W (z + 1 + 1 + 1) 4 #[.bool false] ∧ Below w.heap.size w W

section
variable {W W' : World} {B : Nat} {A D E : Option Addr} {dn dc n c : Nat} {p : Nm} {l : List Nm}
theorem NV.kc_ (h : NV W B D dn dc A n c p) (hk : KeepC (fun _ => True) W W') : NV W' B D dn dc A n c p := ((ng_of h).kc fun b c t f _ hb => hk b c t f trivial hb).nv
theorem RdN.kc_ (h : RdN W B A l) (hk : KeepC (fun _ => True) W W') : RdN W' B A l := h.imp id fun ⟨a, e, h1, h2⟩ => ⟨a, e, h1, fun k x hx => by
  obtain ⟨c0, c1, c3, D, dn, dc, A, n, c, c2, c4, c5⟩ := h2 k x hx
  exact ⟨hk.cell trivial c0, hk.cell trivial c1, hk.cell trivial c3, D, dn, dc, A, n, c, hk.cell trivial c2, hk.cell trivial c4, NV.kc_ c5 hk⟩⟩
end
section
variable {w : World} {z F g n B : Nat} {A : Option Addr} {l : List Nm} {q : Nm} {dn m : Nat}
theorem ovJ_ab (hB : w.heap.size ≤ B) : Ab Plain B (OvJ w z F g n A l q dn m) := fun s W W' row hs hg hr => by
  obtain ⟨x, post, D, dc, E, k, h⟩ := hs
  have bl : ∀ {b : Nat} {t : TypeId} {cs : Array Value}, Blk W b t cs → Blk W' b t cs := fun h => ab_blk (β := Unit) (B := B) (fun _ => _) () W W' row h hg hr
  have kc : ∀ S, KeepC S W W' := fun S => keepC_plain hg (fun r e => (hr r e).2)
  exact ⟨x, post, D, dc, E, k, h.pos, h.eq, h.lx, (h.row.plain hg (fun r e => (hr r e).2)).mono (but_up hg.size), (h.ng.kc (kc _)).mono (but_up hg.size), bl h.bf, bl h.r0, bl h.r1, bl h.r2, bl h.bb, RdN.kc_ h.ls (kc _), h.fr.grown hg h.fr.size (fun r e => Nat.le_trans hB (hr r e).1)⟩
theorem ovX_ab (hB : w.heap.size ≤ B) (c : Code) : Ab Plain B (OvX w z l q c) := fun s W W' row hs hg hr => by
  obtain ⟨h1, h2, h3, h4, h5, h6⟩ := hs
  have bl : ∀ {b : Nat} {t : TypeId} {cs : Array Value}, Blk W b t cs → Blk W' b t cs := fun h => ab_blk (β := Unit) (B := B) (fun _ => _) () W W' row h hg hr
  exact ⟨h1, h2, bl h3, bl h4, bl h5, h6.grown hg h6.size (fun r e => Nat.le_trans hB (hr r e).1)⟩
end
/-- The values that are handed over, with the cells they come from. -/
theorem ab_EN {β : Type} {n : Nat} {A : Option Addr} {i : Nat} {vals : Array Value} {B : Nat} : Ab (β := β) Plain B (fun _ W => EN n A i vals W) := fun s W W' row hs hg hr => by
  have hk : KeepC (fun _ => True) W W' := keepC_plain hg (fun r e => (hr r e).2)
  obtain ⟨hi, a, v0, v1, v2, v3, v4, h1, h2, c0, c1, c2, c3, c4⟩ := hs
  exact ⟨hi, a, v0, v1, v2, v3, v4, h1, h2, hk.cell trivial c0, hk.cell trivial c1, hk.cell trivial c2, hk.cell trivial c3, hk.cell trivial c4⟩
theorem EN.rd {X : World} {B n i : Nat} {A : Option Addr} {l : List Nm} {vals : Array Value} (h : EN n A i vals X) (hr : RdN X B A l) (hl : l.length = n) :
    ∃ p D dn dc E m k, l[i]? = some p ∧ vals = #[.int .i64 (i : Int), .agg (nmC p D dn dc E m k)] ∧ NV X B D dn dc E m k p := by
  obtain ⟨hi, a, v0, v1, v2, v3, v4, rfl, rfl, c0, c1, c2, c3, c4⟩ := h
  obtain ⟨a', p, D, dn, dc, E, m, k, e, _, hp, g0, g1, g2, g3, g4, hv⟩ := hr.elem (k := i) (by omega)
  injection e with e
  subst e
  have e0 := Option.some.inj (c0.symm.trans g0)
  have e1 := Option.some.inj (c1.symm.trans g1)
  have e2 := Option.some.inj (c2.symm.trans g2)
  have e3 := Option.some.inj (c3.symm.trans g3)
  have e4 := Option.some.inj (c4.symm.trans g4)
  subst e0 e1 e2 e3 e4
  exact ⟨p, D, dn, dc, E, m, k, hp, rfl, hv⟩
theorem valsN_eq {i : Int} {v0 v1 v2 v3 v4 : Value} {p : Nm} {D E : Option Addr} {dn dc m k : Nat} (h : #[Value.int .i64 i, .agg #[v0, v1, v2, v3, v4]] = #[.int .i64 i, .agg (nmC p D dn dc E m k)]) :
    v0 = .int .i64 p.id.1 ∧ v1 = .int .i64 p.id.2 ∧ v2 = .slice D dn dc ∧ v3 = strV p.txt ∧ v4 = .slice E m k := by
  simpa using h

theorem rep_set {i : Nat} {post : List Nm} {y : Nm} : (List.replicate (i + 1) noN ++ post).set i y = List.replicate i noN ++ y :: post := by
  rw [List.replicate_succ', List.append_assoc, List.set_append_right _ _ (by simp), List.length_replicate, Nat.sub_self]
  rfl
theorem rep_len {i n : Nat} {l post : List Nm} {q x : Nm} (h : overN (l.drop i) q = some (x, post)) (hl : l.length = n) (hi : i ≤ n) : (List.replicate i noN ++ post).length = n := by
  rw [List.length_append, List.length_replicate, overN_len h, List.length_drop]; omega

section
variable {w W W' X : World} {r : Option Nat} {B b g k : Nat} {v0 v1 v2 v3 v4 : Value}
theorem keeps_set5 (W : World) (B b : Nat) (v0 v1 v2 v3 v4 : Value) : KeepsFrom B W (((((W.setCell ⟨b, 0, none⟩ v0).setCell ⟨b, 1, none⟩ v1).setCell ⟨b, 2, none⟩ v2).setCell ⟨b, 3, none⟩ v3).setCell ⟨b, 4, none⟩ v4) :=
  (((((KeepsOthers.setCell _ _ _).from B).trans ((KeepsOthers.setCell _ _ _).from B)).trans ((KeepsOthers.setCell _ _ _).from B)).trans ((KeepsOthers.setCell _ _ _).from B)).trans ((KeepsOthers.setCell _ _ _).from B)
theorem keeps_row5 (W : World) (B b k : Nat) (v0 v1 v2 v3 v4 : Value) : KeepsFrom B W (((((W.setCell ⟨b, k * 5, none⟩ v0).setCell ⟨b, k * 5 + 1, none⟩ v1).setCell ⟨b, k * 5 + 2, none⟩ v2).setCell ⟨b, k * 5 + 3, none⟩ v3).setCell ⟨b, k * 5 + 4, none⟩ v4) :=
  (((((KeepsOthers.setCell _ _ _).from B).trans ((KeepsOthers.setCell _ _ _).from B)).trans ((KeepsOthers.setCell _ _ _).from B)).trans ((KeepsOthers.setCell _ _ _).from B)).trans ((KeepsOthers.setCell _ _ _).from B)
end
theorem RdN.alk {W W' : World} {B : Nat} {A : Option Addr} {l : List Nm} (h : RdN W B A l) (ha : Fl.Alike (· < B) W W') : RdN W' B A l := h.imp id fun ⟨a, e, h1, h2⟩ => ⟨a, e, h1, fun k x hx => by
  obtain ⟨c0, c1, c3, D, dn, dc, A, n, c, c2, c4, c5⟩ := h2 k x hx
  have hk : (a.add (k * 5)).block < B := by rw [add_block]; exact h1
  exact ⟨Fl.cell_to ha hk c0, Fl.cell_to ha hk c1, Fl.cell_to ha hk c3, D, dn, dc, A, n, c, Fl.cell_to ha hk c2, Fl.cell_to ha hk c4, ((ng_of c5).to_ ha).nv⟩⟩

theorem OvI.mv {w W W' : World} {z F g n : Nat} {A : Option Addr} {l : List Nm} {q : Nm} {dn m j : Nat} {x : Nm} {post : List Nm} {D : Option Addr} {dc : Nat} {E : Option Addr} {k : Nat} (h : OvI w z F g n A l q dn m j x post D dc E k W) (hb : Below W.heap.size W W') : OvI w z F g n A l q dn m j x post D dc E k W' :=
  ⟨h.pos, h.eq, h.lx, (h.row.below hb).mono (but_up hb.size), (h.ng.to_ (fun b _ hl => hb.block b hl)).mono (but_up hb.size), h.bf.below hb h.bf.lt, h.r0.below hb h.r0.lt, h.r1.below hb h.r1.lt, h.r2.below hb h.r2.lt, h.bb.below hb h.bb.lt, h.ls.below (hb.mono (by have := h.pos; have := h.r0.lt; omega)), below_mv h.fr hb⟩

/-- A round that tells that the patch can't pass. -/
theorem over_no {w X w2 : World} {z F g n i : Nat} {A : Option Addr} {l : List Nm} {q x p : Nm} {dn m : Nat} {post : List Nm} {D : Option Addr} {dc : Nat} {E : Option Addr} {k B : Nat} {pre : List Nat} (hI : OvI w z F g n A l q dn m (i + 1) x post D dc E k X) (hb2 : Below X.heap.size X w2) (hx : l[i]? = some p) (hn : passN p x = none) (o o' : Obj) :
    KeepsFrom B X (((((World.setCell (World.setCell (World.setCell (World.setCell (World.setCell w2 ⟨z + 1, 0, none⟩ (.int .i64 0)) ⟨z + 1, 1, none⟩ (.int .i64 0)) ⟨z + 1, 2, none⟩ (.slice none 0 0)) ⟨z + 1, 3, none⟩ (.string ⟨#[]⟩)) ⟨z + 1, 4, none⟩ (.slice none 0 0)).setCell ⟨z + 1 + 1, 0, none⟩ (.slice none 0 0)).setCell ⟨z + 1 + 1 + 1, 0, none⟩ (.bool false)).alloc o).alloc o') ∧
    OvX w z l q .ret pre (((((World.setCell (World.setCell (World.setCell (World.setCell (World.setCell w2 ⟨z + 1, 0, none⟩ (.int .i64 0)) ⟨z + 1, 1, none⟩ (.int .i64 0)) ⟨z + 1, 2, none⟩ (.slice none 0 0)) ⟨z + 1, 3, none⟩ (.string ⟨#[]⟩)) ⟨z + 1, 4, none⟩ (.slice none 0 0)).setCell ⟨z + 1 + 1, 0, none⟩ (.slice none 0 0)).setCell ⟨z + 1 + 1 + 1, 0, none⟩ (.bool false)).alloc o).alloc o') := by
  have h0 := hI.r0.below hb2 hI.r0.lt
  have h1 := hI.r1.below hb2 hI.r1.lt
  have h2 := hI.r2.below hb2 hI.r2.lt
  have hz := hI.pos.1
  refine ⟨((((((keepsFrom_below B hb2).trans (keeps_set5 w2 B (z + 1) _ _ _ _ _)).trans ((KeepsOthers.setCell _ _ _).from B)).trans ((KeepsOthers.setCell _ _ _).from B)).trans ((KeepsOthers.alloc _ o).from B)).trans ((KeepsOthers.alloc _ o').from B)), rfl, one_step_none passN hx hI.eq hn, ?_, ?_, ?_, ?_⟩
  · exact ((((blk5 h0 (.int .i64 0) (.int .i64 0) (.slice none 0 0) (.string ⟨#[]⟩) (.slice none 0 0)).set_ne (by omega) 0 (.slice none 0 0)).set_ne (by omega) 0 (.bool false)).alloc o).alloc o'
  · exact ((((blk_set5 h1 (g := z + 1) (by omega) (.int .i64 0) (.int .i64 0) (.slice none 0 0) (.string ⟨#[]⟩) (.slice none 0 0)).set 0 (.slice none 0 0)).set_ne (by omega) 0 (.bool false)).alloc o).alloc o'
  · exact ((((blk_set5 h2 (g := z + 1) (by omega) (.int .i64 0) (.int .i64 0) (.slice none 0 0) (.string ⟨#[]⟩) (.slice none 0 0)).set_ne (by omega) 0 (.slice none 0 0)).set 0 (.bool false)).alloc o).alloc o'
  · have h5 := below_set5 (below_mv hI.fr hb2) (show w.heap.size ≤ z + 1 by omega) (.int .i64 0) (.int .i64 0) (.slice none 0 0) (.string ⟨#[]⟩) (.slice none 0 0)
    have h6 := (h5.setCell (p := ⟨z + 1 + 1, 0, none⟩) (show w.heap.size ≤ z + 1 + 1 by omega) (.slice none 0 0)).setCell (p := ⟨z + 1 + 1 + 1, 0, none⟩) (show w.heap.size ≤ z + 1 + 1 + 1 by omega) (.bool false)
    have h7 := h6.alloc h6.size o
    exact h7.alloc h7.size o'

/-- A round in which both pass: first the patch is stored, then the one of the list. -/
theorem over_mid {w X w2 w4 : World} {z F g n i : Nat} {A : Option Addr} {l : List Nm} {q x x1 y1 : Nm} {dn m : Nat} {post : List Nm} {D : Option Addr} {dc : Nat} {E : Option Addr} {k : Nat} {D1 E1 D2 E2 : Option Addr} {c1 k1 d2 c2 m2 k2 : Nat}
    (hI : OvI w z F g n A l q dn m (i + 1) x post D dc E k X) (hb2 : Below X.heap.size X w2) (hb4 : Below w2.heap.size w2 w4) (n1 : NG w2 (Since X w2) D1 dn c1 E1 m k1 x1) (n2 : NG w2 (Since X w2) D2 d2 c2 E2 m2 k2 y1) :
    let w6 := ((((w4.setCell ⟨F, 0, none⟩ (.int .i64 x1.id.1)).setCell ⟨F, 1, none⟩ (.int .i64 x1.id.2)).setCell ⟨F, 2, none⟩ (.slice D1 dn c1)).setCell ⟨F, 3, none⟩ (strV x1.txt)).setCell ⟨F, 4, none⟩ (.slice E1 m k1)
    OwnT w6 (But w6 (OvR z F g)) w.heap.size (.slice (some ⟨g, 0, none⟩) n n) (List.replicate (i + 1) noN ++ post) ∧ NG w6 (But w6 (OvR z F g)) D1 dn c1 E1 m k1 x1 ∧ NG w6 (But w6 (OvR z F g)) D2 d2 c2 E2 m2 k2 y1 ∧
    Blk w6 F 28 (nmC x1 D1 dn c1 E1 m k1) ∧ Blk w6 (z + 1) 28 noC ∧ Blk w6 (z + 1 + 1) 22 #[.slice none 0 0] ∧ Blk w6 (z + 1 + 1 + 1) 4 #[.bool false] ∧ Blk w6 (g + 1) 22 #[.slice (some ⟨g, 0, none⟩) n n] ∧ RdN w6 z A l ∧ Below w.heap.size w w6 ∧
    (∀ B, KeepsFrom B X w6) ∧ (∀ Bs v, Bs ≠ F → Boxed X Bs 22 v → Boxed w6 Bs 22 v) := by
  intro w6
  obtain ⟨hz, hF, hFg⟩ := hI.pos
  have hX : g + 1 < X.heap.size := hI.bb.lt
  have hb : Below X.heap.size X w4 := hb2.trans (hb4.mono hb2.size)
  have hs4 : w4.heap.size = w6.heap.size := by simp [w6]
  have h2 : w2.heap.size ≤ w4.heap.size := hb4.size
  have hS : ∀ b, Since X w2 b → But w4 (OvR z F g) b := fun b h => ⟨by have := h.2; omega, fun e => by have := h.1; rcases e with e | e | e | e <;> omega⟩
  have hne : ∀ b, But w4 (OvR z F g) b → b ≠ F := fun b h e => h.2 (.inr (.inl e))
  have al := (alike_set5 w4 F (.int .i64 x1.id.1) (.int .i64 x1.id.2) (.slice D1 dn c1) (strV x1.txt) (.slice E1 m k1))
  have up := but_up (R := OvR z F g) (Nat.le_of_eq hs4)
  have l0 := hI.r0.lt; have l1 := hI.r1.lt; have l2 := hI.r2.lt; have l3 := hI.bf.lt
  refine ⟨?_, ?_, ?_, ?_, ?_, ?_, ?_, ?_, ?_, ?_, ?_, ?_⟩
  · exact (((hI.row.below hb).mono (but_up hb.size)).set5 (b := F) (fun e => by injection e with e; have e : F = g := e; omega) (fun h => hne _ h rfl) _ _ _ _ _).mono up
  · exact (((n1.to_ (fun b h hl => hb4.block b hl)).mono hS).to_ (al.mono hne)).mono up
  · exact (((n2.to_ (fun b h hl => hb4.block b hl)).mono hS).to_ (al.mono hne)).mono up
  · exact blk5 (hI.bf.below hb l3) _ _ _ _ _
  · exact blk_set5 (hI.r0.below hb l0) (by omega) _ _ _ _ _
  · exact blk_set5 (hI.r1.below hb l1) (by omega) _ _ _ _ _
  · exact blk_set5 (hI.r2.below hb l2) (by omega) _ _ _ _ _
  · exact blk_set5 (hI.bb.below hb hX) (by omega) _ _ _ _ _
  · exact RdN.alk (hI.ls.below (hb.mono (by omega))) (al.mono fun b hb => by omega)
  · exact below_set5 (below_mv hI.fr hb) (by omega) _ _ _ _ _
  · exact fun B => (keepsFrom_below B hb).trans (keeps_set5 _ _ _ _ _ _ _ _)
  · exact fun Bs v hB hv => blk_set5 (Blk.below (show Blk X Bs 22 #[v] from hv) hb hv.lt) (by omega) _ _ _ _ _

theorem over_fin {w w6 : World} {z F g n i : Nat} {A : Option Addr} {l : List Nm} {q x p x1 y1 : Nm} {dn m : Nat} {post : List Nm} {D1 E1 D2 E2 : Option Addr} {c1 k1 d2 c2 m2 k2 : Nat}
    (hp : w.heap.size = z ∧ z + 4 ≤ F ∧ F < g) (he : overN (l.drop (i + 1)) q = some (x, post)) (hlx : Lt x.l) (hx : l[i]? = some p) (hlp : Lt p.l) (hn : l.length = n) (hs : passN p x = some (x1, y1))
    (h1 : OwnT w6 (But w6 (OvR z F g)) w.heap.size (.slice (some ⟨g, 0, none⟩) n n) (List.replicate (i + 1) noN ++ post)) (h2 : NG w6 (But w6 (OvR z F g)) D1 dn c1 E1 m k1 x1) (h3 : NG w6 (But w6 (OvR z F g)) D2 d2 c2 E2 m2 k2 y1)
    (h4 : Blk w6 F 28 (nmC x1 D1 dn c1 E1 m k1)) (h5 : Blk w6 (z + 1) 28 noC) (h6 : Blk w6 (z + 1 + 1) 22 #[.slice none 0 0]) (h7 : Blk w6 (z + 1 + 1 + 1) 4 #[.bool false]) (h8 : Blk w6 (g + 1) 22 #[.slice (some ⟨g, 0, none⟩) n n]) (h9 : RdN w6 z A l) (h10 : Below w.heap.size w w6) :
    let w9 := ((((w6.setCell ⟨g, i * 5, none⟩ (.int .i64 y1.id.1)).setCell ⟨g, i * 5 + 1, none⟩ (.int .i64 y1.id.2)).setCell ⟨g, i * 5 + 2, none⟩ (.slice D2 d2 c2)).setCell ⟨g, i * 5 + 3, none⟩ (strV y1.txt)).setCell ⟨g, i * 5 + 4, none⟩ (.slice E2 m2 k2)
    OvI w z F g n A l q dn m i x1 (y1 :: post) D1 c1 E1 k1 w9 ∧ (∀ B, KeepsFrom B w6 w9) ∧ (∀ Bs v, Bs ≠ g → Boxed w6 Bs 22 v → Boxed w9 Bs 22 v) := by
  intro w9
  obtain ⟨hz, hF, hFg⟩ := hp
  have hi : i < l.length := (List.getElem?_eq_some_iff.1 hx).1
  have hs9 : w6.heap.size = w9.heap.size := by simp [w9]
  have hne : ∀ b, But w6 (OvR z F g) b → b ≠ g := fun b h e => h.2 (.inr (.inr (.inl e)))
  have up := but_up (R := OvR z F g) (Nat.le_of_eq hs9)
  have al := alike_row5 w6 g i (.int .i64 y1.id.1) (.int .i64 y1.id.2) (.slice D2 d2 c2) (strV y1.txt) (.slice E2 m2 k2)
  have hrow : OwnT w9 (But w9 (OvR z F g)) w.heap.size (.slice (some ⟨g, 0, none⟩) n n) (List.replicate i noN ++ y1 :: post) := by
    have := (h1.store (k := i) (rep_len he hn (by omega)) (fun h => hne _ h rfl) h3).mono up
    rw [rep_set] at this
    exact this
  refine ⟨⟨⟨hz, hF, hFg⟩, one_step passN hx he hs, (passN_lt hs hlp hlx).1, hrow, ?_, ?_, ?_, ?_, ?_, ?_, ?_, ?_⟩, fun B => keeps_row5 _ _ _ _ _ _ _ _ _, fun Bs v hB hv => ?_⟩
  · exact (h2.to_ (al.mono hne)).mono up
  · exact blk_row5 h4 (by omega) i _ _ _ _ _
  · exact blk_row5 h5 (by omega) i _ _ _ _ _
  · exact blk_row5 h6 (by omega) i _ _ _ _ _
  · exact blk_row5 h7 (by omega) i _ _ _ _ _
  · exact blk_row5 h8 (by omega) i _ _ _ _ _
  · exact RdN.alk h9 (al.mono fun b hb => by omega)
  · exact below_row5 h10 (by omega) i _ _ _ _ _
  · exact blk_row5 (show Blk w6 Bs 22 #[v] from hv) hB i _ _ _ _ _

/-- The row that is made: patches that have nothing. -/
theorem made_at {c : Array Value} {n i : Nat} (hi : i < n) : (madeCells c n)[i]? = some c[i % c.size]! := by
  unfold madeCells
  rw [Array.getElem?_map, Array.getElem?_range, if_pos hi]
  rfl
theorem ownT_made (W : World) (n : Nat) (S : Nat → Prop) (hn : n ≤ 1000) : OwnT (W.alloc (.cells (madeCells noC (n * 5)) 28)) S W.heap.size (.slice (some ⟨W.heap.size, 0, none⟩) n n) (List.replicate n noN) := by
  have hrow := World.ownsRow_lit (base := W.heap.size) (e := 28) (size := 5) W (madeCells noC (n * 5)) n (Nat.le_refl _) (by unfold maxLen; omega) (by rw [size_madeCells])
  refine ⟨_, by rw [List.length_replicate]; exact hrow, fun k x hx => ?_⟩
  have hk := (List.getElem?_eq_some_iff.1 hx).1
  rw [List.length_replicate] at hk
  rw [List.getElem?_replicate, if_pos hk] at hx
  injection hx with hx
  subst hx
  have key : ∀ j, j < 5 → (madeCells noC (n * 5)).toList[k * 5 + j]? = some noC[j]! := fun j hj => by
    rw [Array.getElem?_toList, made_at (by omega)]
    have e : (k * 5 + j) % noC.size = j := by
      show (k * 5 + j) % 5 = j
      omega
    rw [e]
  exact ⟨none, 0, 0, none, 0, 0, key 0 (by decide), key 1 (by decide), key 2 (by decide), key 3 (by decide), key 4 (by decide), ng_no _ _⟩

/-- The memory in which the range begins. -/
theorem over_start {w w1 wc : World} {z F n dn m c k : Nat} {A D E : Option Addr} {l : List Nm} {q : Nm} (hz : w.heap.size = z) (hw1 : w1.heap.size = z + 4) (hbw : Below w.heap.size w w1)
    (r0 : Blk w1 (z + 1) 28 noC) (r1 : Blk w1 (z + 1 + 1) 22 #[.slice none 0 0]) (r2 : Blk w1 (z + 1 + 1 + 1) 4 #[.bool false])
    (hbf : Blk wc F 28 (nmC q D dn c E m k)) (hng : NG wc (fun b => w1.heap.size ≤ b ∧ b < wc.heap.size ∧ b ≠ F) D dn c E m k q) (hF : w1.heap.size ≤ F) (hb : Below w1.heap.size w1 wc) (hls : RdN w w.heap.size A l) (hl : l.length = n) (hn : n ≤ 1000) (hlq : Lt q.l) (c' : Nat) :
    let w5 := ((wc.alloc (.cells (madeCells noC (n * 5)) 28)).alloc (.cells #[.slice (some ⟨wc.heap.size, 0, none⟩) n n] 22)).alloc (.cells #[.slice A n c'] 22)
    OvJ w z F wc.heap.size n A l q dn m [] w5 ∧ Boxed w5 (wc.heap.size + 1 + 1) 22 (.slice A n c') ∧ w5.heap.size = wc.heap.size + 3 ∧ Cells5 w5 A n := by
  intro w5
  have hwc : w1.heap.size ≤ wc.heap.size := hb.size
  have h5 : Below wc.heap.size wc w5 := (((Below.refl _ _).alloc (Nat.le_refl _) _).alloc (by simp) _).alloc (by simp; omega) _
  have hsz : w5.heap.size = wc.heap.size + 3 := by simp [w5]
  have hall : Below w1.heap.size w1 w5 := below_mv hb h5
  have hbb := (Blk.new (wc.alloc (.cells (madeCells noC (n * 5)) 28)) 22 #[.slice (some ⟨wc.heap.size, 0, none⟩) n n]).alloc (.cells #[.slice A n c'] 22)
  have hbx := Boxed.new ((wc.alloc (.cells (madeCells noC (n * 5)) 28)).alloc (.cells #[.slice (some ⟨wc.heap.size, 0, none⟩) n n] 22)) 22 (.slice A n c')
  simp only [World.size_alloc] at hbb hbx
  have hFl := hbf.lt
  have hmd := ownT_made wc n (But w5 (OvR z F wc.heap.size)) hn
  have hm2 : Below (wc.alloc (.cells (madeCells noC (n * 5)) 28)).heap.size (wc.alloc (.cells (madeCells noC (n * 5)) 28)) w5 := ((Below.refl _ _).alloc (Nat.le_refl _) _).alloc (by simp) _
  have hls5 : RdN w5 z A l := by
    rw [← hz]
    exact hls.below (below_mv hbw hall)
  refine ⟨⟨q, [], D, c, E, k, ⟨hz, by omega, hFl⟩, ?_, hlq, ?_, ?_, hbf.below h5 hFl, r0.below hall r0.lt, r1.below hall r1.lt, r2.below hall r2.lt, hbb, hls5, below_mv hbw hall⟩, hbx, hsz, cells5_rd hls5 hl⟩
  · rw [List.length_nil, Nat.sub_zero, List.drop_of_length_le (by rw [hl]; exact Nat.le_refl _)]; rfl
  · rw [List.length_nil, Nat.sub_zero, List.append_nil]
    obtain ⟨xs, x1, x2⟩ := hmd.below hm2
    exact ⟨xs, own_mono x1 (Nat.le_trans hbw.size hwc), x2⟩
  · refine (hng.to_ ((alike_below h5).mono fun b hb => hb.2.1)).mono fun b hb => ⟨by have := hb.2.1; omega, fun e => ?_⟩
    have h1 := hb.1; have h2 := hb.2.1; have h3 := hb.2.2
    rcases e with e | e | e | e <;> omega

/-- How Over ends that tells x, ys and bo: in memory that is new, the list in a row of one's own. -/
def NOverEnd (w : World) (x : Nm) (ys : List Nm) (bo : Bool) (e : Ending) (w' : World) : Prop :=
  ∃ D d c E m k v, e = .returned (.tuple #[nmV x.id D d c x.txt E m k, v, .bool bo]) ∧ NG w' (fun b => Since w w' b ∧ some b ≠ v.ownBlock) D d c E m k x ∧ OwnT w' (fun b => Since w w' b ∧ some b ≠ v.ownBlock) w.heap.size v ys ∧ Below w.heap.size w w'
def outO (o : Option (Nm × List Nm)) : Nm × List Nm := o.getD (noN, [])

theorem over_put {w W : World} {E : Nat} (hE : w.heap.size ≤ E) (hK : W.heap[E]? = some (.deferred (some []))) (hb : Below w.heap.size w W) : Below w.heap.size w (W.putObj E (.deferred none)) ∧ (∀ b t cs, Blk W b t cs → Blk (W.putObj E (.deferred none)) b t cs) ∧
    (∀ S base v l, OwnT W S base v l → OwnT (W.putObj E (.deferred none)) S base v l) ∧ (∀ S D dn dc A n c x, NG W S D dn dc A n c x → NG (W.putObj E (.deferred none)) S D dn dc A n c x) ∧ W.heap.size = (W.putObj E (.deferred none)).heap.size := by
  have hp := grownBy_putObj' W E (.deferred none)
  have hr : ∀ r, some E = some r → ∃ o : Obj, W.heap[r]? = some o ∧ o.isCells = false := fun r e => by injection e with e; subst e; exact ⟨_, hK, rfl⟩
  refine ⟨hb.grown hp hb.size (fun r e => by injection e with e; omega), fun b t cs h => h.gr hp (fun e => ?_), fun S base v l h => h.plain hp hr, fun S D dn dc A n c x h => h.kc (keepC_plain hp hr), by simp⟩
  injection e with e
  subst e
  rw [show W.heap[b]? = _ from h] at hK
  cases hK

theorem over_done {w W : World} {z F g n E : Nat} {A : Option Addr} {l : List Nm} {q x : Nm} {dn m : Nat} {post : List Nm} {D : Option Addr} {dc : Nat} {Ad : Option Addr} {k : Nat}
    (hI : OvI w z F g n A l q dn m 0 x post D dc Ad k W) (hE : w.heap.size ≤ E) (hK : W.heap[E]? = some (.deferred (some []))) :
    let W9 := ((World.setCell (World.setCell (World.setCell (World.setCell (World.setCell W ⟨z + 1, 0, none⟩ (.int .i64 x.id.1)) ⟨z + 1, 1, none⟩ (.int .i64 x.id.2)) ⟨z + 1, 2, none⟩ (.slice D dn dc)) ⟨z + 1, 3, none⟩ (strV x.txt)) ⟨z + 1, 4, none⟩ (.slice Ad m k)).setCell ⟨z + 1 + 1, 0, none⟩ (.slice (some ⟨g, 0, none⟩) n n)).setCell ⟨z + 1 + 1 + 1, 0, none⟩ (.bool true)
    W9.heap[E]? = some (.deferred (some [])) ∧ Blk (W9.putObj E (.deferred none)) (z + 1) 28 (nmC x D dn dc Ad m k) ∧ Blk (W9.putObj E (.deferred none)) (z + 1 + 1) 22 #[.slice (some ⟨g, 0, none⟩) n n] ∧ Blk (W9.putObj E (.deferred none)) (z + 1 + 1 + 1) 4 #[.bool true] ∧
      NG (W9.putObj E (.deferred none)) (fun b => Since w (W9.putObj E (.deferred none)) b ∧ some b ≠ (Value.slice (some ⟨g, 0, none⟩) n n).ownBlock) D dn dc Ad m k x ∧ OwnT (W9.putObj E (.deferred none)) (fun b => Since w (W9.putObj E (.deferred none)) b ∧ some b ≠ (Value.slice (some ⟨g, 0, none⟩) n n).ownBlock) w.heap.size (.slice (some ⟨g, 0, none⟩) n n) post ∧ Below w.heap.size w (W9.putObj E (.deferred none)) := by
  intro W9
  obtain ⟨hz, hF, hFg⟩ := hI.pos
  have hsz : W.heap.size = W9.heap.size := by simp [W9]
  have hne : ∀ b, But W (OvR z F g) b → ¬ b < z + 4 := fun b h e => h.2 (.inl e)
  have k9 : W9.heap[E]? = some (.deferred (some [])) := (((keeps_set5 W E (z + 1) _ _ _ _ _).trans ((KeepsOthers.setCell _ _ _).from E)).trans ((KeepsOthers.setCell _ _ _).from E)).same E _ (Nat.le_refl _) hK rfl
  have h5 := below_set5 hI.fr (show w.heap.size ≤ z + 1 by omega) (.int .i64 x.id.1) (.int .i64 x.id.2) (.slice D dn dc) (strV x.txt) (.slice Ad m k)
  have g9 : Below w.heap.size w W9 := (h5.setCell (p := ⟨z + 1 + 1, 0, none⟩) (show w.heap.size ≤ z + 1 + 1 by omega) _).setCell (p := ⟨z + 1 + 1 + 1, 0, none⟩) (show w.heap.size ≤ z + 1 + 1 + 1 by omega) _
  obtain ⟨p1, p2, p3, p4, p5⟩ := over_put hE k9 g9
  have hrow := hI.row
  rw [List.replicate_zero, List.nil_append] at hrow
  have up : ∀ b, But W (OvR z F g) b → Since w (W9.putObj E (.deferred none)) b ∧ some b ≠ (Value.slice (some ⟨g, 0, none⟩) n n).ownBlock := fun b h => ⟨⟨by have := hne b h; omega, by have := h.1; omega⟩, fun e => h.2 (.inr (.inr (.inl (by injection e))))⟩
  have hv : ∀ b, b < z + 4 → some b ≠ (Value.slice (some ⟨g, 0, none⟩) n n).ownBlock := fun b hb e => by injection e with e; have e : b = g := e; omega
  refine ⟨k9, p2 _ _ _ ?_, p2 _ _ _ ?_, p2 _ _ _ ?_, (p4 _ _ _ _ _ _ _ _ ?_).mono up, (p3 _ _ _ _ ?_).mono up, p1⟩
  · exact ((blk5 hI.r0 _ _ _ _ _).set_ne (by omega) 0 _).set_ne (by omega) 0 _
  · exact ((blk_set5 hI.r1 (g := z + 1) (by omega) _ _ _ _ _).set 0 (.slice (some ⟨g, 0, none⟩) n n)).set_ne (by omega) 0 _
  · exact ((blk_set5 hI.r2 (g := z + 1) (by omega) _ _ _ _ _).set_ne (by omega) 0 _).set 0 (.bool true)
  · exact ((hI.ng.to_ ((alike_set5 W (z + 1) _ _ _ _ _).mono fun b h e => hne b h (by omega))).to_ ((alike_set _ _ _ _).mono fun b h e => hne b h (by omega))).to_ ((alike_set _ _ _ _).mono fun b h e => hne b h (by omega))
  · exact ((hrow.set5 (hv _ (by omega)) (fun h => hne _ h (by omega)) _ _ _ _ _).set (hv _ (by omega)) (fun h => hne _ h (by omega)) 0 _).set (hv _ (by omega)) (fun h => hne _ h (by omega)) 0 _

end Tg
end Go.Proofs.Ytbiiabfhngdeiaa
