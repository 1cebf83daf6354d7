/-
  Words and contracts, joined: PsCode FlLeaf FlWords FlHi PnAll BmRefOrg BmMap BmCode BmChange PnApply Lay TrIter TrNames BmOrgs BmRefOf BmOf.
-/
import Derived.Deep.RegionHeld3
import Derived.Deep.Cut
import Derived.WalkMore
import Derived.Deep.RegionWith
import Derived.Maps.OwnSet
import Derived.Lib.AppendZeros
import Derived.Laws.NewBlocks
import Derived.StillTailTactics
import Derived.Shelf.SlIter.Nil
import Derived.Shelf.SortM.Plain
import Derived.Shelf.SortM.SortNone
import Derived.Ground.GgzProg
import Derived.Ground.SlgmProg
import Derived.Test.YtfnhjflocfmcoaaGreatProg
import Derived.Sort.KeysCollected
import Derived.Sort.Walk0
import Derived.Test.YtfnhjflocfmcoaaGreatBN2
set_option maxRecDepth 100000
namespace Go.Proofs.YtfnhjflocfmcoaaGreat
open Go.RowKit
set_option linter.unusedVariables false
set_option linter.unusedSimpArgs false
namespace Pr
open Tx Df Sq Hk Tr

theorem ppEndH_none {w w' : World} {p q x y : Ch} {b : Bool} (ho : outP (passP p q) = (x, y)) (hb : (passP p q).isSome = b) (h : passP p q = none) (hw : Below w.heap.size w w') :
    PPEndH w x y b (.returned (.tuple #[.agg #[.int .i64 0, strV [], strV [], .int .i64 0, .slice none 0 0, .slice none 0 0], .agg #[.int .i64 0, strV [], strV [], .int .i64 0, .slice none 0 0, .slice none 0 0], .bool false])) w' := by
  rw [h] at ho hb
  subst hb
  injection ho with h1 h2
  subst h1 h2
  exact ⟨none, 0, 0, none, 0, 0, none, 0, 0, none, 0, 0, rfl, zero_PV _ _, zero_PV _ _, ⟨Nat.zero_le _, Nat.zero_le _⟩, ⟨Nat.zero_le _, Nat.zero_le _⟩, ⟨hi_none _, hi_none _, hi_none _, hi_none _⟩, hw⟩
theorem ppEndH_some {w w' : World} {A B D E : Option Addr} {n c m d i j k l : Nat} {p q x y x' y' : Ch} {b : Bool} (ho : outP (passP p q) = (x, y)) (hb : (passP p q).isSome = b) (h : passP p q = some (x', y')) (hv : PV w' w'.heap.size A n c B m d x') (gv : PV w' w'.heap.size D i j E k l y') (hl : n ≤ 1000 ∧ m ≤ 1000) (gl : i ≤ 1000 ∧ k ≤ 1000)
    (hi : Hi w.heap.size A ∧ Hi w.heap.size B ∧ Hi w.heap.size D ∧ Hi w.heap.size E) (hw : Below w.heap.size w w') :
    PPEndH w x y b (.returned (.tuple #[prV x'.k x'.nm x'.to x'.h.pos A n c B m d, prV y'.k y'.nm y'.to y'.h.pos D i j E k l, .bool true])) w' := by
  rw [h] at ho hb
  subst hb
  injection ho with h1 h2
  subst h1 h2
  exact ⟨A, n, c, B, m, d, D, i, j, E, k, l, rfl, hv, gv, hl, gl, hi, hw⟩

/-- Two changes, boxed, the one or the other one first. -/
def Two (c wx : World) (T U : Nat) (x y : Array Value) : Prop := Blk wx T 55 x ∧ Blk wx U 55 y ∧ T ≠ U ∧ c.heap.size ≤ T ∧ c.heap.size ≤ U ∧ Below c.heap.size c wx
theorem two_aa (c : World) (x y : Array Value) : Two c ((c.alloc (.cells x 55)).alloc (.cells y 55)) c.heap.size (c.heap.size + 1) x y := by
  have h2 := Blk.new (c.alloc (.cells x 55)) 55 y
  simp only [World.size_alloc] at h2
  exact ⟨(Blk.new c _ x).alloc _, h2, by omega, Nat.le_refl _, Nat.le_succ _, two_box c _ _⟩
theorem Two.swap {c wx : World} {T U : Nat} {x y : Array Value} (h : Two c wx T U x y) : Two c wx U T y x := ⟨h.2.1, h.1, h.2.2.1.symm, h.2.2.2.2.1, h.2.2.2.1, h.2.2.2.2.2⟩
theorem Two.drew {c wx : World} {T U : Nat} {x y : Array Value} (h : Two c wx T U x y) : Two c wx.drew T U x y := ⟨h.1.drewN 1, h.2.1.drewN 1, h.2.2.1, h.2.2.2.1, h.2.2.2.2.1, below_drewN h.2.2.2.2.2 1⟩

theorem blk_ne6 {W : World} {b b' : Nat} {t : TypeId} {cs : Array Value} (h : Blk W b t cs) (hne : b ≠ b') (v0 v1 v2 v3 v4 v5 : Value) :
    Blk ((((((W.setCell ⟨b', 0, none⟩ v0).setCell ⟨b', 1, none⟩ v1).setCell ⟨b', 2, none⟩ v2).setCell ⟨b', 3, none⟩ v3).setCell ⟨b', 4, none⟩ v4).setCell ⟨b', 5, none⟩ v5) b t cs :=
  (((((h.set_ne hne 0 v0).set_ne hne 1 v1).set_ne hne 2 v2).set_ne hne 3 v3).set_ne hne 4 v4).set_ne hne 5 v5

/-- What lies there behind the switch. -/
def PMid (w wx : World) (g T U : Nat) (p q : Ch) : Prop :=
  ∃ x y A1 n1 c1 B1 m1 d1 A2 n2 c2 B2 m2 d2, passP p q = some (x, y) ∧
    Blk wx T 55 #[.int .i64 x.k, strV x.nm, strV x.to, .int .i64 x.h.pos, .slice A1 n1 c1, .slice B1 m1 d1] ∧
    Blk wx U 55 #[.int .i64 y.k, strV y.nm, strV y.to, .int .i64 y.h.pos, .slice A2 n2 c2, .slice B2 m2 d2] ∧
    Blk wx (g + 2) 55 #[.int .i64 0, strV [], strV [], .int .i64 0, .slice none 0 0, .slice none 0 0] ∧ Blk wx (g + 3) 55 #[.int .i64 0, strV [], strV [], .int .i64 0, .slice none 0 0, .slice none 0 0] ∧
    PV wx wx.heap.size A1 n1 c1 B1 m1 d1 x ∧ PV wx wx.heap.size A2 n2 c2 B2 m2 d2 y ∧ (n1 ≤ 1000 ∧ m1 ≤ 1000) ∧ (n2 ≤ 1000 ∧ m2 ≤ 1000) ∧ Below g w wx

/-- A change that may be, of another kind than a move, has no other name. -/
theorem may_to {p : Ch} (hm : mayP p = true) (hk : p.k = 3 ∨ p.k = 4) : p.to = [] := (may_h hm hk).2.1
theorem name_ne {p q : Ch} (hm : mayP p = true) (hq : mayP q = true) (hk : p.k = 3 ∨ p.k = 4) : (q.nm == p.to) = false := by
  rw [may_to hm hk]
  have h1 := (mayP_cases.1 hq).1
  cases hn : q.nm with
  | nil => rw [hn] at h1; revert h1; decide
  | cons _ _ => rfl

theorem k_absurd {k : Int} (h : (k == 3) = true) (h' : (k == 4) = true) : False := by
  have a : k = 3 := by simpa using h
  have b : k = 4 := by simpa using h'
  omega
theorem k_absurd2 {k : Int} (h : (k == 3) = true) (h' : (k == 2) = true) : False := by
  have a : k = 3 := by simpa using h
  have b : k = 2 := by simpa using h'
  omega
theorem k_absurd3 {k : Int} (h : (k == 4) = true) (h' : (k == 2) = true) : False := by
  have a : k = 4 := by simpa using h
  have b : k = 2 := by simpa using h'
  omega

set_option maxRecDepth 100000 in
set_option maxHeartbeats 16000000 in
theorem PassPH (A : Option Addr) (n c : Nat) (A' : Option Addr) (n' c' : Nat) (D : Option Addr) (m k : Nat) (D' : Option Addr) (m' k' : Nat) (p q x y : Ch) (w : World) (b : Bool) (hl : n ≤ 1000 ∧ n' ≤ 1000) (gl : m ≤ 1000 ∧ m' ≤ 1000)
    (hv : PV w w.heap.size A n c A' n' c' p) (gv : PV w w.heap.size D m k D' m' k' q) (ho : outP (passP p q) = (x, y)) (hb : (passP p q).isSome = b) :
    Calls Tryz.prog 58 #[prV p.k p.nm p.to p.h.pos A n c A' n' c', prV q.k q.nm q.to q.h.pos D m k D' m' k'] w (PPEndH w x y b) := by
  have HV0 := Lib.hid hv; have GV0 := Lib.hid gv; have HL := Lib.hid hl; have GL := Lib.hid gl; have HO := Lib.hid ho; have HBB := Lib.hid hb
  clear hl gl hv gv ho hb
  go_enter Tryz.func58, Tryz.ntmps58
  go_wp2_with fail
  have hw0 : Below w.heap.size w ((((w.alloc (.cells #[.int .i64 p.k, strV p.nm, strV p.to, .int .i64 p.h.pos, .slice A n c, .slice A' n' c'] 55)).alloc (.cells #[.int .i64 q.k, strV q.nm, strV q.to, .int .i64 q.h.pos, .slice D m k, .slice D' m' k'] 55)).alloc (.cells #[.int .i64 0, strV [], strV [], .int .i64 0, .slice none 0 0, .slice none 0 0] 55)).alloc (.cells #[.int .i64 0, strV [], strV [], .int .i64 0, .slice none 0 0, .slice none 0 0] 55)) := ((((Below.refl _ _).alloc (Nat.le_refl _) _).alloc (by simp) _).alloc (by simp; omega) _).alloc (by simp; omega) _
  have b0 := (((Blk.new w 55 #[.int .i64 p.k, strV p.nm, strV p.to, .int .i64 p.h.pos, .slice A n c, .slice A' n' c']).alloc (.cells #[.int .i64 q.k, strV q.nm, strV q.to, .int .i64 q.h.pos, .slice D m k, .slice D' m' k'] 55)).alloc (.cells #[.int .i64 0, strV [], strV [], .int .i64 0, .slice none 0 0, .slice none 0 0] 55)).alloc (.cells #[.int .i64 0, strV [], strV [], .int .i64 0, .slice none 0 0, .slice none 0 0] 55)
  have b1 := ((Blk.new (w.alloc (.cells #[.int .i64 p.k, strV p.nm, strV p.to, .int .i64 p.h.pos, .slice A n c, .slice A' n' c'] 55)) 55 #[.int .i64 q.k, strV q.nm, strV q.to, .int .i64 q.h.pos, .slice D m k, .slice D' m' k']).alloc (.cells #[.int .i64 0, strV [], strV [], .int .i64 0, .slice none 0 0, .slice none 0 0] 55)).alloc (.cells #[.int .i64 0, strV [], strV [], .int .i64 0, .slice none 0 0, .slice none 0 0] 55)
  have b2 := (Blk.new ((w.alloc (.cells #[.int .i64 p.k, strV p.nm, strV p.to, .int .i64 p.h.pos, .slice A n c, .slice A' n' c'] 55)).alloc (.cells #[.int .i64 q.k, strV q.nm, strV q.to, .int .i64 q.h.pos, .slice D m k, .slice D' m' k'] 55)) 55 #[.int .i64 0, strV [], strV [], .int .i64 0, .slice none 0 0, .slice none 0 0]).alloc (.cells #[.int .i64 0, strV [], strV [], .int .i64 0, .slice none 0 0, .slice none 0 0] 55)
  have b3 := Blk.new (((w.alloc (.cells #[.int .i64 p.k, strV p.nm, strV p.to, .int .i64 p.h.pos, .slice A n c, .slice A' n' c'] 55)).alloc (.cells #[.int .i64 q.k, strV q.nm, strV q.to, .int .i64 q.h.pos, .slice D m k, .slice D' m' k'] 55)).alloc (.cells #[.int .i64 0, strV [], strV [], .int .i64 0, .slice none 0 0, .slice none 0 0] 55)) 55 #[.int .i64 0, strV [], strV [], .int .i64 0, .slice none 0 0, .slice none 0 0]
  simp only [World.size_alloc] at b1 b2 b3
  generalize ((((w.alloc (.cells #[.int .i64 p.k, strV p.nm, strV p.to, .int .i64 p.h.pos, .slice A n c, .slice A' n' c'] 55)).alloc (.cells #[.int .i64 q.k, strV q.nm, strV q.to, .int .i64 q.h.pos, .slice D m k, .slice D' m' k'] 55)).alloc (.cells #[.int .i64 0, strV [], strV [], .int .i64 0, .slice none 0 0, .slice none 0 0] 55)).alloc (.cells #[.int .i64 0, strV [], strV [], .int .i64 0, .slice none 0 0, .slice none 0 0] 55)) = w0 at *
  obtain ⟨g, hgs⟩ : ∃ g, w.heap.size = g := ⟨_, rfl⟩
  rw [hgs] at b0 b1 b2 b3 ⊢
  rw [show g + 1 + 1 = g + 2 from rfl] at b2 b3 ⊢
  rw [show g + 2 + 1 = g + 3 from rfl] at b3 ⊢
  have HGS := Lib.hid hgs
  have HVw0 := Lib.hid (HV0.out.mv hw0); have GVw0 := Lib.hid (GV0.out.mv hw0)
  rw [hgs] at hw0
  have HWw0 := Lib.hid hw0
  have HB0w0 := Lib.hid b0; have HB1w0 := Lib.hid b1; have HB2w0 := Lib.hid b2; have HB3w0 := Lib.hid b3
  clear hgs b0 b1 b2 b3 hw0
  obtain ⟨bp, hbp⟩ : ∃ b, mayP p = b := ⟨_, rfl⟩
  obtain ⟨bq, hbq⟩ : ∃ b, mayP q = b := ⟨_, rfl⟩
  obtain ⟨ba, hba⟩ : ∃ b, apartP p q = b := ⟨_, rfl⟩
  have HBP := Lib.hid hbp; have HBQ := Lib.hid hbq; have HBA := Lib.hid hba
  clear hbp hbq hba
  have HGw0 := Lib.hid (show g ≤ w0.heap.size by have := HB3w0.out.lt; omega)
  have x0 : w0.cell? ⟨g, 0, none⟩ = some (.int .i64 p.k) := HB0w0.out.cell 0 rfl; have x1 : w0.cell? ⟨g, 1, none⟩ = some (strV p.nm) := HB0w0.out.cell 1 rfl; have x2 : w0.cell? ⟨g, 2, none⟩ = some (strV p.to) := HB0w0.out.cell 2 rfl; have x3 : w0.cell? ⟨g, 3, none⟩ = some (.int .i64 p.h.pos) := HB0w0.out.cell 3 rfl; have x4 : w0.cell? ⟨g, 4, none⟩ = some (.slice A n c) := HB0w0.out.cell 4 rfl; have x5 : w0.cell? ⟨g, 5, none⟩ = some (.slice A' n' c') := HB0w0.out.cell 5 rfl
  go_step3
  go_wp2_with fail
  clear x0 x1 x2 x3 x4 x5
  refine (MayP A n c A' n' c' p w0 bp HVw0.out HBP.out).mono ?_
  rintro e w1 ⟨rfl, hb⟩
  have HVw1 := Lib.hid (HVw0.out.mv hb); have GVw1 := Lib.hid (GVw0.out.mv hb); clear HVw0 GVw0
  have HWw1 := Lib.hid (HWw0.out.trans (hb.mono HGw0.out)); have HGw1 := Lib.hid (Nat.le_trans HGw0.out hb.size)
  have HB0w1 := Lib.hid (HB0w0.out.below hb HB0w0.out.lt); have HB1w1 := Lib.hid (HB1w0.out.below hb HB1w0.out.lt); have HB2w1 := Lib.hid (HB2w0.out.below hb HB2w0.out.lt); have HB3w1 := Lib.hid (HB3w0.out.below hb HB3w0.out.lt)
  clear hb HWw0 HGw0 HB0w0 HB1w0 HB2w0 HB3w0
  cases bp with
  | false =>
    have u0 : w1.cell? ⟨g + 2, 0, none⟩ = some (.int .i64 0) := HB2w1.out.cell 0 rfl; have u1 : w1.cell? ⟨g + 2, 1, none⟩ = some (strV []) := HB2w1.out.cell 1 rfl; have u2 : w1.cell? ⟨g + 2, 2, none⟩ = some (strV []) := HB2w1.out.cell 2 rfl; have u3 : w1.cell? ⟨g + 2, 3, none⟩ = some (.int .i64 0) := HB2w1.out.cell 3 rfl; have u4 : w1.cell? ⟨g + 2, 4, none⟩ = some (.slice none 0 0) := HB2w1.out.cell 4 rfl; have u5 : w1.cell? ⟨g + 2, 5, none⟩ = some (.slice none 0 0) := HB2w1.out.cell 5 rfl
    have v0 : w1.cell? ⟨g + 3, 0, none⟩ = some (.int .i64 0) := HB3w1.out.cell 0 rfl; have v1 : w1.cell? ⟨g + 3, 1, none⟩ = some (strV []) := HB3w1.out.cell 1 rfl; have v2 : w1.cell? ⟨g + 3, 2, none⟩ = some (strV []) := HB3w1.out.cell 2 rfl; have v3 : w1.cell? ⟨g + 3, 3, none⟩ = some (.int .i64 0) := HB3w1.out.cell 3 rfl; have v4 : w1.cell? ⟨g + 3, 4, none⟩ = some (.slice none 0 0) := HB3w1.out.cell 4 rfl; have v5 : w1.cell? ⟨g + 3, 5, none⟩ = some (.slice none 0 0) := HB3w1.out.cell 5 rfl
    have f0 : w1.frozen? ⟨g + 2, 0, none⟩ = false := HB2w1.out.frozen 0; have f1 : w1.frozen? ⟨g + 2, 1, none⟩ = false := HB2w1.out.frozen 1; have f2 : w1.frozen? ⟨g + 2, 2, none⟩ = false := HB2w1.out.frozen 2; have f3 : w1.frozen? ⟨g + 2, 3, none⟩ = false := HB2w1.out.frozen 3; have f4 : w1.frozen? ⟨g + 2, 4, none⟩ = false := HB2w1.out.frozen 4; have f5 : w1.frozen? ⟨g + 2, 5, none⟩ = false := HB2w1.out.frozen 5
    have h0 : w1.frozen? ⟨g + 3, 0, none⟩ = false := HB3w1.out.frozen 0; have h1 : w1.frozen? ⟨g + 3, 1, none⟩ = false := HB3w1.out.frozen 1; have h2 : w1.frozen? ⟨g + 3, 2, none⟩ = false := HB3w1.out.frozen 2; have h3 : w1.frozen? ⟨g + 3, 3, none⟩ = false := HB3w1.out.frozen 3; have h4 : w1.frozen? ⟨g + 3, 4, none⟩ = false := HB3w1.out.frozen 4; have h5 : w1.frozen? ⟨g + 3, 5, none⟩ = false := HB3w1.out.frozen 5
    go_wp2_with fail
    obtain ⟨z2, z3⟩ := two_set6 HB2w1.out HB3w1.out (by omega) (.int .i64 0) (strV []) (strV []) (.int .i64 0) (.slice none 0 0) (.slice none 0 0) (.int .i64 0) (strV []) (strV []) (.int .i64 0) (.slice none 0 0) (.slice none 0 0)
    have hb6 := below_set12 (b := g + 2) (b' := g + 3) HWw1.out (by omega) (by omega) (.int .i64 0) (strV []) (strV []) (.int .i64 0) (.slice none 0 0) (.slice none 0 0) (.int .i64 0) (strV []) (strV []) (.int .i64 0) (.slice none 0 0) (.slice none 0 0)
    generalize (World.setCell (World.setCell (World.setCell (World.setCell (World.setCell (World.setCell (World.setCell (World.setCell (World.setCell (World.setCell (World.setCell (World.setCell w1 ⟨g + 2, 0, none⟩ (.int .i64 0)) ⟨g + 2, 1, none⟩ (strV [])) ⟨g + 2, 2, none⟩ (strV [])) ⟨g + 2, 3, none⟩ (.int .i64 0)) ⟨g + 2, 4, none⟩ (.slice none 0 0)) ⟨g + 2, 5, none⟩ (.slice none 0 0)) ⟨g + 3, 0, none⟩ (.int .i64 0)) ⟨g + 3, 1, none⟩ (strV [])) ⟨g + 3, 2, none⟩ (strV [])) ⟨g + 3, 3, none⟩ (.int .i64 0)) ⟨g + 3, 4, none⟩ (.slice none 0 0)) ⟨g + 3, 5, none⟩ (.slice none 0 0)) = W3 at *
    clear u0 u1 u2 u3 u4 u5 v0 v1 v2 v3 v4 v5 f0 f1 f2 f3 f4 f5 h0 h1 h2 h3 h4 h5
    have u0 : W3.cell? ⟨g + 2, 0, none⟩ = some (.int .i64 0) := z2.cell 0 rfl; have u1 : W3.cell? ⟨g + 2, 1, none⟩ = some (strV []) := z2.cell 1 rfl; have u2 : W3.cell? ⟨g + 2, 2, none⟩ = some (strV []) := z2.cell 2 rfl; have u3 : W3.cell? ⟨g + 2, 3, none⟩ = some (.int .i64 0) := z2.cell 3 rfl; have u4 : W3.cell? ⟨g + 2, 4, none⟩ = some (.slice none 0 0) := z2.cell 4 rfl; have u5 : W3.cell? ⟨g + 2, 5, none⟩ = some (.slice none 0 0) := z2.cell 5 rfl
    have v0 : W3.cell? ⟨g + 3, 0, none⟩ = some (.int .i64 0) := z3.cell 0 rfl; have v1 : W3.cell? ⟨g + 3, 1, none⟩ = some (strV []) := z3.cell 1 rfl; have v2 : W3.cell? ⟨g + 3, 2, none⟩ = some (strV []) := z3.cell 2 rfl; have v3 : W3.cell? ⟨g + 3, 3, none⟩ = some (.int .i64 0) := z3.cell 3 rfl; have v4 : W3.cell? ⟨g + 3, 4, none⟩ = some (.slice none 0 0) := z3.cell 4 rfl; have v5 : W3.cell? ⟨g + 3, 5, none⟩ = some (.slice none 0 0) := z3.cell 5 rfl
    try rw [Exit.noGoto_ret]
    refine bodyPost_ret (v := .tuple #[.agg #[.int .i64 0, strV [], strV [], .int .i64 0, .slice none 0 0, .slice none 0 0], .agg #[.int .i64 0, strV [], strV [], .int .i64 0, .slice none 0 0, .slice none 0 0], .bool false]) (by simp [results, Tryz.results58, go_sem, u0, v0, u1, v1, u2, v2, u3, v3, u4, v4, u5, v5]) rfl ?_
    have hW : Below w.heap.size w W3 := by rw [HGS.out]; exact hb6
    exact ppEndH_none HO.out HBB.out (passP_no1 HBP.out) hW
  | true =>
  have y0 : w1.cell? ⟨g + 1, 0, none⟩ = some (.int .i64 q.k) := HB1w1.out.cell 0 rfl; have y1 : w1.cell? ⟨g + 1, 1, none⟩ = some (strV q.nm) := HB1w1.out.cell 1 rfl; have y2 : w1.cell? ⟨g + 1, 2, none⟩ = some (strV q.to) := HB1w1.out.cell 2 rfl; have y3 : w1.cell? ⟨g + 1, 3, none⟩ = some (.int .i64 q.h.pos) := HB1w1.out.cell 3 rfl; have y4 : w1.cell? ⟨g + 1, 4, none⟩ = some (.slice D m k) := HB1w1.out.cell 4 rfl; have y5 : w1.cell? ⟨g + 1, 5, none⟩ = some (.slice D' m' k') := HB1w1.out.cell 5 rfl
  go_wp2_with fail
  clear y0 y1 y2 y3 y4 y5
  refine (MayP D m k D' m' k' q w1 bq GVw1.out HBQ.out).mono ?_
  rintro e w2 ⟨rfl, hb⟩
  have HVw2 := Lib.hid (HVw1.out.mv hb); have GVw2 := Lib.hid (GVw1.out.mv hb); clear HVw1 GVw1
  have HWw2 := Lib.hid (HWw1.out.trans (hb.mono HGw1.out)); have HGw2 := Lib.hid (Nat.le_trans HGw1.out hb.size)
  have HB0w2 := Lib.hid (HB0w1.out.below hb HB0w1.out.lt); have HB1w2 := Lib.hid (HB1w1.out.below hb HB1w1.out.lt); have HB2w2 := Lib.hid (HB2w1.out.below hb HB2w1.out.lt); have HB3w2 := Lib.hid (HB3w1.out.below hb HB3w1.out.lt)
  clear hb HWw1 HGw1 HB0w1 HB1w1 HB2w1 HB3w1
  cases bq with
  | false =>
    have u0 : w2.cell? ⟨g + 2, 0, none⟩ = some (.int .i64 0) := HB2w2.out.cell 0 rfl; have u1 : w2.cell? ⟨g + 2, 1, none⟩ = some (strV []) := HB2w2.out.cell 1 rfl; have u2 : w2.cell? ⟨g + 2, 2, none⟩ = some (strV []) := HB2w2.out.cell 2 rfl; have u3 : w2.cell? ⟨g + 2, 3, none⟩ = some (.int .i64 0) := HB2w2.out.cell 3 rfl; have u4 : w2.cell? ⟨g + 2, 4, none⟩ = some (.slice none 0 0) := HB2w2.out.cell 4 rfl; have u5 : w2.cell? ⟨g + 2, 5, none⟩ = some (.slice none 0 0) := HB2w2.out.cell 5 rfl
    have v0 : w2.cell? ⟨g + 3, 0, none⟩ = some (.int .i64 0) := HB3w2.out.cell 0 rfl; have v1 : w2.cell? ⟨g + 3, 1, none⟩ = some (strV []) := HB3w2.out.cell 1 rfl; have v2 : w2.cell? ⟨g + 3, 2, none⟩ = some (strV []) := HB3w2.out.cell 2 rfl; have v3 : w2.cell? ⟨g + 3, 3, none⟩ = some (.int .i64 0) := HB3w2.out.cell 3 rfl; have v4 : w2.cell? ⟨g + 3, 4, none⟩ = some (.slice none 0 0) := HB3w2.out.cell 4 rfl; have v5 : w2.cell? ⟨g + 3, 5, none⟩ = some (.slice none 0 0) := HB3w2.out.cell 5 rfl
    have f0 : w2.frozen? ⟨g + 2, 0, none⟩ = false := HB2w2.out.frozen 0; have f1 : w2.frozen? ⟨g + 2, 1, none⟩ = false := HB2w2.out.frozen 1; have f2 : w2.frozen? ⟨g + 2, 2, none⟩ = false := HB2w2.out.frozen 2; have f3 : w2.frozen? ⟨g + 2, 3, none⟩ = false := HB2w2.out.frozen 3; have f4 : w2.frozen? ⟨g + 2, 4, none⟩ = false := HB2w2.out.frozen 4; have f5 : w2.frozen? ⟨g + 2, 5, none⟩ = false := HB2w2.out.frozen 5
    have h0 : w2.frozen? ⟨g + 3, 0, none⟩ = false := HB3w2.out.frozen 0; have h1 : w2.frozen? ⟨g + 3, 1, none⟩ = false := HB3w2.out.frozen 1; have h2 : w2.frozen? ⟨g + 3, 2, none⟩ = false := HB3w2.out.frozen 2; have h3 : w2.frozen? ⟨g + 3, 3, none⟩ = false := HB3w2.out.frozen 3; have h4 : w2.frozen? ⟨g + 3, 4, none⟩ = false := HB3w2.out.frozen 4; have h5 : w2.frozen? ⟨g + 3, 5, none⟩ = false := HB3w2.out.frozen 5
    go_wp2_with fail
    obtain ⟨z2, z3⟩ := two_set6 HB2w2.out HB3w2.out (by omega) (.int .i64 0) (strV []) (strV []) (.int .i64 0) (.slice none 0 0) (.slice none 0 0) (.int .i64 0) (strV []) (strV []) (.int .i64 0) (.slice none 0 0) (.slice none 0 0)
    have hb6 := below_set12 (b := g + 2) (b' := g + 3) HWw2.out (by omega) (by omega) (.int .i64 0) (strV []) (strV []) (.int .i64 0) (.slice none 0 0) (.slice none 0 0) (.int .i64 0) (strV []) (strV []) (.int .i64 0) (.slice none 0 0) (.slice none 0 0)
    generalize (World.setCell (World.setCell (World.setCell (World.setCell (World.setCell (World.setCell (World.setCell (World.setCell (World.setCell (World.setCell (World.setCell (World.setCell w2 ⟨g + 2, 0, none⟩ (.int .i64 0)) ⟨g + 2, 1, none⟩ (strV [])) ⟨g + 2, 2, none⟩ (strV [])) ⟨g + 2, 3, none⟩ (.int .i64 0)) ⟨g + 2, 4, none⟩ (.slice none 0 0)) ⟨g + 2, 5, none⟩ (.slice none 0 0)) ⟨g + 3, 0, none⟩ (.int .i64 0)) ⟨g + 3, 1, none⟩ (strV [])) ⟨g + 3, 2, none⟩ (strV [])) ⟨g + 3, 3, none⟩ (.int .i64 0)) ⟨g + 3, 4, none⟩ (.slice none 0 0)) ⟨g + 3, 5, none⟩ (.slice none 0 0)) = W3 at *
    clear u0 u1 u2 u3 u4 u5 v0 v1 v2 v3 v4 v5 f0 f1 f2 f3 f4 f5 h0 h1 h2 h3 h4 h5
    have u0 : W3.cell? ⟨g + 2, 0, none⟩ = some (.int .i64 0) := z2.cell 0 rfl; have u1 : W3.cell? ⟨g + 2, 1, none⟩ = some (strV []) := z2.cell 1 rfl; have u2 : W3.cell? ⟨g + 2, 2, none⟩ = some (strV []) := z2.cell 2 rfl; have u3 : W3.cell? ⟨g + 2, 3, none⟩ = some (.int .i64 0) := z2.cell 3 rfl; have u4 : W3.cell? ⟨g + 2, 4, none⟩ = some (.slice none 0 0) := z2.cell 4 rfl; have u5 : W3.cell? ⟨g + 2, 5, none⟩ = some (.slice none 0 0) := z2.cell 5 rfl
    have v0 : W3.cell? ⟨g + 3, 0, none⟩ = some (.int .i64 0) := z3.cell 0 rfl; have v1 : W3.cell? ⟨g + 3, 1, none⟩ = some (strV []) := z3.cell 1 rfl; have v2 : W3.cell? ⟨g + 3, 2, none⟩ = some (strV []) := z3.cell 2 rfl; have v3 : W3.cell? ⟨g + 3, 3, none⟩ = some (.int .i64 0) := z3.cell 3 rfl; have v4 : W3.cell? ⟨g + 3, 4, none⟩ = some (.slice none 0 0) := z3.cell 4 rfl; have v5 : W3.cell? ⟨g + 3, 5, none⟩ = some (.slice none 0 0) := z3.cell 5 rfl
    try rw [Exit.noGoto_ret]
    refine bodyPost_ret (v := .tuple #[.agg #[.int .i64 0, strV [], strV [], .int .i64 0, .slice none 0 0, .slice none 0 0], .agg #[.int .i64 0, strV [], strV [], .int .i64 0, .slice none 0 0, .slice none 0 0], .bool false]) (by simp [results, Tryz.results58, go_sem, u0, v0, u1, v1, u2, v2, u3, v3, u4, v4, u5, v5]) rfl ?_
    have hW : Below w.heap.size w W3 := by rw [HGS.out]; exact hb6
    exact ppEndH_none HO.out HBB.out (passP_no2 HBQ.out) hW
  | true =>
  go_upto_region 3 with fail
  go_cut [7, 8] from 9 (fun s7 s8 wx => ∃ (T U : Nat), s7 = .pointer (some ⟨T, 0, none⟩) ∧ s8 = .pointer (some ⟨U, 0, none⟩) ∧ Two w2 wx T U #[.int .i64 q.k, strV q.nm, strV q.to, .int .i64 q.h.pos, .slice D m k, .slice D' m' k'] #[.int .i64 p.k, strV p.nm, strV p.to, .int .i64 p.h.pos, .slice A n c, .slice A' n' c'])
  case first =>
    have x0 : w2.cell? ⟨g, 0, none⟩ = some (.int .i64 p.k) := HB0w2.out.cell 0 rfl; have x1 : w2.cell? ⟨g, 1, none⟩ = some (strV p.nm) := HB0w2.out.cell 1 rfl; have x2 : w2.cell? ⟨g, 2, none⟩ = some (strV p.to) := HB0w2.out.cell 2 rfl; have x3 : w2.cell? ⟨g, 3, none⟩ = some (.int .i64 p.h.pos) := HB0w2.out.cell 3 rfl; have x4 : w2.cell? ⟨g, 4, none⟩ = some (.slice A n c) := HB0w2.out.cell 4 rfl; have x5 : w2.cell? ⟨g, 5, none⟩ = some (.slice A' n' c') := HB0w2.out.cell 5 rfl
    have y0 : w2.cell? ⟨g + 1, 0, none⟩ = some (.int .i64 q.k) := HB1w2.out.cell 0 rfl; have y1 : w2.cell? ⟨g + 1, 1, none⟩ = some (strV q.nm) := HB1w2.out.cell 1 rfl; have y2 : w2.cell? ⟨g + 1, 2, none⟩ = some (strV q.to) := HB1w2.out.cell 2 rfl; have y3 : w2.cell? ⟨g + 1, 3, none⟩ = some (.int .i64 q.h.pos) := HB1w2.out.cell 3 rfl; have y4 : w2.cell? ⟨g + 1, 4, none⟩ = some (.slice D m k) := HB1w2.out.cell 4 rfl; have y5 : w2.cell? ⟨g + 1, 5, none⟩ = some (.slice D' m' k') := HB1w2.out.cell 5 rfl
    have hg0 : g < w2.heap.size := HB0w2.out.lt
    have hg1 : g + 1 < w2.heap.size := HB1w2.out.lt
    go_region
    all_goals (try go_wp2_with fail)
    all_goals go_meet
    all_goals first
      | (with_reducible exact ⟨_, _, rfl, rfl, (two_aa w2 _ _).drew⟩)
      | (with_reducible exact ⟨_, _, rfl, rfl, (two_aa w2 _ _).swap.drew⟩)
      | (exact ⟨_, _, rfl, rfl, (two_aa w2 _ _).drew⟩)
      | (exact ⟨_, _, rfl, rfl, (two_aa w2 _ _).swap.drew⟩)
  case rest =>
  obtain ⟨T, U, rfl, rfl, hbt, hbu, hne, hT, hU, hb⟩ := hcut
  have HBTwc := Lib.hid hbt; have HBUwc := Lib.hid hbu; have HNE := Lib.hid hne
  have HgT : Hid (g + 3 < T ∧ g + 3 < U) := Lib.hid (by have := HB3w2.out.lt; omega)
  have HVwc := Lib.hid (HVw2.out.mv hb); have GVwc := Lib.hid (GVw2.out.mv hb); clear HVw2 GVw2
  clear hbt hbu hne hT hU
  have HWwc := Lib.hid (HWw2.out.trans (hb.mono HGw2.out)); have HGwc := Lib.hid (Nat.le_trans HGw2.out hb.size)
  have HB0wc := Lib.hid (HB0w2.out.below hb HB0w2.out.lt); have HB1wc := Lib.hid (HB1w2.out.below hb HB1w2.out.lt); have HB2wc := Lib.hid (HB2w2.out.below hb HB2w2.out.lt); have HB3wc := Lib.hid (HB3w2.out.below hb HB3w2.out.lt)
  clear hb HWw2 HGw2 HB0w2 HB1w2 HB2w2 HB3w2
  go_wp2_with fail
  go_step3
  go_step
  go_step
  go_step
  go_cut [] from 9 (fun wx => PMid w wx g T U p q)
  case first =>
    have x0 : wc.cell? ⟨g, 0, none⟩ = some (.int .i64 p.k) := HB0wc.out.cell 0 rfl; have x1 : wc.cell? ⟨g, 1, none⟩ = some (strV p.nm) := HB0wc.out.cell 1 rfl; have x2 : wc.cell? ⟨g, 2, none⟩ = some (strV p.to) := HB0wc.out.cell 2 rfl; have x3 : wc.cell? ⟨g, 3, none⟩ = some (.int .i64 p.h.pos) := HB0wc.out.cell 3 rfl; have x4 : wc.cell? ⟨g, 4, none⟩ = some (.slice A n c) := HB0wc.out.cell 4 rfl; have x5 : wc.cell? ⟨g, 5, none⟩ = some (.slice A' n' c') := HB0wc.out.cell 5 rfl
    have y0 : wc.cell? ⟨g + 1, 0, none⟩ = some (.int .i64 q.k) := HB1wc.out.cell 0 rfl; have y1 : wc.cell? ⟨g + 1, 1, none⟩ = some (strV q.nm) := HB1wc.out.cell 1 rfl; have y2 : wc.cell? ⟨g + 1, 2, none⟩ = some (strV q.to) := HB1wc.out.cell 2 rfl; have y3 : wc.cell? ⟨g + 1, 3, none⟩ = some (.int .i64 q.h.pos) := HB1wc.out.cell 3 rfl; have y4 : wc.cell? ⟨g + 1, 4, none⟩ = some (.slice D m k) := HB1wc.out.cell 4 rfl; have y5 : wc.cell? ⟨g + 1, 5, none⟩ = some (.slice D' m' k') := HB1wc.out.cell 5 rfl
    go_wp2_with fail
    clear x0 x1 x2 x3 x4 x5 y0 y1 y2 y3 y4 y5
    refine (Meet A n c A' n' c' D m k D' m' k' p q wc ba HBA.out).mono ?_
    rintro e w4 ⟨rfl, hb⟩
    have HVw4 := Lib.hid (HVwc.out.mv hb); have GVw4 := Lib.hid (GVwc.out.mv hb); clear HVwc GVwc
    have HWw4 := Lib.hid (HWwc.out.trans (hb.mono HGwc.out)); have HGw4 := Lib.hid (Nat.le_trans HGwc.out hb.size)
    have HB0w4 := Lib.hid (HB0wc.out.below hb HB0wc.out.lt); have HB1w4 := Lib.hid (HB1wc.out.below hb HB1wc.out.lt); have HB2w4 := Lib.hid (HB2wc.out.below hb HB2wc.out.lt); have HB3w4 := Lib.hid (HB3wc.out.below hb HB3wc.out.lt); have HBTw4 := Lib.hid (HBTwc.out.below hb HBTwc.out.lt); have HBUw4 := Lib.hid (HBUwc.out.below hb HBUwc.out.lt)
    clear hb HWwc HGwc HB0wc HB1wc HB2wc HB3wc HBTwc HBUwc
    have x0 : w4.cell? ⟨g, 0, none⟩ = some (.int .i64 p.k) := HB0w4.out.cell 0 rfl; have x1 : w4.cell? ⟨g, 1, none⟩ = some (strV p.nm) := HB0w4.out.cell 1 rfl; have x2 : w4.cell? ⟨g, 2, none⟩ = some (strV p.to) := HB0w4.out.cell 2 rfl; have x3 : w4.cell? ⟨g, 3, none⟩ = some (.int .i64 p.h.pos) := HB0w4.out.cell 3 rfl; have x4 : w4.cell? ⟨g, 4, none⟩ = some (.slice A n c) := HB0w4.out.cell 4 rfl; have x5 : w4.cell? ⟨g, 5, none⟩ = some (.slice A' n' c') := HB0w4.out.cell 5 rfl
    have y0 : w4.cell? ⟨g + 1, 0, none⟩ = some (.int .i64 q.k) := HB1w4.out.cell 0 rfl; have y1 : w4.cell? ⟨g + 1, 1, none⟩ = some (strV q.nm) := HB1w4.out.cell 1 rfl; have y2 : w4.cell? ⟨g + 1, 2, none⟩ = some (strV q.to) := HB1w4.out.cell 2 rfl; have y3 : w4.cell? ⟨g + 1, 3, none⟩ = some (.int .i64 q.h.pos) := HB1w4.out.cell 3 rfl; have y4 : w4.cell? ⟨g + 1, 4, none⟩ = some (.slice D m k) := HB1w4.out.cell 4 rfl; have y5 : w4.cell? ⟨g + 1, 5, none⟩ = some (.slice D' m' k') := HB1w4.out.cell 5 rfl
    cases ba with
    | true =>
      go_wp2_with fail
      go_meet
      exact ⟨_, _, D, m, k, D', m', k', A, n, c, A', n', c', (passP_ap HBP.out HBQ.out HBA.out), HBTw4.out, HBUw4.out, HB2w4.out, HB3w4.out, GVw4.out, HVw4.out, GL.out, HL.out, HWw4.out⟩
    | false =>
    by_cases h3 : p.k = 3 ∧ q.k = 3
    · have e1 : (p.k == 3) = true := by simpa using h3.1
      have e2 : (q.k == 3) = true := by simpa using h3.2
      have H3 := Lib.hid h3; clear h3
      go_wp2_with fail
      clear x0 x1 x2 x3 x4 x5 y0 y1 y2 y3 y4 y5
      refine (Sw.PassHi A n c A' n' c' D m k D' m' k' w4.heap.size p.h q.h w4 (Nat.le_refl _) HL.out.1 HL.out.2 GL.out.1 GL.out.2 HVw4.out.h GVw4.out.h).mono ?_
      rintro e w5 hend
      have hb : Below w4.heap.size w4 w5 := by obtain ⟨_, _, _, _, _, _, _, _, _, _, _, _, _, _, _, _, hb⟩ := hend; exact hb
      cases hz : Sw.passH p.h q.h with
      | none =>
        have HN : Hid (passP p q = none) := Lib.hid (by rw [passP_b HBP.out HBQ.out HBA.out H3.out.1 H3.out.2, hz]; rfl)
        have hz0 : Sw.outH (Sw.passH p.h q.h) = (Sw.zeroH, Sw.zeroH) := by rw [hz]; rfl
        obtain ⟨E1, i1, j1, E2, i2, j2, G1, k1, l1, G2, k2, l2, he, v1, v2, hhi, _⟩ := hend
        clear v1 v2 hhi
        rw [hz0, hz] at he
        have he' : e = .returned (.tuple #[Hk.hkV 0 E1 i1 j1 E2 i2 j2, Hk.hkV 0 G1 k1 l1 G2 k2 l2, .bool false]) := he
        clear he
        subst he'
        clear hz hz0
        have HVw5 := Lib.hid (HVw4.out.mv hb); have GVw5 := Lib.hid (GVw4.out.mv hb); clear HVw4 GVw4
        have HWw5 := Lib.hid (HWw4.out.trans (hb.mono HGw4.out)); have HGw5 := Lib.hid (Nat.le_trans HGw4.out hb.size)
        have HB0w5 := Lib.hid (HB0w4.out.below hb HB0w4.out.lt); have HB1w5 := Lib.hid (HB1w4.out.below hb HB1w4.out.lt); have HB2w5 := Lib.hid (HB2w4.out.below hb HB2w4.out.lt); have HB3w5 := Lib.hid (HB3w4.out.below hb HB3w4.out.lt); have HBTw5 := Lib.hid (HBTw4.out.below hb HBTw4.out.lt); have HBUw5 := Lib.hid (HBUw4.out.below hb HBUw4.out.lt)
        clear hb HWw4 HGw4 HB0w4 HB1w4 HB2w4 HB3w4 HBTw4 HBUw4
        go_upto_region 10 with fail
        have hb : Below w5.heap.size w5 ((w5.alloc (.cells #[.int .i64 0, .slice E1 i1 j1, .slice E2 i2 j2] 53)).alloc (.cells #[.int .i64 0, .slice G1 k1 l1, .slice G2 k2 l2] 53)) := two_box _ _ _
        have HBX := Lib.hid ((Blk.new w5 53 #[.int .i64 0, .slice E1 i1 j1, .slice E2 i2 j2]).alloc (.cells #[.int .i64 0, .slice G1 k1 l1, .slice G2 k2 l2] 53))
        have hby := Blk.new (w5.alloc (.cells #[.int .i64 0, .slice E1 i1 j1, .slice E2 i2 j2] 53)) 53 #[.int .i64 0, .slice G1 k1 l1, .slice G2 k2 l2]
        simp only [World.size_alloc] at hby
        have HBY := Lib.hid hby
        clear hby
        have HVw6 := Lib.hid (HVw5.out.mv hb); have GVw6 := Lib.hid (GVw5.out.mv hb); clear HVw5 GVw5
        have HG5 := Lib.hid (show T < w5.heap.size ∧ U < w5.heap.size from ⟨HBTw5.out.lt, HBUw5.out.lt⟩)
        have HWw6 := Lib.hid (HWw5.out.trans (hb.mono HGw5.out)); have HGw6 := Lib.hid (Nat.le_trans HGw5.out hb.size)
        have HB0w6 := Lib.hid (HB0w5.out.below hb HB0w5.out.lt); have HB1w6 := Lib.hid (HB1w5.out.below hb HB1w5.out.lt); have HB2w6 := Lib.hid (HB2w5.out.below hb HB2w5.out.lt); have HB3w6 := Lib.hid (HB3w5.out.below hb HB3w5.out.lt); have HBTw6 := Lib.hid (HBTw5.out.below hb HBTw5.out.lt); have HBUw6 := Lib.hid (HBUw5.out.below hb HBUw5.out.lt)
        clear hb HWw5 HGw5 HB0w5 HB1w5 HB2w5 HB3w5 HBTw5 HBUw5
        generalize ((w5.alloc (.cells #[.int .i64 0, .slice E1 i1 j1, .slice E2 i2 j2] 53)).alloc (.cells #[.int .i64 0, .slice G1 k1 l1, .slice G2 k2 l2] 53)) = w6 at *
        generalize w5.heap.size = g5 at *
        have x0 : w6.cell? ⟨g, 0, none⟩ = some (.int .i64 p.k) := HB0w6.out.cell 0 rfl; have x1 : w6.cell? ⟨g, 1, none⟩ = some (strV p.nm) := HB0w6.out.cell 1 rfl; have x2 : w6.cell? ⟨g, 2, none⟩ = some (strV p.to) := HB0w6.out.cell 2 rfl; have x3 : w6.cell? ⟨g, 3, none⟩ = some (.int .i64 p.h.pos) := HB0w6.out.cell 3 rfl; have x4 : w6.cell? ⟨g, 4, none⟩ = some (.slice A n c) := HB0w6.out.cell 4 rfl; have x5 : w6.cell? ⟨g, 5, none⟩ = some (.slice A' n' c') := HB0w6.out.cell 5 rfl
        have y0 : w6.cell? ⟨g + 1, 0, none⟩ = some (.int .i64 q.k) := HB1w6.out.cell 0 rfl; have y1 : w6.cell? ⟨g + 1, 1, none⟩ = some (strV q.nm) := HB1w6.out.cell 1 rfl; have y2 : w6.cell? ⟨g + 1, 2, none⟩ = some (strV q.to) := HB1w6.out.cell 2 rfl; have y3 : w6.cell? ⟨g + 1, 3, none⟩ = some (.int .i64 q.h.pos) := HB1w6.out.cell 3 rfl; have y4 : w6.cell? ⟨g + 1, 4, none⟩ = some (.slice D m k) := HB1w6.out.cell 4 rfl; have y5 : w6.cell? ⟨g + 1, 5, none⟩ = some (.slice D' m' k') := HB1w6.out.cell 5 rfl
        have e3 := name_ne HBP.out HBQ.out (.inl H3.out.1)
        have e4 : (q.k == 2) = false := by rw [beq_eq_false_iff_ne]; have := H3.out.2; omega
        have u0 : w6.cell? ⟨g + 2, 0, none⟩ = some (.int .i64 0) := HB2w6.out.cell 0 rfl; have u1 : w6.cell? ⟨g + 2, 1, none⟩ = some (strV []) := HB2w6.out.cell 1 rfl; have u2 : w6.cell? ⟨g + 2, 2, none⟩ = some (strV []) := HB2w6.out.cell 2 rfl; have u3 : w6.cell? ⟨g + 2, 3, none⟩ = some (.int .i64 0) := HB2w6.out.cell 3 rfl; have u4 : w6.cell? ⟨g + 2, 4, none⟩ = some (.slice none 0 0) := HB2w6.out.cell 4 rfl; have u5 : w6.cell? ⟨g + 2, 5, none⟩ = some (.slice none 0 0) := HB2w6.out.cell 5 rfl
        have v0 : w6.cell? ⟨g + 3, 0, none⟩ = some (.int .i64 0) := HB3w6.out.cell 0 rfl; have v1 : w6.cell? ⟨g + 3, 1, none⟩ = some (strV []) := HB3w6.out.cell 1 rfl; have v2 : w6.cell? ⟨g + 3, 2, none⟩ = some (strV []) := HB3w6.out.cell 2 rfl; have v3 : w6.cell? ⟨g + 3, 3, none⟩ = some (.int .i64 0) := HB3w6.out.cell 3 rfl; have v4 : w6.cell? ⟨g + 3, 4, none⟩ = some (.slice none 0 0) := HB3w6.out.cell 4 rfl; have v5 : w6.cell? ⟨g + 3, 5, none⟩ = some (.slice none 0 0) := HB3w6.out.cell 5 rfl
        have f0 : w6.frozen? ⟨g + 2, 0, none⟩ = false := HB2w6.out.frozen 0; have f1 : w6.frozen? ⟨g + 2, 1, none⟩ = false := HB2w6.out.frozen 1; have f2 : w6.frozen? ⟨g + 2, 2, none⟩ = false := HB2w6.out.frozen 2; have f3 : w6.frozen? ⟨g + 2, 3, none⟩ = false := HB2w6.out.frozen 3; have f4 : w6.frozen? ⟨g + 2, 4, none⟩ = false := HB2w6.out.frozen 4; have f5 : w6.frozen? ⟨g + 2, 5, none⟩ = false := HB2w6.out.frozen 5
        have h0 : w6.frozen? ⟨g + 3, 0, none⟩ = false := HB3w6.out.frozen 0; have h1 : w6.frozen? ⟨g + 3, 1, none⟩ = false := HB3w6.out.frozen 1; have h2 : w6.frozen? ⟨g + 3, 2, none⟩ = false := HB3w6.out.frozen 2; have h3 : w6.frozen? ⟨g + 3, 3, none⟩ = false := HB3w6.out.frozen 3; have h4 : w6.frozen? ⟨g + 3, 4, none⟩ = false := HB3w6.out.frozen 4; have h5 : w6.frozen? ⟨g + 3, 5, none⟩ = false := HB3w6.out.frozen 5
        go_wp2_with fail
        obtain ⟨z2, z3⟩ := two_set6 HB2w6.out HB3w6.out (by omega) (.int .i64 0) (strV []) (strV []) (.int .i64 0) (.slice none 0 0) (.slice none 0 0) (.int .i64 0) (strV []) (strV []) (.int .i64 0) (.slice none 0 0) (.slice none 0 0)
        have hb6 := below_set12 (b := g + 2) (b' := g + 3) HWw6.out (by omega) (by omega) (.int .i64 0) (strV []) (strV []) (.int .i64 0) (.slice none 0 0) (.slice none 0 0) (.int .i64 0) (strV []) (strV []) (.int .i64 0) (.slice none 0 0) (.slice none 0 0)
        generalize (World.setCell (World.setCell (World.setCell (World.setCell (World.setCell (World.setCell (World.setCell (World.setCell (World.setCell (World.setCell (World.setCell (World.setCell w6 ⟨g + 2, 0, none⟩ (.int .i64 0)) ⟨g + 2, 1, none⟩ (strV [])) ⟨g + 2, 2, none⟩ (strV [])) ⟨g + 2, 3, none⟩ (.int .i64 0)) ⟨g + 2, 4, none⟩ (.slice none 0 0)) ⟨g + 2, 5, none⟩ (.slice none 0 0)) ⟨g + 3, 0, none⟩ (.int .i64 0)) ⟨g + 3, 1, none⟩ (strV [])) ⟨g + 3, 2, none⟩ (strV [])) ⟨g + 3, 3, none⟩ (.int .i64 0)) ⟨g + 3, 4, none⟩ (.slice none 0 0)) ⟨g + 3, 5, none⟩ (.slice none 0 0)) = W3 at *
        clear u0 u1 u2 u3 u4 u5 v0 v1 v2 v3 v4 v5 f0 f1 f2 f3 f4 f5 h0 h1 h2 h3 h4 h5
        have u0 : W3.cell? ⟨g + 2, 0, none⟩ = some (.int .i64 0) := z2.cell 0 rfl; have u1 : W3.cell? ⟨g + 2, 1, none⟩ = some (strV []) := z2.cell 1 rfl; have u2 : W3.cell? ⟨g + 2, 2, none⟩ = some (strV []) := z2.cell 2 rfl; have u3 : W3.cell? ⟨g + 2, 3, none⟩ = some (.int .i64 0) := z2.cell 3 rfl; have u4 : W3.cell? ⟨g + 2, 4, none⟩ = some (.slice none 0 0) := z2.cell 4 rfl; have u5 : W3.cell? ⟨g + 2, 5, none⟩ = some (.slice none 0 0) := z2.cell 5 rfl
        have v0 : W3.cell? ⟨g + 3, 0, none⟩ = some (.int .i64 0) := z3.cell 0 rfl; have v1 : W3.cell? ⟨g + 3, 1, none⟩ = some (strV []) := z3.cell 1 rfl; have v2 : W3.cell? ⟨g + 3, 2, none⟩ = some (strV []) := z3.cell 2 rfl; have v3 : W3.cell? ⟨g + 3, 3, none⟩ = some (.int .i64 0) := z3.cell 3 rfl; have v4 : W3.cell? ⟨g + 3, 4, none⟩ = some (.slice none 0 0) := z3.cell 4 rfl; have v5 : W3.cell? ⟨g + 3, 5, none⟩ = some (.slice none 0 0) := z3.cell 5 rfl
        try rw [Exit.noGoto_ret]
        refine bodyPost_ret (v := .tuple #[.agg #[.int .i64 0, strV [], strV [], .int .i64 0, .slice none 0 0, .slice none 0 0], .agg #[.int .i64 0, strV [], strV [], .int .i64 0, .slice none 0 0, .slice none 0 0], .bool false]) (by simp [results, Tryz.results58, go_sem, u0, v0, u1, v1, u2, v2, u3, v3, u4, v4, u5, v5]) rfl ?_
        have hW : Below w.heap.size w W3 := by rw [HGS.out]; exact hb6
        exact ppEndH_none HO.out HBB.out HN.out hW
      | some z =>
        obtain ⟨hx, hy⟩ := z
        have HS : Hid (passP p q = some (⟨q.k, q.nm, q.to, hx⟩, ⟨p.k, p.nm, p.to, hy⟩)) := Lib.hid (by rw [passP_b HBP.out HBQ.out HBA.out H3.out.1 H3.out.2, hz]; rfl)
        have hz0 : Sw.outH (Sw.passH p.h q.h) = (hx, hy) := by rw [hz]; rfl
        obtain ⟨E1, i1, j1, E2, i2, j2, G1, k1, l1, G2, k2, l2, he, v1, v2, hhi, _⟩ := hend
        rw [hz0, hz] at he
        rw [hz0] at v1 v2
        have he' : e = .returned (.tuple #[Hk.hkV hx.pos E1 i1 j1 E2 i2 j2, Hk.hkV hy.pos G1 k1 l1 G2 k2 l2, .bool true]) := he
        replace v1 : HV w5 w5.heap.size E1 i1 j1 E2 i2 j2 hx := v1
        replace v2 : HV w5 w5.heap.size G1 k1 l1 G2 k2 l2 hy := v2
        clear he
        subst he'
        obtain ⟨_, r1, r2, r3, r4⟩ := Sw.pass_moves (x := hx) (y := hy) (Sw.passH_may hz).2.2.1
        have gl2 : (i1 ≤ 1000 ∧ i2 ≤ 1000) ∧ (k1 ≤ 1000 ∧ k2 ≤ 1000) := by
          have a1 := v1.l; have a2 := v1.l'; have a3 := v2.l; have a4 := v2.l'
          have b1 := GV0.out.h.l; have b2 := GV0.out.h.l'; have b3 := HV0.out.h.l; have b4 := HV0.out.h.l'
          have c1 := HL.out; have c2 := GL.out
          rw [r1] at a1; rw [r2] at a2; rw [r3] at a3; rw [r4] at a4
          omega
        have GL2 := Lib.hid gl2
        have V1 : Hid (PV w5 w5.heap.size E1 i1 j1 E2 i2 j2 ⟨q.k, q.nm, q.to, hx⟩) := Lib.hid (GV0.out.hunk v1 r1 r2)
        have V2 : Hid (PV w5 w5.heap.size G1 k1 l1 G2 k2 l2 ⟨p.k, p.nm, p.to, hy⟩) := Lib.hid (HV0.out.hunk v2 r3 r4)
        have hhi1 : Hi w4.heap.size E1 ∧ Hi w4.heap.size E2 ∧ Hi w4.heap.size G1 ∧ Hi w4.heap.size G2 := hhi
        have HHI := Lib.hid (And.intro hhi1 (And.intro HBTw4.out.lt HBUw4.out.lt))
        clear hz hz0 r1 r2 r3 r4 v1 v2 gl2 hhi hhi1
        have HVw5 := Lib.hid (HVw4.out.mv hb); have GVw5 := Lib.hid (GVw4.out.mv hb); clear HVw4 GVw4
        have HWw5 := Lib.hid (HWw4.out.trans (hb.mono HGw4.out)); have HGw5 := Lib.hid (Nat.le_trans HGw4.out hb.size)
        have HB0w5 := Lib.hid (HB0w4.out.below hb HB0w4.out.lt); have HB1w5 := Lib.hid (HB1w4.out.below hb HB1w4.out.lt); have HB2w5 := Lib.hid (HB2w4.out.below hb HB2w4.out.lt); have HB3w5 := Lib.hid (HB3w4.out.below hb HB3w4.out.lt); have HBTw5 := Lib.hid (HBTw4.out.below hb HBTw4.out.lt); have HBUw5 := Lib.hid (HBUw4.out.below hb HBUw4.out.lt)
        clear hb HWw4 HGw4 HB0w4 HB1w4 HB2w4 HB3w4 HBTw4 HBUw4
        go_upto_region 10 with fail
        have hb : Below w5.heap.size w5 ((w5.alloc (.cells #[.int .i64 hx.pos, .slice E1 i1 j1, .slice E2 i2 j2] 53)).alloc (.cells #[.int .i64 hy.pos, .slice G1 k1 l1, .slice G2 k2 l2] 53)) := two_box _ _ _
        have HBX := Lib.hid ((Blk.new w5 53 #[.int .i64 hx.pos, .slice E1 i1 j1, .slice E2 i2 j2]).alloc (.cells #[.int .i64 hy.pos, .slice G1 k1 l1, .slice G2 k2 l2] 53))
        have hby := Blk.new (w5.alloc (.cells #[.int .i64 hx.pos, .slice E1 i1 j1, .slice E2 i2 j2] 53)) 53 #[.int .i64 hy.pos, .slice G1 k1 l1, .slice G2 k2 l2]
        simp only [World.size_alloc] at hby
        have HBY := Lib.hid hby
        clear hby
        have HVw6 := Lib.hid (HVw5.out.mv hb); have GVw6 := Lib.hid (GVw5.out.mv hb); clear HVw5 GVw5
        have HG5 := Lib.hid (show T < w5.heap.size ∧ U < w5.heap.size from ⟨HBTw5.out.lt, HBUw5.out.lt⟩)
        have V1w6 := Lib.hid (V1.out.mv hb); have V2w6 := Lib.hid (V2.out.mv hb); clear V1 V2
        have HWw6 := Lib.hid (HWw5.out.trans (hb.mono HGw5.out)); have HGw6 := Lib.hid (Nat.le_trans HGw5.out hb.size)
        have HB0w6 := Lib.hid (HB0w5.out.below hb HB0w5.out.lt); have HB1w6 := Lib.hid (HB1w5.out.below hb HB1w5.out.lt); have HB2w6 := Lib.hid (HB2w5.out.below hb HB2w5.out.lt); have HB3w6 := Lib.hid (HB3w5.out.below hb HB3w5.out.lt); have HBTw6 := Lib.hid (HBTw5.out.below hb HBTw5.out.lt); have HBUw6 := Lib.hid (HBUw5.out.below hb HBUw5.out.lt)
        clear hb HWw5 HGw5 HB0w5 HB1w5 HB2w5 HB3w5 HBTw5 HBUw5
        generalize ((w5.alloc (.cells #[.int .i64 hx.pos, .slice E1 i1 j1, .slice E2 i2 j2] 53)).alloc (.cells #[.int .i64 hy.pos, .slice G1 k1 l1, .slice G2 k2 l2] 53)) = w6 at *
        generalize w5.heap.size = g5 at *
        have a0 : w6.cell? ⟨g5, 0, none⟩ = some (.int .i64 hx.pos) := HBX.out.cell 0 rfl; have a1 : w6.cell? ⟨g5, 1, none⟩ = some (.slice E1 i1 j1) := HBX.out.cell 1 rfl; have a2 : w6.cell? ⟨g5, 2, none⟩ = some (.slice E2 i2 j2) := HBX.out.cell 2 rfl
        have b0 : w6.cell? ⟨g5 + 1, 0, none⟩ = some (.int .i64 hy.pos) := HBY.out.cell 0 rfl; have b1 : w6.cell? ⟨g5 + 1, 1, none⟩ = some (.slice G1 k1 l1) := HBY.out.cell 1 rfl; have b2 : w6.cell? ⟨g5 + 1, 2, none⟩ = some (.slice G2 k2 l2) := HBY.out.cell 2 rfl
        have t0 : w6.cell? ⟨T, 0, none⟩ = some (.int .i64 q.k) := HBTw6.out.cell 0 rfl; have t1 : w6.cell? ⟨T, 1, none⟩ = some (strV q.nm) := HBTw6.out.cell 1 rfl; have t2 : w6.cell? ⟨T, 2, none⟩ = some (strV q.to) := HBTw6.out.cell 2 rfl; have t3 : w6.cell? ⟨T, 3, none⟩ = some (.int .i64 q.h.pos) := HBTw6.out.cell 3 rfl; have t4 : w6.cell? ⟨T, 4, none⟩ = some (.slice D m k) := HBTw6.out.cell 4 rfl; have t5 : w6.cell? ⟨T, 5, none⟩ = some (.slice D' m' k') := HBTw6.out.cell 5 rfl
        have s0 : w6.cell? ⟨U, 0, none⟩ = some (.int .i64 p.k) := HBUw6.out.cell 0 rfl; have s1 : w6.cell? ⟨U, 1, none⟩ = some (strV p.nm) := HBUw6.out.cell 1 rfl; have s2 : w6.cell? ⟨U, 2, none⟩ = some (strV p.to) := HBUw6.out.cell 2 rfl; have s3 : w6.cell? ⟨U, 3, none⟩ = some (.int .i64 p.h.pos) := HBUw6.out.cell 3 rfl; have s4 : w6.cell? ⟨U, 4, none⟩ = some (.slice A n c) := HBUw6.out.cell 4 rfl; have s5 : w6.cell? ⟨U, 5, none⟩ = some (.slice A' n' c') := HBUw6.out.cell 5 rfl
        have k3 : w6.frozen? ⟨T, 3, none⟩ = false := HBTw6.out.frozen 3; have k4 : w6.frozen? ⟨T, 4, none⟩ = false := HBTw6.out.frozen 4; have k5 : w6.frozen? ⟨T, 5, none⟩ = false := HBTw6.out.frozen 5
        have l3 : w6.frozen? ⟨U, 3, none⟩ = false := HBUw6.out.frozen 3; have l4 : w6.frozen? ⟨U, 4, none⟩ = false := HBUw6.out.frozen 4; have l5 : w6.frozen? ⟨U, 5, none⟩ = false := HBUw6.out.frozen 5
        have hn1 := HNE.out; have hn2 := HNE.out.symm; have hg5 := HG5.out.1; have hg6 := HG5.out.2
        go_upto_region 11 with fail
        go_region
        go_wp2_with fail
        have HBTw7 := Lib.hid (three_set (b' := U) (blk3 HBTw6.out (.int .i64 hx.pos) (.slice E1 i1 j1) (.slice E2 i2 j2)) HNE.out (.int .i64 hy.pos) (.slice G1 k1 l1) (.slice G2 k2 l2))
        have HBUw7 := Lib.hid (blk3 (three_set (b' := T) HBUw6.out HNE.out.symm (.int .i64 hx.pos) (.slice E1 i1 j1) (.slice E2 i2 j2)) (.int .i64 hy.pos) (.slice G1 k1 l1) (.slice G2 k2 l2))
        have HB2w7 := Lib.hid (three_set (b' := U) (three_set (b' := T) HB2w6.out (by have := HgT.out; omega) (.int .i64 hx.pos) (.slice E1 i1 j1) (.slice E2 i2 j2)) (by have := HgT.out; omega) (.int .i64 hy.pos) (.slice G1 k1 l1) (.slice G2 k2 l2))
        have HB3w7 := Lib.hid (three_set (b' := U) (three_set (b' := T) HB3w6.out (by have := HgT.out; omega) (.int .i64 hx.pos) (.slice E1 i1 j1) (.slice E2 i2 j2)) (by have := HgT.out; omega) (.int .i64 hy.pos) (.slice G1 k1 l1) (.slice G2 k2 l2))
        have HP1 : Hid (PV (World.setCell (World.setCell (World.setCell (World.setCell (World.setCell (World.setCell w6 ⟨T, 3, none⟩ (.int .i64 hx.pos)) ⟨T, 4, none⟩ (.slice E1 i1 j1)) ⟨T, 5, none⟩ (.slice E2 i2 j2)) ⟨U, 3, none⟩ (.int .i64 hy.pos)) ⟨U, 4, none⟩ (.slice G1 k1 l1)) ⟨U, 5, none⟩ (.slice G2 k2 l2)) w6.heap.size E1 i1 j1 E2 i2 j2 ⟨q.k, q.nm, q.to, hx⟩) := Lib.hid ((((((V1w6.out.hi HHI.out.1.1 HHI.out.1.2.1 HHI.out.2.1 3 _).hi HHI.out.1.1 HHI.out.1.2.1 HHI.out.2.1 4 _).hi HHI.out.1.1 HHI.out.1.2.1 HHI.out.2.1 5 _).hi HHI.out.1.1 HHI.out.1.2.1 HHI.out.2.2 3 _).hi HHI.out.1.1 HHI.out.1.2.1 HHI.out.2.2 4 _).hi HHI.out.1.1 HHI.out.1.2.1 HHI.out.2.2 5 _)
        have HP2 : Hid (PV (World.setCell (World.setCell (World.setCell (World.setCell (World.setCell (World.setCell w6 ⟨T, 3, none⟩ (.int .i64 hx.pos)) ⟨T, 4, none⟩ (.slice E1 i1 j1)) ⟨T, 5, none⟩ (.slice E2 i2 j2)) ⟨U, 3, none⟩ (.int .i64 hy.pos)) ⟨U, 4, none⟩ (.slice G1 k1 l1)) ⟨U, 5, none⟩ (.slice G2 k2 l2)) w6.heap.size G1 k1 l1 G2 k2 l2 ⟨p.k, p.nm, p.to, hy⟩) := Lib.hid ((((((V2w6.out.hi HHI.out.1.2.2.1 HHI.out.1.2.2.2 HHI.out.2.1 3 _).hi HHI.out.1.2.2.1 HHI.out.1.2.2.2 HHI.out.2.1 4 _).hi HHI.out.1.2.2.1 HHI.out.1.2.2.2 HHI.out.2.1 5 _).hi HHI.out.1.2.2.1 HHI.out.1.2.2.2 HHI.out.2.2 3 _).hi HHI.out.1.2.2.1 HHI.out.1.2.2.2 HHI.out.2.2 4 _).hi HHI.out.1.2.2.1 HHI.out.1.2.2.2 HHI.out.2.2 5 _)
        have HWw7 : Hid (Below g w (World.setCell (World.setCell (World.setCell (World.setCell (World.setCell (World.setCell w6 ⟨T, 3, none⟩ (.int .i64 hx.pos)) ⟨T, 4, none⟩ (.slice E1 i1 j1)) ⟨T, 5, none⟩ (.slice E2 i2 j2)) ⟨U, 3, none⟩ (.int .i64 hy.pos)) ⟨U, 4, none⟩ (.slice G1 k1 l1)) ⟨U, 5, none⟩ (.slice G2 k2 l2))) := Lib.hid ((((((HWw6.out.setCell (p := ⟨T, 3, none⟩) (by have := HgT.out; show g ≤ T; omega) (.int .i64 hx.pos)).setCell (p := ⟨T, 4, none⟩) (by have := HgT.out; show g ≤ T; omega) (.slice E1 i1 j1)).setCell (p := ⟨T, 5, none⟩) (by have := HgT.out; show g ≤ T; omega) (.slice E2 i2 j2)).setCell (p := ⟨U, 3, none⟩) (by have := HgT.out; show g ≤ U; omega) (.int .i64 hy.pos)).setCell (p := ⟨U, 4, none⟩) (by have := HgT.out; show g ≤ U; omega) (.slice G1 k1 l1)).setCell (p := ⟨U, 5, none⟩) (by have := HgT.out; show g ≤ U; omega) (.slice G2 k2 l2))
        have HSZ : Hid ((World.setCell (World.setCell (World.setCell (World.setCell (World.setCell (World.setCell w6 ⟨T, 3, none⟩ (.int .i64 hx.pos)) ⟨T, 4, none⟩ (.slice E1 i1 j1)) ⟨T, 5, none⟩ (.slice E2 i2 j2)) ⟨U, 3, none⟩ (.int .i64 hy.pos)) ⟨U, 4, none⟩ (.slice G1 k1 l1)) ⟨U, 5, none⟩ (.slice G2 k2 l2)).heap.size = w6.heap.size) := Lib.hid (by simp)
        go_meet
        first
          | (exact ⟨_, _, E1, i1, j1, E2, i2, j2, G1, k1, l1, G2, k2, l2, HS.out, (HBTw7.out.drewN 1), (HBUw7.out.drewN 1), (HB2w7.out.drewN 1), (HB3w7.out.drewN 1), ((HP1.out.drewN 1)).up (Nat.le_of_eq HSZ.out.symm), ((HP2.out.drewN 1)).up (Nat.le_of_eq HSZ.out.symm), GL2.out.1, GL2.out.2, (below_drewN HWw7.out 1)⟩)
          | (exact ⟨_, _, E1, i1, j1, E2, i2, j2, G1, k1, l1, G2, k2, l2, HS.out, HBTw7.out, HBUw7.out, HB2w7.out, HB3w7.out, (HP1.out).up (Nat.le_of_eq HSZ.out.symm), (HP2.out).up (Nat.le_of_eq HSZ.out.symm), GL2.out.1, GL2.out.2, HWw7.out⟩)
    by_cases hi : q.k = 2 ∧ (p.k = 3 ∨ p.k = 4) ∧ p.nm = q.nm
    · have e4 : (q.k == 2) = true := by simpa using hi.1
      have e5 : (q.nm == p.nm) = true := by simpa using hi.2.2.symm
      have e6 : (q.k == 3) = false := by rw [beq_eq_false_iff_ne]; have := hi.1; omega
      have HS : Hid (passP p q = some (q, ⟨p.k, q.to, p.to, p.h⟩)) := Lib.hid (passP_i HBP.out HBQ.out HBA.out hi.1 hi.2.1 hi.2.2)
      have HI := Lib.hid hi
      clear hi h3
      have s0 : w4.cell? ⟨U, 0, none⟩ = some (.int .i64 p.k) := HBUw4.out.cell 0 rfl; have s1 : w4.cell? ⟨U, 1, none⟩ = some (strV p.nm) := HBUw4.out.cell 1 rfl; have s2 : w4.cell? ⟨U, 2, none⟩ = some (strV p.to) := HBUw4.out.cell 2 rfl; have s3 : w4.cell? ⟨U, 3, none⟩ = some (.int .i64 p.h.pos) := HBUw4.out.cell 3 rfl; have s4 : w4.cell? ⟨U, 4, none⟩ = some (.slice A n c) := HBUw4.out.cell 4 rfl; have s5 : w4.cell? ⟨U, 5, none⟩ = some (.slice A' n' c') := HBUw4.out.cell 5 rfl
      have l1 : w4.frozen? ⟨U, 1, none⟩ = false := HBUw4.out.frozen 1
      have HBUw6 := Lib.hid (show Blk (World.setCell w4 ⟨U, 1, none⟩ (strV q.to)) U 55 #[.int .i64 p.k, strV q.to, strV p.to, .int .i64 p.h.pos, .slice A n c, .slice A' n' c'] from HBUw4.out.set 1 (strV q.to))
      have HBTw6 := Lib.hid (HBTw4.out.set_ne HNE.out 1 (strV q.to))
      have HB2w6 := Lib.hid (HB2w4.out.set_ne (show g + 2 ≠ U from by have := HgT.out; omega) 1 (strV q.to))
      have HB3w6 := Lib.hid (HB3w4.out.set_ne (show g + 3 ≠ U from by have := HgT.out; omega) 1 (strV q.to))
      have HWw6 := Lib.hid (HWw4.out.setCell (p := ⟨U, 1, none⟩) (by have := HgT.out; show g ≤ U; omega) (strV q.to))
      have hw6 : Below w.heap.size w (World.setCell w4 ⟨U, 1, none⟩ (strV q.to)) := by rw [HGS.out]; exact HWw6.out
      have HP1 := Lib.hid (GV0.out.mv hw6); have HP2 := Lib.hid ((HV0.out.mv hw6).name q.to GV0.out.to)
      clear hw6
      rcases (show (p.k == 3) = true ∨ (p.k == 3) = false ∧ (p.k == 4) = true from by
        rcases HI.out.2.1 with h | h
        · exact .inl (by simpa using h)
        · exact .inr ⟨by rw [beq_eq_false_iff_ne]; omega, by simpa using h⟩) with e1 | ⟨e1, e2⟩
      all_goals
        go_wp2_with fail
        go_meet
        exact ⟨_, _, D, m, k, D', m', k', A, n, c, A', n', c', HS.out, HBTw6.out, HBUw6.out, HB2w6.out, HB3w6.out, HP1.out, HP2.out, GL.out, HL.out, HWw6.out⟩
    by_cases ho : p.k = 2 ∧ (q.k = 3 ∨ q.k = 4) ∧ q.nm = p.to
    · have e1 : (p.k == 3) = false := by rw [beq_eq_false_iff_ne]; have := ho.1; omega
      have e2 : (p.k == 4) = false := by rw [beq_eq_false_iff_ne]; have := ho.1; omega
      have e3 : (p.k == 2) = true := by simpa using ho.1
      have e5 : (q.nm == p.to) = true := by simpa using ho.2.2
      have HS : Hid (passP p q = some (⟨q.k, p.nm, q.to, q.h⟩, p)) := Lib.hid (passP_o HBP.out HBQ.out HBA.out ho.1 ho.2.1 ho.2.2)
      have HO1 := Lib.hid ho
      clear hi ho h3
      have t0 : w4.cell? ⟨T, 0, none⟩ = some (.int .i64 q.k) := HBTw4.out.cell 0 rfl; have t1 : w4.cell? ⟨T, 1, none⟩ = some (strV q.nm) := HBTw4.out.cell 1 rfl; have t2 : w4.cell? ⟨T, 2, none⟩ = some (strV q.to) := HBTw4.out.cell 2 rfl; have t3 : w4.cell? ⟨T, 3, none⟩ = some (.int .i64 q.h.pos) := HBTw4.out.cell 3 rfl; have t4 : w4.cell? ⟨T, 4, none⟩ = some (.slice D m k) := HBTw4.out.cell 4 rfl; have t5 : w4.cell? ⟨T, 5, none⟩ = some (.slice D' m' k') := HBTw4.out.cell 5 rfl
      have l1 : w4.frozen? ⟨T, 1, none⟩ = false := HBTw4.out.frozen 1
      have HBTw6 := Lib.hid (show Blk (World.setCell w4 ⟨T, 1, none⟩ (strV p.nm)) T 55 #[.int .i64 q.k, strV p.nm, strV q.to, .int .i64 q.h.pos, .slice D m k, .slice D' m' k'] from HBTw4.out.set 1 (strV p.nm))
      have HBUw6 := Lib.hid (HBUw4.out.set_ne HNE.out.symm 1 (strV p.nm))
      have HB2w6 := Lib.hid (HB2w4.out.set_ne (show g + 2 ≠ T from by have := HgT.out; omega) 1 (strV p.nm))
      have HB3w6 := Lib.hid (HB3w4.out.set_ne (show g + 3 ≠ T from by have := HgT.out; omega) 1 (strV p.nm))
      have HWw6 := Lib.hid (HWw4.out.setCell (p := ⟨T, 1, none⟩) (by have := HgT.out; show g ≤ T; omega) (strV p.nm))
      have hw6 : Below w.heap.size w (World.setCell w4 ⟨T, 1, none⟩ (strV p.nm)) := by rw [HGS.out]; exact HWw6.out
      have HP1 := Lib.hid ((GV0.out.mv hw6).name p.nm HV0.out.nm); have HP2 := Lib.hid (HV0.out.mv hw6)
      clear hw6
      rcases (show (q.k == 3) = true ∨ (q.k == 3) = false ∧ (q.k == 4) = true from by
        rcases HO1.out.2.1 with h | h
        · exact .inl (by simpa using h)
        · exact .inr ⟨by rw [beq_eq_false_iff_ne]; omega, by simpa using h⟩) with e6 | ⟨e6, e7⟩
      all_goals
        go_wp2_with fail
        go_meet
        exact ⟨_, _, D, m, k, D', m', k', A, n, c, A', n', c', HS.out, HBTw6.out, HBUw6.out, HB2w6.out, HB3w6.out, HP1.out, HP2.out, GL.out, HL.out, HWw6.out⟩
    have HN : Hid (passP p q = none) := Lib.hid (passP_n HBA.out h3 ho hi)
    have hw : ((p.k == 3) = true ∧ (q.k == 3) = false ∨ (p.k == 3) = false ∧ (p.k == 4) = true) ∧ (q.nm == p.to) = false ∧ ((q.k == 2) = false ∨ (q.k == 2) = true ∧ (q.nm == p.nm) = false) ∨
        ((p.k == 3) = false ∧ (p.k == 4) = false) ∧ (p.k == 2) = true ∧ ((q.k == 3) = false ∧ (q.k == 4) = false ∨ (q.nm == p.to) = false) ∨
        (p.k == 3) = false ∧ (p.k == 4) = false ∧ (p.k == 2) = false := by
      by_cases k3 : p.k = 3 ∨ p.k = 4
      · refine .inl ⟨?_, name_ne HBP.out HBQ.out k3, ?_⟩
        · rcases k3 with k3 | k3
          · exact .inl ⟨by simpa using k3, by rw [beq_eq_false_iff_ne]; exact fun h => h3 ⟨k3, h⟩⟩
          · exact .inr ⟨by rw [beq_eq_false_iff_ne]; omega, by simpa using k3⟩
        · by_cases k2 : q.k = 2
          · exact .inr ⟨by simpa using k2, by rw [beq_eq_false_iff_ne]; exact fun h => hi ⟨k2, k3, h.symm⟩⟩
          · exact .inl (by simpa using k2)
      · have a3 : (p.k == 3) = false := by rw [beq_eq_false_iff_ne]; omega
        have a4 : (p.k == 4) = false := by rw [beq_eq_false_iff_ne]; omega
        by_cases k2 : p.k = 2
        · refine .inr (.inl ⟨⟨a3, a4⟩, by simpa using k2, ?_⟩)
          by_cases kq : q.k = 3 ∨ q.k = 4
          · exact .inr (by rw [beq_eq_false_iff_ne]; exact fun h => ho ⟨k2, kq, h⟩)
          · exact .inl ⟨by rw [beq_eq_false_iff_ne]; omega, by rw [beq_eq_false_iff_ne]; omega⟩
        · exact .inr (.inr ⟨a3, a4, by simpa using k2⟩)
    clear h3 ho hi
    have HWAY := Lib.hid hw; clear hw
    have hq3 : ∀ z : Bool, z = true ∨ z = false := fun z => by cases z <;> simp
    have HQ3 := Lib.hid (hq3 (q.k == 3)); have HQ4 := Lib.hid (hq3 (q.k == 4)); clear hq3
    rcases HWAY.out with ⟨h1, e5, h2⟩ | ⟨⟨e1, e2⟩, e3, h2⟩ | ⟨e1, e2, e3⟩
    · rcases h1 with ⟨e1, e2⟩ | ⟨e1, e2⟩ <;> rcases h2 with e6 | ⟨e6, e7⟩ <;> rcases HQ3.out with c1 | c1 <;> rcases HQ4.out with c2 | c2 <;> try (exfalso; first | exact Bool.false_ne_true (e2.symm.trans c1) | exact k_absurd c1 c2 | exact k_absurd2 c1 e6 | exact k_absurd3 c2 e6; done)
      all_goals
        have u0 : w4.cell? ⟨g + 2, 0, none⟩ = some (.int .i64 0) := HB2w4.out.cell 0 rfl; have u1 : w4.cell? ⟨g + 2, 1, none⟩ = some (strV []) := HB2w4.out.cell 1 rfl; have u2 : w4.cell? ⟨g + 2, 2, none⟩ = some (strV []) := HB2w4.out.cell 2 rfl; have u3 : w4.cell? ⟨g + 2, 3, none⟩ = some (.int .i64 0) := HB2w4.out.cell 3 rfl; have u4 : w4.cell? ⟨g + 2, 4, none⟩ = some (.slice none 0 0) := HB2w4.out.cell 4 rfl; have u5 : w4.cell? ⟨g + 2, 5, none⟩ = some (.slice none 0 0) := HB2w4.out.cell 5 rfl
        have v0 : w4.cell? ⟨g + 3, 0, none⟩ = some (.int .i64 0) := HB3w4.out.cell 0 rfl; have v1 : w4.cell? ⟨g + 3, 1, none⟩ = some (strV []) := HB3w4.out.cell 1 rfl; have v2 : w4.cell? ⟨g + 3, 2, none⟩ = some (strV []) := HB3w4.out.cell 2 rfl; have v3 : w4.cell? ⟨g + 3, 3, none⟩ = some (.int .i64 0) := HB3w4.out.cell 3 rfl; have v4 : w4.cell? ⟨g + 3, 4, none⟩ = some (.slice none 0 0) := HB3w4.out.cell 4 rfl; have v5 : w4.cell? ⟨g + 3, 5, none⟩ = some (.slice none 0 0) := HB3w4.out.cell 5 rfl
        have f0 : w4.frozen? ⟨g + 2, 0, none⟩ = false := HB2w4.out.frozen 0; have f1 : w4.frozen? ⟨g + 2, 1, none⟩ = false := HB2w4.out.frozen 1; have f2 : w4.frozen? ⟨g + 2, 2, none⟩ = false := HB2w4.out.frozen 2; have f3 : w4.frozen? ⟨g + 2, 3, none⟩ = false := HB2w4.out.frozen 3; have f4 : w4.frozen? ⟨g + 2, 4, none⟩ = false := HB2w4.out.frozen 4; have f5 : w4.frozen? ⟨g + 2, 5, none⟩ = false := HB2w4.out.frozen 5
        have h0 : w4.frozen? ⟨g + 3, 0, none⟩ = false := HB3w4.out.frozen 0; have h1 : w4.frozen? ⟨g + 3, 1, none⟩ = false := HB3w4.out.frozen 1; have h2 : w4.frozen? ⟨g + 3, 2, none⟩ = false := HB3w4.out.frozen 2; have h3 : w4.frozen? ⟨g + 3, 3, none⟩ = false := HB3w4.out.frozen 3; have h4 : w4.frozen? ⟨g + 3, 4, none⟩ = false := HB3w4.out.frozen 4; have h5 : w4.frozen? ⟨g + 3, 5, none⟩ = false := HB3w4.out.frozen 5
        go_wp2_with fail
        obtain ⟨z2, z3⟩ := two_set6 HB2w4.out HB3w4.out (by omega) (.int .i64 0) (strV []) (strV []) (.int .i64 0) (.slice none 0 0) (.slice none 0 0) (.int .i64 0) (strV []) (strV []) (.int .i64 0) (.slice none 0 0) (.slice none 0 0)
        have hb6 := below_set12 (b := g + 2) (b' := g + 3) HWw4.out (by omega) (by omega) (.int .i64 0) (strV []) (strV []) (.int .i64 0) (.slice none 0 0) (.slice none 0 0) (.int .i64 0) (strV []) (strV []) (.int .i64 0) (.slice none 0 0) (.slice none 0 0)
        generalize (World.setCell (World.setCell (World.setCell (World.setCell (World.setCell (World.setCell (World.setCell (World.setCell (World.setCell (World.setCell (World.setCell (World.setCell w4 ⟨g + 2, 0, none⟩ (.int .i64 0)) ⟨g + 2, 1, none⟩ (strV [])) ⟨g + 2, 2, none⟩ (strV [])) ⟨g + 2, 3, none⟩ (.int .i64 0)) ⟨g + 2, 4, none⟩ (.slice none 0 0)) ⟨g + 2, 5, none⟩ (.slice none 0 0)) ⟨g + 3, 0, none⟩ (.int .i64 0)) ⟨g + 3, 1, none⟩ (strV [])) ⟨g + 3, 2, none⟩ (strV [])) ⟨g + 3, 3, none⟩ (.int .i64 0)) ⟨g + 3, 4, none⟩ (.slice none 0 0)) ⟨g + 3, 5, none⟩ (.slice none 0 0)) = W3 at *
        clear u0 u1 u2 u3 u4 u5 v0 v1 v2 v3 v4 v5 f0 f1 f2 f3 f4 f5 h0 h1 h2 h3 h4 h5
        have u0 : W3.cell? ⟨g + 2, 0, none⟩ = some (.int .i64 0) := z2.cell 0 rfl; have u1 : W3.cell? ⟨g + 2, 1, none⟩ = some (strV []) := z2.cell 1 rfl; have u2 : W3.cell? ⟨g + 2, 2, none⟩ = some (strV []) := z2.cell 2 rfl; have u3 : W3.cell? ⟨g + 2, 3, none⟩ = some (.int .i64 0) := z2.cell 3 rfl; have u4 : W3.cell? ⟨g + 2, 4, none⟩ = some (.slice none 0 0) := z2.cell 4 rfl; have u5 : W3.cell? ⟨g + 2, 5, none⟩ = some (.slice none 0 0) := z2.cell 5 rfl
        have v0 : W3.cell? ⟨g + 3, 0, none⟩ = some (.int .i64 0) := z3.cell 0 rfl; have v1 : W3.cell? ⟨g + 3, 1, none⟩ = some (strV []) := z3.cell 1 rfl; have v2 : W3.cell? ⟨g + 3, 2, none⟩ = some (strV []) := z3.cell 2 rfl; have v3 : W3.cell? ⟨g + 3, 3, none⟩ = some (.int .i64 0) := z3.cell 3 rfl; have v4 : W3.cell? ⟨g + 3, 4, none⟩ = some (.slice none 0 0) := z3.cell 4 rfl; have v5 : W3.cell? ⟨g + 3, 5, none⟩ = some (.slice none 0 0) := z3.cell 5 rfl
        try rw [Exit.noGoto_ret]
        refine bodyPost_ret (v := .tuple #[.agg #[.int .i64 0, strV [], strV [], .int .i64 0, .slice none 0 0, .slice none 0 0], .agg #[.int .i64 0, strV [], strV [], .int .i64 0, .slice none 0 0, .slice none 0 0], .bool false]) (by simp [results, Tryz.results58, go_sem, u0, v0, u1, v1, u2, v2, u3, v3, u4, v4, u5, v5]) rfl ?_
        have hW : Below w.heap.size w W3 := by rw [HGS.out]; exact hb6
        exact ppEndH_none HO.out HBB.out HN.out hW
    · rcases HQ3.out with c1 | c1 <;> rcases HQ4.out with c2 | c2 <;> rcases h2 with ⟨e5, e6⟩ | e5 <;> try (exfalso; first | exact Bool.false_ne_true (e5.symm.trans c1) | exact Bool.false_ne_true (e6.symm.trans c2) | exact k_absurd c1 c2; done)
      all_goals
        have u0 : w4.cell? ⟨g + 2, 0, none⟩ = some (.int .i64 0) := HB2w4.out.cell 0 rfl; have u1 : w4.cell? ⟨g + 2, 1, none⟩ = some (strV []) := HB2w4.out.cell 1 rfl; have u2 : w4.cell? ⟨g + 2, 2, none⟩ = some (strV []) := HB2w4.out.cell 2 rfl; have u3 : w4.cell? ⟨g + 2, 3, none⟩ = some (.int .i64 0) := HB2w4.out.cell 3 rfl; have u4 : w4.cell? ⟨g + 2, 4, none⟩ = some (.slice none 0 0) := HB2w4.out.cell 4 rfl; have u5 : w4.cell? ⟨g + 2, 5, none⟩ = some (.slice none 0 0) := HB2w4.out.cell 5 rfl
        have v0 : w4.cell? ⟨g + 3, 0, none⟩ = some (.int .i64 0) := HB3w4.out.cell 0 rfl; have v1 : w4.cell? ⟨g + 3, 1, none⟩ = some (strV []) := HB3w4.out.cell 1 rfl; have v2 : w4.cell? ⟨g + 3, 2, none⟩ = some (strV []) := HB3w4.out.cell 2 rfl; have v3 : w4.cell? ⟨g + 3, 3, none⟩ = some (.int .i64 0) := HB3w4.out.cell 3 rfl; have v4 : w4.cell? ⟨g + 3, 4, none⟩ = some (.slice none 0 0) := HB3w4.out.cell 4 rfl; have v5 : w4.cell? ⟨g + 3, 5, none⟩ = some (.slice none 0 0) := HB3w4.out.cell 5 rfl
        have f0 : w4.frozen? ⟨g + 2, 0, none⟩ = false := HB2w4.out.frozen 0; have f1 : w4.frozen? ⟨g + 2, 1, none⟩ = false := HB2w4.out.frozen 1; have f2 : w4.frozen? ⟨g + 2, 2, none⟩ = false := HB2w4.out.frozen 2; have f3 : w4.frozen? ⟨g + 2, 3, none⟩ = false := HB2w4.out.frozen 3; have f4 : w4.frozen? ⟨g + 2, 4, none⟩ = false := HB2w4.out.frozen 4; have f5 : w4.frozen? ⟨g + 2, 5, none⟩ = false := HB2w4.out.frozen 5
        have h0 : w4.frozen? ⟨g + 3, 0, none⟩ = false := HB3w4.out.frozen 0; have h1 : w4.frozen? ⟨g + 3, 1, none⟩ = false := HB3w4.out.frozen 1; have h2 : w4.frozen? ⟨g + 3, 2, none⟩ = false := HB3w4.out.frozen 2; have h3 : w4.frozen? ⟨g + 3, 3, none⟩ = false := HB3w4.out.frozen 3; have h4 : w4.frozen? ⟨g + 3, 4, none⟩ = false := HB3w4.out.frozen 4; have h5 : w4.frozen? ⟨g + 3, 5, none⟩ = false := HB3w4.out.frozen 5
        go_wp2_with fail
        obtain ⟨z2, z3⟩ := two_set6 HB2w4.out HB3w4.out (by omega) (.int .i64 0) (strV []) (strV []) (.int .i64 0) (.slice none 0 0) (.slice none 0 0) (.int .i64 0) (strV []) (strV []) (.int .i64 0) (.slice none 0 0) (.slice none 0 0)
        have hb6 := below_set12 (b := g + 2) (b' := g + 3) HWw4.out (by omega) (by omega) (.int .i64 0) (strV []) (strV []) (.int .i64 0) (.slice none 0 0) (.slice none 0 0) (.int .i64 0) (strV []) (strV []) (.int .i64 0) (.slice none 0 0) (.slice none 0 0)
        generalize (World.setCell (World.setCell (World.setCell (World.setCell (World.setCell (World.setCell (World.setCell (World.setCell (World.setCell (World.setCell (World.setCell (World.setCell w4 ⟨g + 2, 0, none⟩ (.int .i64 0)) ⟨g + 2, 1, none⟩ (strV [])) ⟨g + 2, 2, none⟩ (strV [])) ⟨g + 2, 3, none⟩ (.int .i64 0)) ⟨g + 2, 4, none⟩ (.slice none 0 0)) ⟨g + 2, 5, none⟩ (.slice none 0 0)) ⟨g + 3, 0, none⟩ (.int .i64 0)) ⟨g + 3, 1, none⟩ (strV [])) ⟨g + 3, 2, none⟩ (strV [])) ⟨g + 3, 3, none⟩ (.int .i64 0)) ⟨g + 3, 4, none⟩ (.slice none 0 0)) ⟨g + 3, 5, none⟩ (.slice none 0 0)) = W3 at *
        clear u0 u1 u2 u3 u4 u5 v0 v1 v2 v3 v4 v5 f0 f1 f2 f3 f4 f5 h0 h1 h2 h3 h4 h5
        have u0 : W3.cell? ⟨g + 2, 0, none⟩ = some (.int .i64 0) := z2.cell 0 rfl; have u1 : W3.cell? ⟨g + 2, 1, none⟩ = some (strV []) := z2.cell 1 rfl; have u2 : W3.cell? ⟨g + 2, 2, none⟩ = some (strV []) := z2.cell 2 rfl; have u3 : W3.cell? ⟨g + 2, 3, none⟩ = some (.int .i64 0) := z2.cell 3 rfl; have u4 : W3.cell? ⟨g + 2, 4, none⟩ = some (.slice none 0 0) := z2.cell 4 rfl; have u5 : W3.cell? ⟨g + 2, 5, none⟩ = some (.slice none 0 0) := z2.cell 5 rfl
        have v0 : W3.cell? ⟨g + 3, 0, none⟩ = some (.int .i64 0) := z3.cell 0 rfl; have v1 : W3.cell? ⟨g + 3, 1, none⟩ = some (strV []) := z3.cell 1 rfl; have v2 : W3.cell? ⟨g + 3, 2, none⟩ = some (strV []) := z3.cell 2 rfl; have v3 : W3.cell? ⟨g + 3, 3, none⟩ = some (.int .i64 0) := z3.cell 3 rfl; have v4 : W3.cell? ⟨g + 3, 4, none⟩ = some (.slice none 0 0) := z3.cell 4 rfl; have v5 : W3.cell? ⟨g + 3, 5, none⟩ = some (.slice none 0 0) := z3.cell 5 rfl
        try rw [Exit.noGoto_ret]
        refine bodyPost_ret (v := .tuple #[.agg #[.int .i64 0, strV [], strV [], .int .i64 0, .slice none 0 0, .slice none 0 0], .agg #[.int .i64 0, strV [], strV [], .int .i64 0, .slice none 0 0, .slice none 0 0], .bool false]) (by simp [results, Tryz.results58, go_sem, u0, v0, u1, v1, u2, v2, u3, v3, u4, v4, u5, v5]) rfl ?_
        have hW : Below w.heap.size w W3 := by rw [HGS.out]; exact hb6
        exact ppEndH_none HO.out HBB.out HN.out hW
    ·
      have u0 : w4.cell? ⟨g + 2, 0, none⟩ = some (.int .i64 0) := HB2w4.out.cell 0 rfl; have u1 : w4.cell? ⟨g + 2, 1, none⟩ = some (strV []) := HB2w4.out.cell 1 rfl; have u2 : w4.cell? ⟨g + 2, 2, none⟩ = some (strV []) := HB2w4.out.cell 2 rfl; have u3 : w4.cell? ⟨g + 2, 3, none⟩ = some (.int .i64 0) := HB2w4.out.cell 3 rfl; have u4 : w4.cell? ⟨g + 2, 4, none⟩ = some (.slice none 0 0) := HB2w4.out.cell 4 rfl; have u5 : w4.cell? ⟨g + 2, 5, none⟩ = some (.slice none 0 0) := HB2w4.out.cell 5 rfl
      have v0 : w4.cell? ⟨g + 3, 0, none⟩ = some (.int .i64 0) := HB3w4.out.cell 0 rfl; have v1 : w4.cell? ⟨g + 3, 1, none⟩ = some (strV []) := HB3w4.out.cell 1 rfl; have v2 : w4.cell? ⟨g + 3, 2, none⟩ = some (strV []) := HB3w4.out.cell 2 rfl; have v3 : w4.cell? ⟨g + 3, 3, none⟩ = some (.int .i64 0) := HB3w4.out.cell 3 rfl; have v4 : w4.cell? ⟨g + 3, 4, none⟩ = some (.slice none 0 0) := HB3w4.out.cell 4 rfl; have v5 : w4.cell? ⟨g + 3, 5, none⟩ = some (.slice none 0 0) := HB3w4.out.cell 5 rfl
      have f0 : w4.frozen? ⟨g + 2, 0, none⟩ = false := HB2w4.out.frozen 0; have f1 : w4.frozen? ⟨g + 2, 1, none⟩ = false := HB2w4.out.frozen 1; have f2 : w4.frozen? ⟨g + 2, 2, none⟩ = false := HB2w4.out.frozen 2; have f3 : w4.frozen? ⟨g + 2, 3, none⟩ = false := HB2w4.out.frozen 3; have f4 : w4.frozen? ⟨g + 2, 4, none⟩ = false := HB2w4.out.frozen 4; have f5 : w4.frozen? ⟨g + 2, 5, none⟩ = false := HB2w4.out.frozen 5
      have h0 : w4.frozen? ⟨g + 3, 0, none⟩ = false := HB3w4.out.frozen 0; have h1 : w4.frozen? ⟨g + 3, 1, none⟩ = false := HB3w4.out.frozen 1; have h2 : w4.frozen? ⟨g + 3, 2, none⟩ = false := HB3w4.out.frozen 2; have h3 : w4.frozen? ⟨g + 3, 3, none⟩ = false := HB3w4.out.frozen 3; have h4 : w4.frozen? ⟨g + 3, 4, none⟩ = false := HB3w4.out.frozen 4; have h5 : w4.frozen? ⟨g + 3, 5, none⟩ = false := HB3w4.out.frozen 5
      go_wp2_with fail
      obtain ⟨z2, z3⟩ := two_set6 HB2w4.out HB3w4.out (by omega) (.int .i64 0) (strV []) (strV []) (.int .i64 0) (.slice none 0 0) (.slice none 0 0) (.int .i64 0) (strV []) (strV []) (.int .i64 0) (.slice none 0 0) (.slice none 0 0)
      have hb6 := below_set12 (b := g + 2) (b' := g + 3) HWw4.out (by omega) (by omega) (.int .i64 0) (strV []) (strV []) (.int .i64 0) (.slice none 0 0) (.slice none 0 0) (.int .i64 0) (strV []) (strV []) (.int .i64 0) (.slice none 0 0) (.slice none 0 0)
      generalize (World.setCell (World.setCell (World.setCell (World.setCell (World.setCell (World.setCell (World.setCell (World.setCell (World.setCell (World.setCell (World.setCell (World.setCell w4 ⟨g + 2, 0, none⟩ (.int .i64 0)) ⟨g + 2, 1, none⟩ (strV [])) ⟨g + 2, 2, none⟩ (strV [])) ⟨g + 2, 3, none⟩ (.int .i64 0)) ⟨g + 2, 4, none⟩ (.slice none 0 0)) ⟨g + 2, 5, none⟩ (.slice none 0 0)) ⟨g + 3, 0, none⟩ (.int .i64 0)) ⟨g + 3, 1, none⟩ (strV [])) ⟨g + 3, 2, none⟩ (strV [])) ⟨g + 3, 3, none⟩ (.int .i64 0)) ⟨g + 3, 4, none⟩ (.slice none 0 0)) ⟨g + 3, 5, none⟩ (.slice none 0 0)) = W3 at *
      clear u0 u1 u2 u3 u4 u5 v0 v1 v2 v3 v4 v5 f0 f1 f2 f3 f4 f5 h0 h1 h2 h3 h4 h5
      have u0 : W3.cell? ⟨g + 2, 0, none⟩ = some (.int .i64 0) := z2.cell 0 rfl; have u1 : W3.cell? ⟨g + 2, 1, none⟩ = some (strV []) := z2.cell 1 rfl; have u2 : W3.cell? ⟨g + 2, 2, none⟩ = some (strV []) := z2.cell 2 rfl; have u3 : W3.cell? ⟨g + 2, 3, none⟩ = some (.int .i64 0) := z2.cell 3 rfl; have u4 : W3.cell? ⟨g + 2, 4, none⟩ = some (.slice none 0 0) := z2.cell 4 rfl; have u5 : W3.cell? ⟨g + 2, 5, none⟩ = some (.slice none 0 0) := z2.cell 5 rfl
      have v0 : W3.cell? ⟨g + 3, 0, none⟩ = some (.int .i64 0) := z3.cell 0 rfl; have v1 : W3.cell? ⟨g + 3, 1, none⟩ = some (strV []) := z3.cell 1 rfl; have v2 : W3.cell? ⟨g + 3, 2, none⟩ = some (strV []) := z3.cell 2 rfl; have v3 : W3.cell? ⟨g + 3, 3, none⟩ = some (.int .i64 0) := z3.cell 3 rfl; have v4 : W3.cell? ⟨g + 3, 4, none⟩ = some (.slice none 0 0) := z3.cell 4 rfl; have v5 : W3.cell? ⟨g + 3, 5, none⟩ = some (.slice none 0 0) := z3.cell 5 rfl
      try rw [Exit.noGoto_ret]
      refine bodyPost_ret (v := .tuple #[.agg #[.int .i64 0, strV [], strV [], .int .i64 0, .slice none 0 0, .slice none 0 0], .agg #[.int .i64 0, strV [], strV [], .int .i64 0, .slice none 0 0, .slice none 0 0], .bool false]) (by simp [results, Tryz.results58, go_sem, u0, v0, u1, v1, u2, v2, u3, v3, u4, v4, u5, v5]) rfl ?_
      have hW : Below w.heap.size w W3 := by rw [HGS.out]; exact hb6
      exact ppEndH_none HO.out HBB.out HN.out hW
  case rest =>
  obtain ⟨x1, y1, A1, n1, c1, B1, m1, d1, A2, n2, c2, B2, m2, d2, hs, bt, bu, b2, b3, v1, v2, hl, gl, hw⟩ := hcut
  have HS := Lib.hid hs; have CT := Lib.hid bt; have CU := Lib.hid bu; have C2 := Lib.hid b2; have C3 := Lib.hid b3; have V1 := Lib.hid v1; have V2 := Lib.hid v2; have HL2 := Lib.hid hl; have GL2 := Lib.hid gl; have HW := Lib.hid hw
  clear hs bt bu b2 b3 v1 v2 hl gl hw
  clear HBTwc HBUwc HVwc GVwc HWwc HGwc HB0wc HB1wc HB2wc HB3wc
  skip
  have PX : Hid (∀ W, Below wc.heap.size wc W → Calls Tryz.prog 80 #[prV x1.k x1.nm x1.to x1.h.pos A1 n1 c1 B1 m1 d1] W (fun e u' => ∃ P p1 Q q1, e = .returned (prV x1.k x1.nm x1.to x1.h.pos P n1 p1 Q m1 q1) ∧ PV u' u'.heap.size P n1 p1 Q m1 q1 x1 ∧ (Hi W.heap.size P ∧ Hi W.heap.size Q) ∧ Below W.heap.size W u')) := Lib.hid (fun W hb => OwnC A1 n1 c1 B1 m1 d1 wc.heap.size x1 W hb.size HL2.out.1 HL2.out.2 (V1.out.below hb))
  have PY : Hid (∀ W, Below wc.heap.size wc W → Calls Tryz.prog 80 #[prV y1.k y1.nm y1.to y1.h.pos A2 n2 c2 B2 m2 d2] W (fun e u' => ∃ P p1 Q q1, e = .returned (prV y1.k y1.nm y1.to y1.h.pos P n2 p1 Q m2 q1) ∧ PV u' u'.heap.size P n2 p1 Q m2 q1 y1 ∧ (Hi W.heap.size P ∧ Hi W.heap.size Q) ∧ Below W.heap.size W u')) := Lib.hid (fun W hb => OwnC A2 n2 c2 B2 m2 d2 wc.heap.size y1 W hb.size GL2.out.1 GL2.out.2 (V2.out.below hb))
  have HSB : Hid (∀ W, Blk W T 55 #[.int .i64 x1.k, strV x1.nm, strV x1.to, .int .i64 x1.h.pos, .slice A1 n1 c1, .slice B1 m1 d1] → Blk W U 55 #[.int .i64 y1.k, strV y1.nm, strV y1.to, .int .i64 y1.h.pos, .slice A2 n2 c2, .slice B2 m2 d2] → W.cell? ⟨T, 0, none⟩ = some (.int .i64 x1.k) ∧ W.cell? ⟨T, 1, none⟩ = some (strV x1.nm) ∧ W.cell? ⟨T, 2, none⟩ = some (strV x1.to) ∧ W.cell? ⟨T, 3, none⟩ = some (.int .i64 x1.h.pos) ∧ W.cell? ⟨T, 4, none⟩ = some (.slice A1 n1 c1) ∧ W.cell? ⟨T, 5, none⟩ = some (.slice B1 m1 d1) ∧ W.cell? ⟨U, 0, none⟩ = some (.int .i64 y1.k) ∧ W.cell? ⟨U, 1, none⟩ = some (strV y1.nm) ∧ W.cell? ⟨U, 2, none⟩ = some (strV y1.to) ∧ W.cell? ⟨U, 3, none⟩ = some (.int .i64 y1.h.pos) ∧ W.cell? ⟨U, 4, none⟩ = some (.slice A2 n2 c2) ∧ W.cell? ⟨U, 5, none⟩ = some (.slice B2 m2 d2)) := Lib.hid (fun W b b' => by
    exact ⟨b.cell 0 rfl, b.cell 1 rfl, b.cell 2 rfl, b.cell 3 rfl, b.cell 4 rfl, b.cell 5 rfl, b'.cell 0 rfl, b'.cell 1 rfl, b'.cell 2 rfl, b'.cell 3 rfl, b'.cell 4 rfl, b'.cell 5 rfl⟩)
  have HC : Hid (∀ W, Below wc.heap.size wc W → W.cell? ⟨T, 0, none⟩ = some (.int .i64 x1.k) ∧ W.cell? ⟨T, 1, none⟩ = some (strV x1.nm) ∧ W.cell? ⟨T, 2, none⟩ = some (strV x1.to) ∧ W.cell? ⟨T, 3, none⟩ = some (.int .i64 x1.h.pos) ∧ W.cell? ⟨T, 4, none⟩ = some (.slice A1 n1 c1) ∧ W.cell? ⟨T, 5, none⟩ = some (.slice B1 m1 d1) ∧ W.cell? ⟨U, 0, none⟩ = some (.int .i64 y1.k) ∧ W.cell? ⟨U, 1, none⟩ = some (strV y1.nm) ∧ W.cell? ⟨U, 2, none⟩ = some (strV y1.to) ∧ W.cell? ⟨U, 3, none⟩ = some (.int .i64 y1.h.pos) ∧ W.cell? ⟨U, 4, none⟩ = some (.slice A2 n2 c2) ∧ W.cell? ⟨U, 5, none⟩ = some (.slice B2 m2 d2)) := Lib.hid (fun W hb => HSB.out W (CT.out.below hb CT.out.lt) (CU.out.below hb CU.out.lt))
  have HNG := Lib.hid (show (T ≠ g + 2 ∧ T ≠ g + 3) ∧ (U ≠ g + 2 ∧ U ≠ g + 3) from by have := HgT.out; omega)
  have HKD := Lib.hid (HC.out wc.drew (below_drewN (Below.refl _ _) 1))
  obtain ⟨x0, xx1, x2, x3, x4, x5, y0, yy1, y2, y3, y4, y5⟩ := HC.out wc (Below.refl _ _)
  go_wp2_with fail
  go_region_held3 (fun W => W.cell? ⟨T, 0, none⟩ = some (.int .i64 x1.k) ∧ W.cell? ⟨T, 1, none⟩ = some (strV x1.nm) ∧ W.cell? ⟨T, 2, none⟩ = some (strV x1.to) ∧ W.cell? ⟨T, 3, none⟩ = some (.int .i64 x1.h.pos) ∧ W.cell? ⟨T, 4, none⟩ = some (.slice A1 n1 c1) ∧ W.cell? ⟨T, 5, none⟩ = some (.slice B1 m1 d1) ∧ W.cell? ⟨U, 0, none⟩ = some (.int .i64 y1.k) ∧ W.cell? ⟨U, 1, none⟩ = some (strV y1.nm) ∧ W.cell? ⟨U, 2, none⟩ = some (strV y1.to) ∧ W.cell? ⟨U, 3, none⟩ = some (.int .i64 y1.h.pos) ∧ W.cell? ⟨U, 4, none⟩ = some (.slice A2 n2 c2) ∧ W.cell? ⟨U, 5, none⟩ = some (.slice B2 m2 d2))
    (first | (with_reducible exact HKD.out) | (with_reducible exact hS5) | (with_reducible exact hS6) | (with_reducible exact HK2.out _ _ _ _ _ _) | (with_reducible exact HK3.out _ _ _ _ _ _ _ _ _ _ _ _))
    (first
      | (go_at_call 80; (with_reducible refine (PX.out wc.drew (below_drewN (Below.refl _ _) 1)).mono ?_); rintro e w5 ⟨P5, p5, Q5, q5, rfl, hv, hh, hb⟩; have HH5 := Lib.hid hh; clear hh; have hbu := (below_drewN (Below.refl wc.heap.size wc) 1).trans hb; have hS5 := HC.out w5 hbu; have HU5 := Lib.hid hbu; have HV5 := Lib.hid hv; clear hb hbu hv)
      | (go_at_call 80; (with_reducible refine (PY.out w5 HU5.out).mono ?_); rintro e w6 ⟨P6, p6, Q6, q6, rfl, hv, hh, hb⟩; have HH6 := Lib.hid hh; clear hh; have hbu := HU5.out.trans (hb.mono HU5.out.size); have hS6 := HC.out w6 hbu; have HU6 := Lib.hid hbu; have HV6 := Lib.hid hv; have HB6 := Lib.hid hb;
          have t6 := CT.out.below hbu CT.out.lt; have u6 := CU.out.below hbu CU.out.lt;
          have HK2 := Lib.hid (fun v0 v1 v2 v3 v4 v5 => HSB.out _ (blk_ne6 t6 HNG.out.1.1 v0 v1 v2 v3 v4 v5) (blk_ne6 u6 HNG.out.2.1 v0 v1 v2 v3 v4 v5));
          have HK3 := Lib.hid (fun v0 v1 v2 v3 v4 v5 u0 u1 u2 u3 u4 u5 => HSB.out _ (blk_ne6 (blk_ne6 t6 HNG.out.1.1 v0 v1 v2 v3 v4 v5) HNG.out.1.2 u0 u1 u2 u3 u4 u5) (blk_ne6 (blk_ne6 u6 HNG.out.2.1 v0 v1 v2 v3 v4 v5) HNG.out.2.2 u0 u1 u2 u3 u4 u5));
          clear t6 u6; have b2 := C2.out.below hbu C2.out.lt; have b3 := C3.out.below hbu C3.out.lt;
          have u0 : w6.cell? ⟨g + 2, 0, none⟩ = some (.int .i64 0) := b2.cell 0 rfl; have u1 : w6.cell? ⟨g + 2, 1, none⟩ = some (strV []) := b2.cell 1 rfl; have u2 : w6.cell? ⟨g + 2, 2, none⟩ = some (strV []) := b2.cell 2 rfl; have u3 : w6.cell? ⟨g + 2, 3, none⟩ = some (.int .i64 0) := b2.cell 3 rfl; have u4 : w6.cell? ⟨g + 2, 4, none⟩ = some (.slice none 0 0) := b2.cell 4 rfl; have u5 : w6.cell? ⟨g + 2, 5, none⟩ = some (.slice none 0 0) := b2.cell 5 rfl;
          have v0 : w6.cell? ⟨g + 3, 0, none⟩ = some (.int .i64 0) := b3.cell 0 rfl; have v1 : w6.cell? ⟨g + 3, 1, none⟩ = some (strV []) := b3.cell 1 rfl; have v2 : w6.cell? ⟨g + 3, 2, none⟩ = some (strV []) := b3.cell 2 rfl; have v3 : w6.cell? ⟨g + 3, 3, none⟩ = some (.int .i64 0) := b3.cell 3 rfl; have v4 : w6.cell? ⟨g + 3, 4, none⟩ = some (.slice none 0 0) := b3.cell 4 rfl; have v5 : w6.cell? ⟨g + 3, 5, none⟩ = some (.slice none 0 0) := b3.cell 5 rfl;
          have f0 : w6.frozen? ⟨g + 2, 0, none⟩ = false := b2.frozen 0; have f1 : w6.frozen? ⟨g + 2, 1, none⟩ = false := b2.frozen 1; have f2 : w6.frozen? ⟨g + 2, 2, none⟩ = false := b2.frozen 2; have f3 : w6.frozen? ⟨g + 2, 3, none⟩ = false := b2.frozen 3; have f4 : w6.frozen? ⟨g + 2, 4, none⟩ = false := b2.frozen 4; have f5 : w6.frozen? ⟨g + 2, 5, none⟩ = false := b2.frozen 5; have h0 : w6.frozen? ⟨g + 3, 0, none⟩ = false := b3.frozen 0; have h1 : w6.frozen? ⟨g + 3, 1, none⟩ = false := b3.frozen 1; have h2 : w6.frozen? ⟨g + 3, 2, none⟩ = false := b3.frozen 2; have h3 : w6.frozen? ⟨g + 3, 3, none⟩ = false := b3.frozen 3; have h4 : w6.frozen? ⟨g + 3, 4, none⟩ = false := b3.frozen 4; have h5 : w6.frozen? ⟨g + 3, 5, none⟩ = false := b3.frozen 5;
          have Z2 := Lib.hid b2; have Z3 := Lib.hid b3; clear hb hbu hv b2 b3))
  go_wp2_with fail
  have l3 := C3.out.lt
  have l5 : wc.heap.size ≤ w5.heap.size := HU5.out.size
  have i5 := HH5.out; have i6 := HH6.out
  have i5a : Hi wc.heap.size P5 := i5.1; have i5b : Hi wc.heap.size Q5 := i5.2
  have i6a := i6.1.mono l5; have i6b := i6.2.mono l5
  have pv5 := (((HV5.out.below HB6.out).up HB6.out.size).hi6 (b := g + 2) i5a i5b (by omega) (.int .i64 x1.k) (strV x1.nm) (strV x1.to) (.int .i64 x1.h.pos) (.slice P5 n1 p5) (.slice Q5 m1 q5)).hi6 (b := g + 3) i5a i5b (by omega) (.int .i64 y1.k) (strV y1.nm) (strV y1.to) (.int .i64 y1.h.pos) (.slice P6 n2 p6) (.slice Q6 m2 q6)
  have pv6 := (HV6.out.hi6 (b := g + 2) i6a i6b (by omega) (.int .i64 x1.k) (strV x1.nm) (strV x1.to) (.int .i64 x1.h.pos) (.slice P5 n1 p5) (.slice Q5 m1 q5)).hi6 (b := g + 3) i6a i6b (by omega) (.int .i64 y1.k) (strV y1.nm) (strV y1.to) (.int .i64 y1.h.pos) (.slice P6 n2 p6) (.slice Q6 m2 q6)
  obtain ⟨z2, z3⟩ := two_set6 Z2.out Z3.out (by omega) (.int .i64 x1.k) (strV x1.nm) (strV x1.to) (.int .i64 x1.h.pos) (.slice P5 n1 p5) (.slice Q5 m1 q5) (.int .i64 y1.k) (strV y1.nm) (strV y1.to) (.int .i64 y1.h.pos) (.slice P6 n2 p6) (.slice Q6 m2 q6)
  have hb6 := below_set12 (b := g + 2) (b' := g + 3) (HW.out.trans (HU6.out.mono (by have := HW.out.size; omega))) (by omega) (by omega) (.int .i64 x1.k) (strV x1.nm) (strV x1.to) (.int .i64 x1.h.pos) (.slice P5 n1 p5) (.slice Q5 m1 q5) (.int .i64 y1.k) (strV y1.nm) (strV y1.to) (.int .i64 y1.h.pos) (.slice P6 n2 p6) (.slice Q6 m2 q6)
  have hsz := (below_set12 (b := g + 2) (b' := g + 3) (Below.refl 0 w6) (by omega) (by omega) (.int .i64 x1.k) (strV x1.nm) (strV x1.to) (.int .i64 x1.h.pos) (.slice P5 n1 p5) (.slice Q5 m1 q5) (.int .i64 y1.k) (strV y1.nm) (strV y1.to) (.int .i64 y1.h.pos) (.slice P6 n2 p6) (.slice Q6 m2 q6)).size
  generalize (World.setCell (World.setCell (World.setCell (World.setCell (World.setCell (World.setCell (World.setCell (World.setCell (World.setCell (World.setCell (World.setCell (World.setCell w6 ⟨g + 2, 0, none⟩ (.int .i64 x1.k)) ⟨g + 2, 1, none⟩ (strV x1.nm)) ⟨g + 2, 2, none⟩ (strV x1.to)) ⟨g + 2, 3, none⟩ (.int .i64 x1.h.pos)) ⟨g + 2, 4, none⟩ (.slice P5 n1 p5)) ⟨g + 2, 5, none⟩ (.slice Q5 m1 q5)) ⟨g + 3, 0, none⟩ (.int .i64 y1.k)) ⟨g + 3, 1, none⟩ (strV y1.nm)) ⟨g + 3, 2, none⟩ (strV y1.to)) ⟨g + 3, 3, none⟩ (.int .i64 y1.h.pos)) ⟨g + 3, 4, none⟩ (.slice P6 n2 p6)) ⟨g + 3, 5, none⟩ (.slice Q6 m2 q6)) = W3 at *
  clear u0 u1 u2 u3 u4 u5 v0 v1 v2 v3 v4 v5 f0 f1 f2 f3 f4 f5 h0 h1 h2 h3 h4 h5
  have u0 : W3.cell? ⟨g + 2, 0, none⟩ = some (.int .i64 x1.k) := z2.cell 0 rfl; have u1 : W3.cell? ⟨g + 2, 1, none⟩ = some (strV x1.nm) := z2.cell 1 rfl; have u2 : W3.cell? ⟨g + 2, 2, none⟩ = some (strV x1.to) := z2.cell 2 rfl; have u3 : W3.cell? ⟨g + 2, 3, none⟩ = some (.int .i64 x1.h.pos) := z2.cell 3 rfl; have u4 : W3.cell? ⟨g + 2, 4, none⟩ = some (.slice P5 n1 p5) := z2.cell 4 rfl; have u5 : W3.cell? ⟨g + 2, 5, none⟩ = some (.slice Q5 m1 q5) := z2.cell 5 rfl
  have v0 : W3.cell? ⟨g + 3, 0, none⟩ = some (.int .i64 y1.k) := z3.cell 0 rfl; have v1 : W3.cell? ⟨g + 3, 1, none⟩ = some (strV y1.nm) := z3.cell 1 rfl; have v2 : W3.cell? ⟨g + 3, 2, none⟩ = some (strV y1.to) := z3.cell 2 rfl; have v3 : W3.cell? ⟨g + 3, 3, none⟩ = some (.int .i64 y1.h.pos) := z3.cell 3 rfl; have v4 : W3.cell? ⟨g + 3, 4, none⟩ = some (.slice P6 n2 p6) := z3.cell 4 rfl; have v5 : W3.cell? ⟨g + 3, 5, none⟩ = some (.slice Q6 m2 q6) := z3.cell 5 rfl
  try rw [Exit.noGoto_ret]
  refine bodyPost_ret (v := .tuple #[.agg #[.int .i64 x1.k, strV x1.nm, strV x1.to, .int .i64 x1.h.pos, .slice P5 n1 p5, .slice Q5 m1 q5], .agg #[.int .i64 y1.k, strV y1.nm, strV y1.to, .int .i64 y1.h.pos, .slice P6 n2 p6, .slice Q6 m2 q6], .bool true]) (by simp [results, Tryz.results58, go_sem, u0, v0, u1, v1, u2, v2, u3, v3, u4, v4, u5, v5]) rfl ?_
  have hg : w.heap.size ≤ wc.heap.size := by rw [HGS.out]; omega
  exact ppEndH_some HO.out HBB.out HS.out (pv5.up hsz) (pv6.up hsz) HL2.out GL2.out ⟨i5a.mono hg, i5b.mono hg, i6a.mono hg, i6b.mono hg⟩ (by rw [HGS.out]; exact hb6)

end Pr
end Go.Proofs.YtfnhjflocfmcoaaGreat

set_option maxRecDepth 100000
namespace Go.Proofs.YtfnhjflocfmcoaaGreat
open Go.RowKit
set_option linter.unusedVariables false
set_option linter.unusedSimpArgs false
namespace Fl
open Tx Df Sq Hk Tr Pr

/-- How a copy of lines ends: in memory of its own. -/
def CopyLEnd (w : World) (n : Nat) (ls : List (List UInt8)) (e : Ending) (w' : World) : Prop :=
  ∃ D d, e = .returned (.slice D n d) ∧ n ≤ d ∧ RdS w' w'.heap.size D ls ∧ Hi w.heap.size D ∧ w.grownBy w' none

theorem ownLines (A : Option Addr) (n c B : Nat) (ls : List (List UInt8)) (w : World) (hn : ls.length = n) (hle : n ≤ 100000) (hB : B ≤ w.heap.size) (hR : RdS w B A ls) :
    Calls Tryz.prog 54 #[.slice A n c] w (CopyLEnd w n ls) := by
  obtain ⟨j0, hj, hy0, hy1, hy2⟩ := info_parts info_str
  have HR := Lib.hid hR; have HN := Lib.hid hn
  clear hR hn
  go_enter Tryz.func54, Tryz.ntmps54
  go_wp2_with (at_builtin; refine wpList_nil' rfl (.const (.slice none 0 0)) (.tmp 3) 49 rfl 9 j0 (.string ⟨#[]⟩) 16 Tryz.underlying49 hj hy0 hy1 hy2 rfl rfl B A n c (ls.map strV) rfl (by rw [List.length_map]; exact HN.out) HR.out (strs_one _) (by unfold maxLen; omega) (by omega) ?_; intro D1 d1 w1 hA hg; have HA := Lib.hid hA; have HG := Lib.hid hg; clear hA hg)
  go_ret
  obtain ⟨A', c', e, hc, hr⟩ := rd_of_own HA.out
  injection e with e1 e2 e3
  subst e1 e3
  exact ⟨D1, d1, rfl, hc, hr, hi_own HA.out, HG.out⟩

/-- One of a row's files. -/
theorem ownT_elem {W : World} {base g n cap k : Nat} {t : TR} {x : FL} (h : OwnT W base (.slice (some ⟨g, 0, none⟩) n cap) t) (hn : t.length = n) (hx : t[k]? = some x) :
    ∃ A m c, W.cell? ⟨g, k * 2, none⟩ = some (strV x.1) ∧ W.cell? ⟨g, k * 2 + 1, none⟩ = some (.slice A m c) ∧ (∀ j, W.frozen? ⟨g, j, none⟩ = false) ∧ x.2.length = m ∧ RdX W (some g) A x.2 := by
  subst hn
  obtain ⟨xs, hr, hF⟩ := h
  obtain ⟨A, c, h0, h1, h2, h3⟩ := hF k x hx
  have hk : k < t.length := (List.getElem?_eq_some_iff.1 hx).1
  exact ⟨A, _, c, by rw [hr.cellAt (k * 2) (by omega)]; exact h0, by rw [hr.cellAt (k * 2 + 1) (by omega)]; exact h1, fun j => hr.frozenAt _, rfl, h3⟩
/-- The lines of one of a row's files are stored anew. -/
theorem ownT_line {W : World} {base g n cap k m d : Nat} {t : TR} {x : FL} {D : Option Addr} (h : OwnT W base (.slice (some ⟨g, 0, none⟩) n cap) t) (hn : t.length = n) (hx : t[k]? = some x) (hm : x.2.length = m) (hd : m ≤ d) (hr : RdX W (some g) D x.2) :
    OwnT (W.setCell ⟨g, k * 2 + 1, none⟩ (.slice D m d)) base (.slice (some ⟨g, 0, none⟩) n cap) t := by
  subst hm hn
  obtain ⟨xs, hrow, hF⟩ := h
  have hk : k < t.length := (List.getElem?_eq_some_iff.1 hx).1
  have hxl := hrow.1
  obtain ⟨h1, g1⟩ := hrow.stored (k * 2 + 1) (.slice D x.2.length d)
  refine ⟨_, h1, ?_⟩
  refine FCells.gr (W := W) (fun j y hy => ?_) g1
  by_cases e : j = k
  · subst e
    rw [hx] at hy
    injection hy with hy
    subst hy
    obtain ⟨A', c', q1, q2, q3, q4⟩ := hF j x hx
    refine ⟨D, d, ?_, ?_, hd, hr⟩
    · rw [List.getElem?_set_ne (by omega)]; exact q1
    · rw [List.getElem?_set_self (by omega)]
  · obtain ⟨A', c', q1, q2, q3, q4⟩ := hF j y hy
    refine ⟨A', c', ?_, ?_, q3, q4⟩
    · rw [List.getElem?_set_ne (by omega)]; exact q1
    · rw [List.getElem?_set_ne (by omega)]; exact q2
theorem ownT_form {W : World} {base : Nat} {v : Value} {t : TR} (h : OwnT W base v t) : t = [] ∧ v = .slice none 0 0 ∨ ∃ g cap, v = .slice (some ⟨g, 0, none⟩) t.length cap ∧ base ≤ g ∧ g < W.heap.size := by
  obtain ⟨xs, hr, hF⟩ := h
  rcases hr.2 with ⟨rfl, h1⟩ | ⟨g, cap, cur, rfl, hbg, hg, hc, _⟩
  · exact .inl ⟨List.eq_nil_of_length_eq_zero h1, rfl⟩
  · exact .inr ⟨g, cap, rfl, hbg, (Array.getElem?_eq_some_iff.1 hg).1⟩

set_option maxHeartbeats 2000000 in
theorem ownTree (A : Option Addr) (n c : Nat) (t : TR) (w : World) (hn : t.length = n) (hle : n ≤ 100000) (hl : ∀ x ∈ t, x.2.length ≤ 100000) (hR : RdT w w.heap.size A t) :
    Calls Tryz.prog 42 #[.slice A n c] w (TreeEnd w t) := by
  obtain ⟨ys, hy1, hy2, hy3⟩ := flat_cells (row := (Value.slice none 0 0).ownBlock) hR (Nat.le_refl _) (fun g e => by cases e)
  have Y1 := Lib.hid hy1; have Y2 := Lib.hid hy2; have Y3 := Lib.hid hy3; have HN := Lib.hid hn; have HL := Lib.hid hl
  clear hy1 hy2 hy3 hR hn hl
  go_enter Tryz.func42, Tryz.ntmps42
  go_wp2_with (at_builtin; refine wpList_ownT rfl (.const (.slice none 0 0)) (.tmp 6) rfl w.heap.size n c (.slice none 0 0) A [] t ys rfl rfl (ownT_nil _ _) Y2.out Y1.out Y3.out HN.out (by simp; omega) (Nat.le_refl _) ?_; intro v w1 ho hg; have HO := Lib.hid ho; have HB := Lib.hid ((Below.refl w.heap.size w).grown hg (Nat.le_refl _) (fun k e => by cases e)); clear ho hg; replace HO := Lib.hid (show OwnT w1 w.heap.size v t from HO.out); obtain ⟨A1, c1, hv1, hc1⟩ : ∃ A1 c1, v = .slice A1 n c1 ∧ n ≤ c1 := (rdT_own HO.out).elim fun A1 h => h.elim fun c1 h => ⟨A1, c1, by rw [← HN.out]; exact h.1, by rw [← HN.out]; exact h.2.1⟩; subst hv1)
  clear Y1 Y2 Y3
  go_loopw [10] (fun i wr => ∃ k : Nat, k ≤ n ∧ i = .int .i64 (k : Int) ∧ OwnT wr w.heap.size (.slice A1 n c1) t ∧ Below w.heap.size w wr) (fun i _ => n - (intOf i).toNat)
  case atStart => exact ⟨0, Nat.zero_le _, rfl, HO.out, HB.out⟩
  case round =>
    clear HO HB
    obtain ⟨k, hk, rfl, ho, hb⟩ := hrel
    have HB := Lib.hid hb
    by_cases hlt : k < n
    · rcases ownT_form ho with ⟨h0, _⟩ | ⟨g, cap, e, hg1, hg2⟩
      · exfalso
        have := HN.out
        rw [h0] at this
        simp at this
        omega
      injection e with e1 e2 e3
      subst e1 e3
      clear e2
      have hki : (k : Int) < (n : Int) := by omega
      obtain ⟨x, hx⟩ : ∃ x, t[k]? = some x := ⟨_, List.getElem?_eq_getElem (by rw [HN.out]; exact hlt)⟩
      obtain ⟨B, m, d, c0, c1', hf, hm, hr⟩ := ownT_elem ho HN.out hx
      have HO := Lib.hid ho; have HX := Lib.hid hx; have HM := Lib.hid hm; have HR := Lib.hid hr
      have hml : m ≤ 100000 := by rw [← HM.out]; exact HL.out x (List.mem_of_getElem? HX.out)
      clear ho hx hm hr hb
      have HBX := Lib.hid (Blk.new wr 51 #[strV x.1, .slice B m d])
      go_wp2_with fail
      refine (ownLines B m d wr.heap.size x.2 _ HM.out hml (by simp) (Rd.below HR.out.1 ((Below.refl _ _).alloc (Nat.le_refl _) _))).mono ?_
      rintro e w2 ⟨D, j, rfl, hj, hrd, hhi, hgr⟩
      have ho2 := (HO.out.below ((Below.refl _ _).alloc (Nat.le_refl _) (.cells #[strV x.1, .slice B m d] 51))).below (below_gr hgr)
      have hrx : RdX w2 (some g) D x.2 := ⟨hrd, by
        cases D with
        | none => exact .inr fun a e => by cases e
        | some a =>
          refine .inr fun a' e hne => ?_
          have := hhi a' e
          rw [World.size_alloc] at this
          injection hne with hne
          omega⟩
      have hb2 : Below w.heap.size w w2 := (HB.out.alloc HB.out.size (.cells #[strV x.1, .slice B m d] 51)).trans ((below_gr hgr).mono (by have := HB.out.size; simp; omega))
      obtain ⟨B', m', d', q0, q1, qf, qm, qr⟩ := ownT_elem ho2 HN.out HX.out
      have f1 := qf (k * 2 + 1)
      have HO2 := Lib.hid ho2; have HRX := Lib.hid hrx; have HB2 := Lib.hid hb2; have HJ := Lib.hid hj; have HG := Lib.hid hg1
      clear ho2 hrx hb2 hrd hhi hgr qr qf qm c0 c1' hf hj hg1 hg2
      go_wp2_with fail
      go_roundw
      case rel => exact ⟨k + 1, by omega, by go_num, ownT_line HO2.out HN.out HX.out HM.out HJ.out HRX.out, HB2.out.setCell (p := ⟨g, k * 2 + 1, none⟩) HG.out _⟩
      case measure => simp [intOf]; omega
    · have HO := Lib.hid ho
      clear ho hb
      go_wp2
      go_ret
      obtain ⟨A2, c2, e, hc2, hr2⟩ := rdT_own HO.out
      exact ⟨A2, c2, by rw [e]; rfl, hc2, hr2, HB.out⟩

set_option maxHeartbeats 4000000 in
theorem ApplyL (K L : Nat) (A0 : Option Addr) (n0 c0 : Nat) (A : Option Addr) (n c : Nat) (t : TR) (l : List Ch) (w : World) (R : Int × TR) (ht : Most t K L) (hK : K + n ≤ 99990) (hL : L + 300 * n ≤ 99000) (hn0 : t.length = n0) (hn : l.length = n) (hl : Lt l) (hR0 : RdT w w.heap.size A0 t) (hR : RdP w (· < w.heap.size) A l) (hD : doF t l = R) :
    Calls Tryz.prog 28 #[.slice A0 n0 c0, .slice A n c] w (DoEnd w R) := by
  have HR := Lib.hid hR; have HN := Lib.hid hn; have HL := Lib.hid hl; have HD := Lib.hid hD; have HT := Lib.hid ht; have HR0 := Lib.hid hR0; have HN0 := Lib.hid hn0
  clear hR hn hl hD ht hn0 hR0
  go_enter Tryz.func28, Tryz.ntmps28
  go_wp2_with fail
  refine (ownTree A0 n0 c0 t w HN0.out (by rw [← HN0.out]; exact HT.out.s.len) (fun x hx => (HT.out.s.all x hx).l) HR0.out).mono ?_
  rintro e w0 ⟨B0, d0, rfl, hd0, hr0, hb0⟩
  have HT0 := Lib.hid (show ∃ u : TR, u.length = n0 ∧ n0 ≤ d0 ∧ Most u (K + 0) (L + 300 * 0) ∧ RdT w0 w0.heap.size B0 u ∧ doF t l = doF u (l.drop 0) from ⟨t, HN0.out, by rw [← HN0.out]; exact hd0, HT.out, hr0, rfl⟩)
  have hz : t.length = n0 := HN0.out
  rw [hz]
  have HB0 := Lib.hid hb0
  clear HT HR0 HN0 hd0 hr0 hb0 hz
  go_wp2
  go_loopw [6, 15] (fun v0 i wr => ∃ (k : Nat) (B : Option Addr) (m d : Nat) (u : TR), k ≤ n ∧ i = .int .i64 (k : Int) ∧ v0 = .slice B m d ∧ u.length = m ∧ m ≤ d ∧ Most u (K + k) (L + 300 * k) ∧ RdT wr wr.heap.size B u ∧ doF t l = doF u (l.drop k) ∧ Below w.heap.size w wr) (fun _ i _ => n - (intOf i).toNat)
  case atStart =>
    obtain ⟨u, h1, h2, h3, h4, h5⟩ := HT0.out
    exact ⟨0, B0, n0, d0, u, Nat.zero_le _, rfl, rfl, h1, h2, h3, h4, h5, HB0.out⟩
  case round =>
    clear HT0 HB0
    obtain ⟨k, B, m, d, u, hk, rfl, rfl, hm, hmd, hM, hT, hF, hbw⟩ := hrel
    have HBW := Lib.hid hbw; have HM := Lib.hid hm; have HMM := Lib.hid hM; have HT := Lib.hid hT; have HF := Lib.hid hF; have HMD := Lib.hid hmd
    clear hbw hm hM hT hF hmd
    by_cases hlt : k < n
    · have hki : (k : Int) < (n : Int) := by omega
      obtain ⟨a, x, B1, i, j, D, m1, d1, rfl, hS, hx, c0, c1, c2, c3, c4, c5, c6⟩ := ((HR.out.mv HBW.out).elem (k := k) (by rw [HN.out]; exact hlt))
      have HX := Lib.hid hx; have HP := Lib.hid c6.pv; clear hx c6 hS
      have HLX := Lib.hid (HL.out x (List.mem_of_getElem? HX.out))
      have hba : Below wr.heap.size wr (wr.alloc (.cells #[.int .i64 x.k, strV x.nm, strV x.to, .int .i64 x.h.pos, .slice B1 i j, .slice D m1 d1] 55)) := (Below.refl _ _).alloc (Nat.le_refl _) _
      have HBA := Lib.hid hba; clear hba
      go_wp2_with fail
      refine (ApplyP B m d B1 i j D m1 d1 u x _ HMM.out.s.wide HM.out (HT.out.mv HBA.out) (HP.out.mv HBA.out)).mono ?_
      rintro e w2 hde
      obtain ⟨r, hr⟩ : ∃ r, doP u x = r := ⟨_, rfl⟩
      rw [hr] at hde
      obtain ⟨r, v⟩ := r
      obtain ⟨B2, m2, d2, rfl, hd2, hl2, hT2, hb2⟩ := hde
      dsimp only at hl2 hT2
      have hF := doF_at HX.out HF.out
      have HM2 := Lib.hid (HMM.out.do (by omega) (by omega) HLX.out hr)
      have hbw2 := below_mv HBW.out (below_mv HBA.out hb2)
      have HBW2 := Lib.hid hbw2; have HT2 := Lib.hid hT2; have HL2 := Lib.hid hl2; have HD2 := Lib.hid hd2; have HF2 := Lib.hid hF; have HRR := Lib.hid hr
      clear hbw2 c0 c1 c2 c3 c4 c5 hb2 hT2 hl2 hd2 hF hr
      by_cases h0 : r = 0
      · subst h0
        go_wp2_with fail
        refine ⟨⟨k + 1, B2, m2, d2, v, by omega, by go_num, rfl, HL2.out, HD2.out, ?_, HT2.out, ?_, HBW2.out⟩, by simp [intOf]; omega⟩
        · have h1 := HM2.out
          rw [show L + 300 * k + 300 = L + 300 * (k + 1) by omega] at h1
          exact h1
        · rw [HF2.out, doF_cons_ok HRR.out]
      · have e0 : (r != 0) = true := by rw [bne_iff_ne]; exact h0
        have HO : Hid (R = (r, [])) := Lib.hid (by rw [← HD.out, HF2.out, doF_cons_no (by rw [HRR.out]; exact h0), HRR.out])
        clear h0
        go_wp2
        go_ret2
        exact doEnd_err HO.out HBW2.out
    · have HO : Hid (R = (0, u)) := Lib.hid (by rw [← HD.out, HF.out, List.drop_of_length_le (by rw [HN.out]; omega)]; rfl)
      go_wp2
      go_ret2
      obtain ⟨rfl⟩ := HM.out
      exact doEnd_ok HO.out HMD.out HT.out HBW.out

end Fl
end Go.Proofs.YtfnhjflocfmcoaaGreat

set_option maxRecDepth 100000
namespace Go.Proofs.YtfnhjflocfmcoaaGreat
open Go.RowKit
set_option linter.unusedVariables false
namespace Fl
open Tx Df Sq Hk Tr Pr

theorem set_mid {α : Type} {l post : List α} {k : Nat} {p y : α} (h : l[k]? = some p) : (l.take (k + 1) ++ post).set k y = l.take k ++ y :: post := by
  have hk : k < l.length := (List.getElem?_eq_some_iff.1 h).1
  have hl : (l.take k).length = k := by rw [List.length_take]; omega
  rw [take_at h, List.append_assoc, List.set_append_right _ _ (by omega), hl, Nat.sub_self]
  rfl
theorem at_mid {α : Type} {l post : List α} {k : Nat} {p : α} (h : l[k]? = some p) : (l.take (k + 1) ++ post)[k]? = some p := by
  have hk : k < l.length := (List.getElem?_eq_some_iff.1 h).1
  rw [List.getElem?_append_left (by rw [List.length_take]; omega), List.getElem?_take, if_pos (by omega)]
  exact h
/-- How a call of Pass ends that tells x, y and bo. -/
def LPassEnd (w : World) (x y : List Ch) (bo : Bool) (e : Ending) (w' : World) : Prop :=
  ∃ A c B d, e = .returned (.tuple #[.slice A x.length c, .slice B y.length d, .bool bo]) ∧ RdP w' (· < w'.heap.size) A x ∧ RdP w' (· < w'.heap.size) B y ∧ Below w.heap.size w w'
def outF (o : Option (List Ch × List Ch)) : List Ch × List Ch := o.getD ([], [])
section
variable {w w' : World} {x y x' y' : List Ch} {bo : Bool} {o : Option (List Ch × List Ch)}
theorem outF_of (h : outF o = (x, y)) (hb : o.isSome = true) : o = some (x, y) := by
  cases o with
  | none => cases hb
  | some z => exact congrArg some h
end
theorem ownS_lt {W : World} {S : Nat → Prop} {base : Nat} {v : Value} {l : List Ch} (h : OwnS W S base v l) : ∀ g, v.ownBlock = some g → g < W.heap.size := fun g hg => by
  obtain ⟨xs, hr, hF⟩ := h
  rcases hr.2 with ⟨rfl, _⟩ | ⟨g', cap, cur, rfl, hbg, hg', hc, _⟩
  · cases hg
  · injection hg with hg
    subst hg
    exact (Array.getElem?_eq_some_iff.1 hg').1
theorem ownS_ge {W : World} {S : Nat → Prop} {base : Nat} {v : Value} {l : List Ch} (h : OwnS W S base v l) : ∀ g, v.ownBlock = some g → base ≤ g := fun g hg => by
  obtain ⟨xs, hr, hF⟩ := h
  exact own_ge hr g hg
theorem ownS_slice {W : World} {S : Nat → Prop} {base : Nat} {v : Value} {l : List Ch} (h : OwnS W S base v l) : ∃ A c, v = .slice A l.length c ∧ l.length ≤ c := by
  obtain ⟨xs, hr, hF⟩ := h
  rcases hr.2 with ⟨rfl, h1⟩ | ⟨g, cap, cur, rfl, hbg, hg, hc, _⟩
  · exact ⟨none, 0, by rw [h1], by rw [h1]; exact Nat.le_refl _⟩
  · exact ⟨_, cap, rfl, hc⟩
/-- A row of one's own is read as changes. -/
theorem rdP_of_own {W : World} {S : Nat → Prop} {base n c : Nat} {A : Option Addr} {l : List Ch} (h : OwnS W S base (.slice A n c) l) (hS : ∀ b, S b → b < W.heap.size) (hl : l.length = n) : RdP W (· < W.heap.size) A l := by
  by_cases h0 : l = []
  · exact .inl h0
  have hr0 := h
  obtain ⟨xs, hr, _⟩ := hr0
  rcases hr.2 with ⟨_, h1⟩ | ⟨g, cap, cur, e, _, hgb, hc, _⟩
  · exact absurd (List.eq_nil_of_length_eq_zero h1) h0
  · injection e with e1 e2 e3
    subst e1
    refine .inr ⟨_, rfl, (Array.getElem?_eq_some_iff.1 hgb).1, fun k x hx => ?_⟩
    obtain ⟨B, i', j, D, m', d, c0, c1, c2, c3, c4, c5, _, hp⟩ := h.elem hl hx
    have ea : (⟨g, 0, none⟩ : Addr).add (k * 6) = ⟨g, k * 6, none⟩ := by unfold Addr.add; split <;> simp_all
    exact ⟨by rw [ea]; exact c0, by rw [ea]; exact c1, by rw [ea]; exact c2, by rw [ea]; exact c3, B, i', j, D, m', d, by rw [ea]; exact c4, by rw [ea]; exact c5, hp.mono hS⟩

end Fl
end Go.Proofs.YtfnhjflocfmcoaaGreat

set_option maxRecDepth 100000
namespace Go.Proofs.YtfnhjflocfmcoaaGreat
open Go.RowKit
set_option linter.unusedVariables false
namespace Fl
open Tx Df Sq Hk Tr Pr

/-- How a call ends that makes a list of changes in memory that is new. -/
def LPHi (w : World) (l : List Ch) (e : Ending) (w' : World) : Prop := ∃ A c, e = .returned (.slice A l.length c) ∧ l.length ≤ c ∧ RdP w' (fun b => w.heap.size ≤ b ∧ b < w'.heap.size) A l ∧ Below w.heap.size w w'
theorem LPHi.end_ {w w' : World} {l : List Ch} {e : Ending} (h : LPHi w l e w') : LPEnd w l e w' := by
  obtain ⟨A, c, h1, h2, h3, h4⟩ := h
  exact ⟨A, c, h1, h2, h3.mono fun b hb => hb.2, h4⟩
/-- A row of one's own that is new is read as changes. -/
theorem rdP_of_own_hi {W : World} {S : Nat → Prop} {base n c N : Nat} {A : Option Addr} {l : List Ch} (h : OwnS W S base (.slice A n c) l) (hS : ∀ b, S b → N ≤ b ∧ b < W.heap.size) (hN : N ≤ base) (hl : l.length = n) : RdP W (fun b => N ≤ b ∧ b < W.heap.size) A l := by
  have h1 := rdP_of_own h (fun b hb => (hS b hb).2) hl
  by_cases h0 : l = []
  · exact .inl h0
  have hge := ownS_ge h
  obtain ⟨xs, hr, hF⟩ := h
  rcases hr.2 with ⟨_, h2⟩ | ⟨g, cap, cur, e, hbg, hgb, hc, _⟩
  · exact absurd (List.eq_nil_of_length_eq_zero h2) h0
  · injection e with e1 e2 e3
    subst e1
    rcases h1 with h1 | ⟨a, e, h3, h4⟩
    · exact .inl h1
    · injection e with e
      subst e
      refine .inr ⟨_, rfl, ⟨Nat.le_trans hN hbg, h3⟩, fun k x hx => ?_⟩
      obtain ⟨B, i, j, D, m, d, q0, q1, q2, q3, q4, q5, q6⟩ := hF k x hx
      obtain ⟨c0, c1, c2, c3, A', n', c', B', m', d', c4, c5, c6⟩ := h4 k x hx
      refine ⟨c0, c1, c2, c3, A', n', c', B', m', d', c4, c5, ?_⟩
      have hk : k < l.length := (List.getElem?_eq_some_iff.1 hx).1
      have ea : (⟨g, 0, none⟩ : Addr).add (k * 6) = ⟨g, k * 6, none⟩ := by unfold Addr.add; split <;> simp_all
      have e2' : l.length = n := hl
      subst e2'
      have z4 := c4; have z5 := c5
      rw [ea] at z4 z5
      have z4' : W.cell? ⟨g, k * 6 + 4, none⟩ = some (.slice A' n' c') := z4
      have z5' : W.cell? ⟨g, k * 6 + 5, none⟩ = some (.slice B' m' d') := z5
      rw [World.ownsRow.cellAt hr (k * 6 + 4) (by omega), q4] at z4'
      rw [World.ownsRow.cellAt hr (k * 6 + 5) (by omega), q5] at z5'
      injection z4' with z4'
      injection z5' with z5'
      injection z4' with y1 y2 y3
      injection z5' with y4 y5 y6
      subst y1 y2 y3 y4 y5 y6
      exact q6.mono hS
end Fl
end Go.Proofs.YtfnhjflocfmcoaaGreat

set_option maxRecDepth 100000
namespace Go.Proofs.YtfnhjflocfmcoaaGreat
open Go.RowKit
set_option linter.unusedVariables false
set_option linter.unusedSimpArgs false
namespace Pn
open Tx Df Sq Hk Tr Pr Fl

theorem allN_split {l : List Nm} {k : Nat} {x : Nm} (hx : l[k]? = some x) : allN l = allN (l.take k) ++ (x.l ++ allN (l.drop (k + 1))) := by
  have h1 : l = l.take k ++ x :: l.drop (k + 1) := by rw [← drop_at hx, List.take_append_drop]
  rw [← allN_cons, ← allN_app, ← h1]
theorem allN_pre {l : List Nm} {k j N : Nat} {x : Nm} (hx : l[k]? = some x) (hN : (allN l).length ≤ N) : (allN (l.take k) ++ x.l.take j).length ≤ N := by
  rw [allN_split hx] at hN
  simp only [List.length_append, List.length_take] at hN ⊢
  omega
theorem allN_len {l : List Nm} {k : Nat} {x : Nm} (hx : l[k]? = some x) : x.l.length ≤ (allN l).length := by
  rw [allN_split hx]
  simp only [List.length_append]
  omega
theorem allN_mem {l : List Nm} {k : Nat} {x : Nm} {q : Ch} (hx : l[k]? = some x) (hq : q ∈ x.l) : q ∈ allN l := by
  rw [allN_split hx]
  exact List.mem_append_right _ (List.mem_append_left _ hq)
theorem allN_next {l : List Nm} {k : Nat} {x : Nm} (hx : l[k]? = some x) : allN (l.take (k + 1)) = allN (l.take k) ++ x.l := by
  rw [take_at hx, allN_app]
  unfold allN
  simp
/-- Blocks made behind w that are not the row. -/
def NewIn (w W : World) (row : Option Nat) : Nat → Prop := fun b => w.heap.size ≤ b ∧ b < W.heap.size ∧ some b ≠ row
theorem newIn_up {w W W' : World} {row : Option Nat} (hs : W.heap.size ≤ W'.heap.size) : ∀ b, NewIn w W row b → NewIn w W' row b := fun b h => ⟨h.1, Nat.lt_of_lt_of_le h.2.1 hs, h.2.2⟩
/-- Changes in a row of one's own, their lines in memory made behind w. -/
abbrev OwnF (w W : World) (v : Value) (l : List Ch) : Prop := OwnS W (NewIn w W v.ownBlock) w.heap.size v l
section
variable {w W W' : World} {v : Value} {l u : List Ch}
theorem ownF_nil (w W : World) : OwnF w W (.slice none 0 0) [] := ⟨[], World.ownsRow_nil _ _ _ _, PCells.nil _ _ _⟩
theorem OwnF.below (h : OwnF w W v l) (hb : Below W.heap.size W W') : OwnF w W' v l := by
  obtain ⟨xs, h1, h2⟩ := h
  exact ⟨xs, own_gr h1 (below_gr_row hb), (h2.to (fun b _ hl => hb.block b hl)).mono (newIn_up hb.size)⟩
theorem run_ownF {ty : TypeId} {m c : Nat} {A : Option Addr} {ys : List Value} (h : OwnF w W v l) (hu : PCells W (NewIn w W v.ownBlock) u ys) (hyl : ys.length = u.length * 6) (hsrc : ∃ a, A = some a ∧ ∀ (j : Nat) x, ys[j]? = some x → W.cell? (a.add j) = some x)
    (hm : u.length = m) (h0 : 0 < m) (hn : l.length + m ≤ 100000) (hbase : w.heap.size ≤ W.heap.size) :
    ∃ v' W', (Builtin.append_ #[39, 39] ty #[v, .slice A m c]).run Tryz.prog W = .ok v' W' ∧ OwnF w W' v' (l ++ u) ∧ W.grownBy W' v.ownBlock := by
  obtain ⟨i0, hi0, hz0, hz1, hz2⟩ := info_parts info_prim
  obtain ⟨xs, hrow, hF⟩ := h
  have h1 := one6 hu hyl
  obtain ⟨a, rfl, hcell⟩ := hsrc
  obtain ⟨g, cap, W', hr, r1, r2, r3, r4⟩ := run_append_lies (P := Tryz.prog) (w := W) 39 ty w.heap.size 55 i0 _ 6 96 Tryz.underlying39 hi0 hz0 hz1 hz2 rfl (by decide) v l.length xs hrow a m c ys (by rw [hyl, hm]) hcell h1 (by omega) (by unfold maxLen; omega) (by omega) hbase W.heap.size rfl
  refine ⟨_, W', hr, ⟨xs ++ ys, by rw [List.length_append, hm]; exact r1, ?_⟩, r2⟩
  have hJ := (hF.append hrow.1 hu)
  have al : Fl.Alike (NewIn w W v.ownBlock) W W' := (alike_gr r2).mono fun b hb => hb.2.2
  refine (hJ.to al).mono fun b hb => ⟨hb.1, Nat.lt_of_lt_of_le hb.2.1 r2.size, ?_⟩
  rcases r3 with r3 | r3
  · rw [r3] at hb; exact hb.2.2
  · intro e
    injection e with e
    have e' : b = g := e
    have := hb.2.1
    omega
theorem wpList_ownF {ops : Array Oper} {rest : List Oper} {o : Oper} {a : Act} {Q : Exit → Act → World → Prop} (hgd : o.guard = none) (s x : Operand)
    (ho : o.op = .call { callee := .builtin .append, args := #[s, x], argTypes := #[39, 39] })
    (w : World) (m c : Nat) (v : Value) (A : Option Addr) (l u : List Ch) (ys : List Value) (hs : a.eval s = v) (hx : a.eval x = .slice A m c) (h : OwnF w W v l) (hu : PCells W (NewIn w W v.ownBlock) u ys) (hyl : ys.length = u.length * 6) (hsrc : ∃ a, A = some a ∧ ∀ (j : Nat) x, ys[j]? = some x → W.cell? (a.add j) = some x)
    (hm : u.length = m) (h0 : 0 < m) (hn : l.length + m ≤ 100000) (hbase : w.heap.size ≤ W.heap.size)
    (hK : ∀ v' W', OwnF w W' v' (l ++ u) → W.grownBy W' v.ownBlock → wpList Tryz.prog ops Q rest (a.put o.dst v') W') : wpList Tryz.prog ops Q (o :: rest) a W := by
  refine wpList_plain hgd fun K hK' => ?_
  obtain ⟨v', W', hrun, h2, h3⟩ := run_ownF (ty := o.type) (c := c) h hu hyl hsrc hm h0 hn hbase
  unfold Oper.wp execOp
  simp only [ho, resolve, invoke, builtin, Sem.run_bind, Sem.run_pure, Result.andThen_ok, List.map_toArray, List.map_cons, List.map_nil, hs, hx, hrun]
  exact hK' _ _ (hK v' W' h2 h3)
end

theorem ownC (A : Option Addr) (n c B : Nat) (ls : List (List UInt8)) (w : World) (hn : ls.length = n) (hle : n ≤ 100000) (hB : B ≤ w.heap.size) (hR : RdS w B A ls) :
    Calls Tryz.prog 44 #[.slice A n c] w (CopyLEnd w n ls) := by
  obtain ⟨j0, hj, hy0, hy1, hy2⟩ := info_parts info_str
  have HR := Lib.hid hR; have HN := Lib.hid hn
  clear hR hn
  go_enter Tryz.func44, Tryz.ntmps44
  go_wp2_with (at_builtin; refine wpList_nil' rfl (.const (.slice none 0 0)) (.tmp 3) 49 rfl 9 j0 (.string ⟨#[]⟩) 16 Tryz.underlying49 hj hy0 hy1 hy2 rfl rfl B A n c (ls.map strV) rfl (by rw [List.length_map]; exact HN.out) HR.out (strs_one _) (by unfold maxLen; omega) (by omega) ?_; intro D1 d1 w1 hA hg; have HA := Lib.hid hA; have HG := Lib.hid hg; clear hA hg)
  go_ret
  obtain ⟨A', c', e, hc, hr⟩ := rd_of_own HA.out
  injection e with e1 e2 e3
  subst e1 e3
  exact ⟨D1, d1, rfl, hc, hr, hi_own HA.out, HG.out⟩

set_option maxRecDepth 100000 in
set_option maxHeartbeats 8000000 in
theorem AllN (A : Option Addr) (n c : Nat) (l : List Nm) (w : World) (hn : l.length = n) (hle : n ≤ 100000) (hT : (allN l).length ≤ 1000) (hl : Lt (allN l)) (hR : RdN w w.heap.size A l) :
    Calls Tryz.prog 29 #[.slice A n c] w (LPHi w (allN l)) := by
  have HR := Lib.hid hR; have HN := Lib.hid hn; have HL := Lib.hid hl; have HT := Lib.hid hT
  clear hR hn hl hT
  go_enter Tryz.func29, Tryz.ntmps29
  go_wp2
  go_loopw [3, 10] (fun v3 i wr => ∃ (k : Nat) (A3 : Option Addr) (m3 f3 : Nat), k ≤ n ∧ i = .int .i64 (k : Int) ∧ v3 = .slice A3 m3 f3 ∧ OwnF w wr (.slice A3 m3 f3) (allN (l.take k)) ∧ Below w.heap.size w wr) (fun _ i _ => n - (intOf i).toNat)
  case atStart => exact ⟨0, none, 0, 0, Nat.zero_le _, rfl, rfl, ownF_nil _ _, Below.refl _ _⟩
  case round =>
    obtain ⟨k, A3, m3, f3, hk, rfl, rfl, hO, hbw⟩ := hrel
    have HBW := Lib.hid hbw; have HO := Lib.hid hO; clear hbw hO
    by_cases hlt : k < n
    · have hki : (k : Int) < (n : Int) := by omega
      obtain ⟨a, x, D, i, j, E, m, d, rfl, hS, hx, c0, c1, c2, c3, c4, c5⟩ := (HR.out.elem (k := k) (by rw [HN.out]; exact hlt))
      have hsb : (a.add (k * 5)).block < w.heap.size := by rw [add_block]; exact hS
      replace c0 := cellB c0 HBW.out hsb; replace c1 := cellB c1 HBW.out hsb; replace c2 := cellB c2 HBW.out hsb; replace c3 := cellB c3 HBW.out hsb; replace c4 := cellB c4 HBW.out hsb
      have HX := Lib.hid hx
      have HBA := Lib.hid (show Below wr.heap.size wr (wr.alloc (.cells #[.int .i64 x.id.1, .int .i64 x.id.2, .slice D i j, strV x.txt, .slice E m d] 41)) from (Below.refl _ _).alloc (Nat.le_refl _) _)
      have HXL := Lib.hid c5.l
      have HXR := Lib.hid c5.r
      have hm1 : m ≤ 1000 := by have h1 := allN_len HX.out; have h2 := HT.out; have h3 := HXL.out; omega
      have HO1 := Lib.hid (HO.out.below HBA.out)
      have HBW1 := Lib.hid (below_mv HBW.out HBA.out)
      clear hx c5 hS HO hsb
      go_wp2_with fail
      clear c0 c1 c2 c3 c4
      generalize (wr.alloc (.cells #[.int .i64 x.id.1, .int .i64 x.id.2, .slice D i j, strV x.txt, .slice E m d] 41)) = w1 at HBA HO1 HBW1 ⊢
      clear HBA HBW
      go_loopw [3, 17] (fun v3 i wr => ∃ (k2 : Nat) (A3 : Option Addr) (m3 f3 : Nat), k2 ≤ m ∧ i = .int .i64 (k2 : Int) ∧ v3 = .slice A3 m3 f3 ∧ OwnF w wr (.slice A3 m3 f3) (allN (l.take k) ++ x.l.take k2) ∧ Below w.heap.size w wr) (fun _ i _ => m - (intOf i).toNat)
      case atStart => exact ⟨0, A3, m3, f3, Nat.zero_le _, rfl, rfl, by rw [List.take_zero, List.append_nil]; exact HO1.out, HBW1.out⟩
      case round =>
        clear HO1 HBW1
        obtain ⟨k2, A4, m4, e4, hk2, rfl, rfl, hO, hbw⟩ := hrel
        have HBW2 := Lib.hid hbw; have HO := Lib.hid hO; clear hbw hO
        by_cases hlt2 : k2 < m
        · have hki2 : (k2 : Int) < (m : Int) := by omega
          obtain ⟨ad, q, B, n1, d1, G, m2, d2, rfl, hS, hq, c0, c1, c2, c3, c4, c5, hp⟩ := (HXR.out.elem (k := k2) (by rw [HXL.out]; exact hlt2))
          have hsb : (ad.add (k2 * 6)).block < w.heap.size := by rw [add_block]; exact hS
          replace c0 := cellB c0 HBW2.out hsb; replace c1 := cellB c1 HBW2.out hsb; replace c2 := cellB c2 HBW2.out hsb; replace c3 := cellB c3 HBW2.out hsb; replace c4 := cellB c4 HBW2.out hsb; replace c5 := cellB c5 HBW2.out hsb
          have HQ := Lib.hid hq
          have HLX := Lib.hid (lt_len hp (HL.out q (allN_mem HX.out (List.mem_of_getElem? hq))))
          have HBX := Lib.hid (Blk.new wr 55 #[.int .i64 q.k, strV q.nm, strV q.to, .int .i64 q.h.pos, .slice B n1 d1, .slice G m2 d2])
          have hba : Below wr.heap.size wr (wr.alloc (.cells #[.int .i64 q.k, strV q.nm, strV q.to, .int .i64 q.h.pos, .slice B n1 d1, .slice G m2 d2] 55)) := (Below.refl _ _).alloc (Nat.le_refl _) _
          have HBW3 := Lib.hid (below_mv HBW2.out hba)
          have HPW := Lib.hid (hp.pv.below HBW3.out); have HBA := Lib.hid hba
          have HLT := Lib.hid (ownS_lt HO.out)
          have HSZ := Lib.hid (show (wr.alloc (.cells #[.int .i64 q.k, strV q.nm, strV q.to, .int .i64 q.h.pos, .slice B n1 d1, .slice G m2 d2] 55)).heap.size = wr.heap.size + 1 by simp)
          clear hq hp hS hba hsb
          go_upto_region 8 with fail
          clear c0 c1 c2 c3 c4 c5
          generalize (wr.alloc (.cells #[.int .i64 q.k, strV q.nm, strV q.to, .int .i64 q.h.pos, .slice B n1 d1, .slice G m2 d2] 55)) = W at HBX HPW HBW3 HSZ HBA ⊢
          obtain ⟨z, hz⟩ : ∃ z, wr.heap.size = z := ⟨_, rfl⟩
          have HZ := Lib.hid hz
          rw [hz] at HBX HSZ HLT ⊢
          clear hz
          have hlx := HLX.out
          have PX : Hid (∀ X, Below W.heap.size W X → Calls Tryz.prog 44 #[.slice B n1 d1] X (fun e u => ∃ P p, e = .returned (.slice P n1 p) ∧ n1 ≤ p ∧ RdS u u.heap.size P q.h.old ∧ Hi X.heap.size P ∧ X.grownBy u none)) := Lib.hid (fun X hb => ownC B n1 d1 w.heap.size q.h.old X HPW.out.h.l (by omega) (Nat.le_trans HBW3.out.size hb.size) (Rd.below HPW.out.h.r (hb.mono HBW3.out.size)))
          have PY : Hid (∀ X, Below W.heap.size W X → Calls Tryz.prog 44 #[.slice G m2 d2] X (fun e u => ∃ P p, e = .returned (.slice P m2 p) ∧ m2 ≤ p ∧ RdS u u.heap.size P q.h.new ∧ Hi X.heap.size P ∧ X.grownBy u none)) := Lib.hid (fun X hb => ownC G m2 d2 w.heap.size q.h.new X HPW.out.h.l' (by omega) (Nat.le_trans HBW3.out.size hb.size) (Rd.below HPW.out.h.r' (hb.mono HBW3.out.size)))
          have HD := Lib.hid (show Below W.heap.size W W.drew from below_drewN (Below.refl W.heap.size W) 1)
          obtain ⟨z4, z5⟩ : W.cell? ⟨z, 4, none⟩ = some (.slice B n1 d1) ∧ W.cell? ⟨z, 5, none⟩ = some (.slice G m2 d2) := ⟨HBX.out.cell 4 rfl, HBX.out.cell 5 rfl⟩
          have hzl := HBX.out.lt
          go_region_with (first
            | (go_at_call 44; (with_reducible refine (PX.out W.drew HD.out).mono ?_); rintro e w5 ⟨P5, p5, rfl, hk5, hr5, hh5, hg5⟩; have hb5 := HD.out.trans (below_gr hg5); have B5 := HBX.out.below hb5 HBX.out.lt; have z4' := B5.cell 4 rfl; have z5' := B5.cell 5 rfl; have hzl5 := B5.lt; have HU5 := Lib.hid hb5; have HR5 := Lib.hid hr5; have HH5 := Lib.hid hh5; have HK5 := Lib.hid hk5; clear hg5 hb5 hr5 hh5 hk5 B5)
            | (go_at_call 44; (with_reducible refine (PY.out w5 HU5.out).mono ?_); rintro e w6 ⟨P6, p6, rfl, hk6, hr6, hh6, hg6⟩; have hb6 := below_gr hg6; have hu6 := HU5.out.trans (hb6.mono HU5.out.size); have B6 := HBX.out.below hu6 HBX.out.lt; have y4 := B6.cell 4 rfl; have y5 := B6.cell 5 rfl; have f4 := B6.frozen 4; have f5 := B6.frozen 5; have hzl6 := B6.lt; have HU6 := Lib.hid hu6; have HB6 := Lib.hid hb6; have HR6 := Lib.hid hr6; have HH6 := Lib.hid hh6; have HK6 := Lib.hid hk6; have HB6X := Lib.hid B6; clear hg6 hb6 hu6 hr6 hh6 hk6 B6))
          all_goals
            have b7 : Blk ((w6.setCell ⟨z, 4, none⟩ (.slice P5 n1 p5)).setCell ⟨z, 5, none⟩ (.slice P6 m2 p6)) z 55 #[.int .i64 q.k, strV q.nm, strV q.to, .int .i64 q.h.pos, .slice P5 n1 p5, .slice P6 m2 p6] := (HB6X.out.set 4 _).set 5 _
            have hb7 : Below wr.heap.size wr ((w6.setCell ⟨z, 4, none⟩ (.slice P5 n1 p5)).setCell ⟨z, 5, none⟩ (.slice P6 m2 p6)) := ((HBA.out.trans (HU6.out.mono HBA.out.size)).setCell (p := ⟨z, 4, none⟩) (by rw [HZ.out]; exact Nat.le_refl _) _).setCell (p := ⟨z, 5, none⟩) (by rw [HZ.out]; exact Nat.le_refl _) _
            have al : Fl.Alike (· ≠ z) w6 ((w6.setCell ⟨z, 4, none⟩ (.slice P5 n1 p5)).setCell ⟨z, 5, none⟩ (.slice P6 m2 p6)) := (alike_set w6 z 4 _).trans_ (alike_set _ z 5 _) (by simp)
            have hs5 : z + 1 ≤ w5.heap.size := by have := HSZ.out; have := HU5.out.size; omega
            have hs6 := HB6.out.size
            have r5 : RdG ((w6.setCell ⟨z, 4, none⟩ (.slice P5 n1 p5)).setCell ⟨z, 5, none⟩ (.slice P6 m2 p6)) (fun b => z + 1 ≤ b ∧ b < w6.heap.size) P5 (q.h.old.map strV) := ((rdG_hi (Rd.up (Rd.below HR5.out HB6.out) hs6) HH5.out).mono fun b hb => (by have h1 : W.heap.size ≤ b := hb.1; rw [HSZ.out] at h1; exact ⟨h1, hb.2⟩ : z + 1 ≤ b ∧ b < w6.heap.size)).to (al.mono fun b hb => by omega)
            have r6 : RdG ((w6.setCell ⟨z, 4, none⟩ (.slice P5 n1 p5)).setCell ⟨z, 5, none⟩ (.slice P6 m2 p6)) (fun b => z + 1 ≤ b ∧ b < w6.heap.size) P6 (q.h.new.map strV) := ((rdG_hi HR6.out HH6.out).mono fun b hb => (by have h1 : w5.heap.size ≤ b := hb.1; exact ⟨by omega, hb.2⟩ : z + 1 ≤ b ∧ b < w6.heap.size)).to (al.mono fun b hb => by omega)
            have hsx : ((w6.setCell ⟨z, 4, none⟩ (.slice P5 n1 p5)).setCell ⟨z, 5, none⟩ (.slice P6 m2 p6)).heap.size = w6.heap.size := by simp
            have R5 := Lib.hid r5; have R6 := Lib.hid r6; have HB7 := Lib.hid hb7; have HSX := Lib.hid hsx; have B7 := Lib.hid b7; have HSL := Lib.hid (Nat.le_trans hs5 hs6)
            clear b7 hb7 al hs5 hs6 r5 r6 hsx z4 z5 z4' z5' y4 y5 f4 f5 hzl hzl5 hzl6 PX PY HD HU5 HR5 HH5 HU6 HB6 HR6 HH6 HB6X HBA HBX HSZ
            generalize ((w6.setCell ⟨z, 4, none⟩ (.slice P5 n1 p5)).setCell ⟨z, 5, none⟩ (.slice P6 m2 p6)) = w7 at B7 HB7 R5 R6 HSX ⊢
            have x0 := B7.out.cell 0 rfl; have x1 := B7.out.cell 1 rfl; have x2 := B7.out.cell 2 rfl; have x3 := B7.out.cell 3 rfl; have x4 := B7.out.cell 4 rfl; have x5 := B7.out.cell 5 rfl
            have hzl := B7.out.lt
            have b8 := Blk.new w7 55 #[.int .i64 q.k, strV q.nm, strV q.to, .int .i64 q.h.pos, .slice P5 n1 p5, .slice P6 m2 p6]
            have hb8 : Below wr.heap.size wr (w7.alloc (.cells #[.int .i64 q.k, strV q.nm, strV q.to, .int .i64 q.h.pos, .slice P5 n1 p5, .slice P6 m2 p6] 55)) := HB7.out.alloc HB7.out.size _
            have ho8 := HO.out.below hb8
            have v := HPW.out
            have pg : PG (w7.alloc (.cells #[.int .i64 q.k, strV q.nm, strV q.to, .int .i64 q.h.pos, .slice P5 n1 p5, .slice P6 m2 p6] 55)) (NewIn w (w7.alloc (.cells #[.int .i64 q.k, strV q.nm, strV q.to, .int .i64 q.h.pos, .slice P5 n1 p5, .slice P6 m2 p6] 55)) (Value.slice A4 m4 e4).ownBlock) P5 n1 p5 P6 m2 p6 q := by
              have hout : ∀ b, (z + 1 ≤ b ∧ b < w6.heap.size) → NewIn w (w7.alloc (.cells #[.int .i64 q.k, strV q.nm, strV q.to, .int .i64 q.h.pos, .slice P5 n1 p5, .slice P6 m2 p6] 55)) (Value.slice A4 m4 e4).ownBlock b := fun b hb => ⟨by have h1 := HBW2.out.size; have h2 := HZ.out; omega, by have := HSX.out; simp; omega, fun e => by have := HLT.out b e.symm; omega⟩
              have hal : Fl.Alike (fun b => z + 1 ≤ b ∧ b < w6.heap.size) w7 (w7.alloc (.cells #[.int .i64 q.k, strV q.nm, strV q.to, .int .i64 q.h.pos, .slice P5 n1 p5, .slice P6 m2 p6] 55)) := (alike_below ((Below.refl w7.heap.size w7).alloc (Nat.le_refl _) _)).mono fun b hb => by have := HSX.out; omega
              exact ⟨v.h.l, v.h.l', HK5.out, HK6.out, v.h.m, v.h.m', (R5.out.to hal).mono hout, (R6.out.to hal).mono hout, v.h.p, v.k, v.nm, v.to, v.s, v.s'⟩
            have hc8 := PCells.one pg
            have HB8 := Lib.hid b8; have HW8 := Lib.hid (below_mv HBW2.out hb8); have HO8 := Lib.hid ho8; have HC8 := Lib.hid hc8
            have HLN := Lib.hid (allN_pre (j := k2) HX.out HT.out)
            clear b8 hb8 ho8 v pg hc8
            go_wp2_with (at_builtin; refine wpList_ownF rfl (.tmp 33) (.tmp 35) rfl w 1 1 (.slice A4 m4 e4) (some ⟨w7.heap.size, 0, none⟩) (allN (l.take k) ++ x.l.take k2) [q] _ rfl rfl HO8.out HC8.out rfl ⟨_, rfl, one_srcP HB8.out⟩ rfl (by decide) (by have := HLN.out; omega) HW8.out.size ?_; intro v' W' ho hg)
            obtain ⟨A9, c9, rfl, _⟩ := ownS_slice ho
            refine ⟨⟨k2 + 1, A9, _, c9, by omega, by go_num, rfl, ?_, HW8.out.grown hg HW8.out.size (fun g e => ownS_ge HO8.out g e)⟩, by simp [intOf]; omega⟩
            rw [take_at HQ.out, ← List.append_assoc]
            exact ho
        · go_wp2_with fail
          refine ⟨⟨k + 1, A4, m4, e4, by omega, by go_num, rfl, ?_, HBW2.out⟩, by simp [intOf]; omega⟩
          have ho := HO.out
          have e2 : x.l.take k2 = x.l := List.take_of_length_le (by rw [HXL.out]; omega)
          rw [e2, ← allN_next HX.out] at ho
          exact ho
    · go_wp2
      go_ret
      have e : l.take k = l := List.take_of_length_le (by rw [HN.out]; omega)
      have ho := HO.out
      rw [e] at ho
      obtain ⟨A9, c9, e9, h9⟩ := ownS_slice ho
      rw [e9] at ho ⊢
      exact ⟨A9, c9, rfl, h9, rdP_of_own_hi ho (fun b hb => ⟨hb.1, hb.2.1⟩) (Nat.le_refl _) rfl, HBW.out⟩

end Pn
end Go.Proofs.YtfnhjflocfmcoaaGreat

set_option maxRecDepth 100000
namespace Go.Proofs.YtfnhjflocfmcoaaGreat
open Go.RowKit
set_option linter.unusedVariables false
set_option linter.unusedSimpArgs false
namespace Bm
open Tx Df Sq Hk Tr Pr Fl Pn Tg

/-- What Origins is, by definition: the error, or the births. -/
def orgR (l : List Nm) : Int × OR := match orgN ([], []) l with | some u => (0, u.2) | none => ((doN [] l).1, [])
theorem orgR_no {l : List Nm} (h : (doN [] l).1 ≠ 0) : orgR l = ((doN [] l).1, []) := by
  unfold orgR
  cases hc : orgN ([], []) l with
  | none => rfl
  | some u =>
    have := org_tree hc
    exact absurd (congrArg Prod.fst this) h
theorem orgR_yes {l : List Nm} {u : TR × OR} (h : orgN ([], []) l = some u) : orgR l = (0, u.2) := by unfold orgR; rw [h]
/-- How a call ends that tells origins, or an error. -/
def OrgsEnd (w : World) (r : Int × OR) (e : Ending) (w' : World) : Prop :=
  ∃ A n c, e = .returned (.tuple #[.slice A n c, .int .i64 r.1]) ∧ r.2.length = n ∧ n ≤ c ∧ RdO w' (· < w'.heap.size) A r.2 ∧ Below w.heap.size w w'
theorem orgsEnd_err {w w' : World} {r : Int × OR} {i : Int} (h : r = (i, [])) (hb : Below w.heap.size w w') : OrgsEnd w r (.returned (.tuple #[.slice none 0 0, .int .i64 i])) w' := by
  subst h
  exact ⟨none, 0, 0, rfl, rfl, Nat.le_refl _, .inl rfl, hb⟩
theorem orgsEnd_ok {w w' : World} {r : Int × OR} {o : OR} {A : Option Addr} {n c : Nat} (h : r = (0, o)) (hn : o.length = n) (hc : n ≤ c) (hR : RdO w' (· < w'.heap.size) A o) (hb : Below w.heap.size w w') : OrgsEnd w r (.returned (.tuple #[.slice A n c, .int .i64 0])) w' := by
  subst h
  exact ⟨A, n, c, rfl, hn, hc, hR, hb⟩

theorem tagL_at (i : Id_) : ∀ {L : List Ch} {k j : Nat} {p : Ch}, L[j]? = some p → (tagL i k L)[j]? = some ((i, k + j), p)
  | [], k, j, p, h => by simp at h
  | x :: L, k, 0, p, h => by
    injection h with h
    subst h
    rfl
  | x :: L, k, j + 1, p, h => by
    rw [tagL, List.getElem?_cons_succ, tagL_at i (L := L) (k := k + 1) (j := j) (by simpa using h), show k + 1 + j = k + (j + 1) by omega]
/-- The changes done, up to the k-th patch's j-th. -/
def upTo (l : List Nm) (k j : Nat) (x : Nm) : List Tc := tagA (l.take k) ++ (tagN x).take j
theorem upTo_zero (l : List Nm) (k : Nat) (x : Nm) : upTo l k 0 x = tagA (l.take k) := by unfold upTo; rw [List.take_zero, List.append_nil]
theorem upTo_end {l : List Nm} {k : Nat} {x : Nm} (hx : l[k]? = some x) : upTo l k x.l.length x = tagA (l.take (k + 1)) := by
  unfold upTo
  have e : (tagN x).length = x.l.length := by
    have := congrArg List.length (tagL_snd x.id x.l 0)
    rwa [List.length_map] at this
  rw [List.take_of_length_le (l := tagN x) (by rw [e]; exact Nat.le_refl _), take_at hx, tagA_app, tagA_cons]
  simp [tagA]
theorem upTo_next {l : List Nm} {k j : Nat} {x : Nm} {p : Ch} (hp : x.l[j]? = some p) : upTo l k (j + 1) x = upTo l k j x ++ [((x.id, j), p)] := by
  have h : (tagN x)[j]? = some ((x.id, j), p) := by
    have := tagL_at x.id (k := 0) hp
    rwa [Nat.zero_add] at this
  unfold upTo
  rw [take_at h, List.append_assoc]
theorem upTo_rest {l : List Nm} {k j : Nat} {x : Nm} (hx : l[k]? = some x) : ∃ r, tagA l = upTo l k j x ++ r := by
  have hk := (List.getElem?_eq_some_iff.1 hx)
  have e : l = l.take k ++ (x :: l.drop (k + 1)) := by
    obtain ⟨h1, h2⟩ := hk
    rw [← h2]
    simp
  refine ⟨(tagN x).drop j ++ tagA (l.drop (k + 1)), ?_⟩
  unfold upTo
  rw [List.append_assoc, ← List.append_assoc ((tagN x).take j), List.take_append_drop]
  have h := congrArg tagA e
  rw [tagA_app, tagA_cons] at h
  exact h
theorem tagA_len (l : List Nm) : (tagA l).length = (allN l).length := by rw [← tagA_snd, List.length_map]
theorem tagA_lt {l : List Nm} (h : Lt (allN l)) : ∀ c ∈ tagA l, lightP c.2 = true := fun c hc => h _ (by rw [← tagA_snd]; exact List.mem_map.2 ⟨c, hc, rfl⟩)
theorem most_B : ∀ {T : List Tc} {s u : TR × OR} {k l : Nat}, Most s.1 k l → (∀ c ∈ T, lightP c.2 = true) → k + T.length ≤ 100000 → l + 300 * T.length ≤ 100000 → doL dB s T = some u → Most u.1 (k + T.length) (l + 300 * T.length)
  | [], s, u, k, l, hm, _, _, _, h => by
    injection h with h
    rw [← h]
    exact hm
  | c :: T, s, u, k, l, hm, hl, h1, h2, h => by
    obtain ⟨v, g1, g2⟩ := doL_cons_inv dB h
    rw [List.length_cons] at h1 h2
    obtain ⟨g3, _⟩ := dB_some.1 (show dB s c = some (v.1, v.2) from g1)
    have := most_B (hm.do (by omega) (by omega) (hl c (.head _)) g3) (fun d hd => hl d (.tail _ hd)) (by omega) (by omega) g2
    rw [List.length_cons]
    exact this.mono (by omega) (by omega)
theorem most_nil : Most [] 0 0 := ⟨⟨Nat.zero_le _, fun x hx => by cases hx⟩, Nat.le_refl _, fun x hx => by cases hx⟩
/-- Where a change can be done its file's births are there. -/
theorem one_ok {t u : TR} {o : OR} {p : Ch} {K : Nat} (hL : Like t o) (hM : Most t K 50000) (hd : doP t p = (0, u)) :
    (p.k = 0 ∨ p.k = 1 ∨ p.k = 2 ∨ p.k = 3 ∨ p.k = 4) ∧ (p.k ≠ 0 → p.k ≠ 1 → ∃ m, get o p.nm = some m ∧ m.length ≤ 50000 ∧ (p.k ≠ 2 → 0 ≤ p.h.pos ∧ p.h.pos.toNat + p.h.old.length ≤ m.length)) := by
  obtain ⟨hm, hc⟩ := doP_cases hd
  rcases hc with ⟨hk, _⟩ | ⟨hk, _⟩ | ⟨hk, l, hg, _⟩ | ⟨hk, l, hg, he, _⟩
  · exact ⟨.inl hk, fun h => absurd hk h⟩
  · exact ⟨.inr (.inl hk), fun _ h => absurd hk h⟩
  · obtain ⟨m, hmo, hml⟩ := like_some hL hg
    exact ⟨.inr (.inr (.inl hk)), fun _ _ => ⟨m, hmo, by rw [hml]; exact hM.l _ (get_mem hg), fun h => absurd hk h⟩⟩
  · obtain ⟨m, hmo, hml⟩ := like_some hL hg
    obtain ⟨i0, i1, _⟩ := line_in hm hk he
    exact ⟨.inr (.inr (.inr hk)), fun _ _ => ⟨m, hmo, by rw [hml]; exact hM.l _ (get_mem hg), fun _ => ⟨i0, by rw [hml]; exact i1⟩⟩⟩
/-- What stands behind the j-th change of the k-th patch, and what the next one does. -/
theorem org_step {l : List Nm} {k j : Nat} {x : Nm} {p : Ch} {t : TR} {o : OR} {u : TR × OR} (hx : l[k]? = some x) (hp : x.l[j]? = some p) (hall : orgN ([], []) l = some u) (hlt : Lt (allN l)) (hle : (allN l).length ≤ 150) (h : doL dB ([], []) (upTo l k j x) = some (t, o)) :
    Like t o ∧ o.length ≤ 150 ∧ (p.k = 0 ∨ p.k = 1 ∨ p.k = 2 ∨ p.k = 3 ∨ p.k = 4) ∧ (p.k ≠ 0 → p.k ≠ 1 → ∃ m, get o p.nm = some m ∧ m.length ≤ 50000 ∧ (p.k ≠ 2 → 0 ≤ p.h.pos ∧ p.h.pos.toNat + p.h.old.length ≤ m.length)) ∧ p.h.new.length ≤ 1000 ∧ ∃ t', doL dB ([], []) (upTo l k (j + 1) x) = some (t', oneB o (x.id, j) p) := by
  obtain ⟨r, hr⟩ := upTo_rest (j := j + 1) hx
  obtain ⟨r0, hr0⟩ := upTo_rest (j := j) hx
  have hlen : (upTo l k j x).length ≤ 150 := by
    have h1 := tagA_len l
    rw [hr0, List.length_append] at h1
    omega
  have hlight : ∀ c ∈ upTo l k j x, lightP c.2 = true := fun c hc => tagA_lt hlt c (by rw [hr0]; exact List.mem_append_left _ hc)
  have hlp : lightP p = true := tagA_lt hlt ((x.id, j), p) (by rw [hr, upTo_next hp]; simp)
  have hL : Like t o := doB_like like_nil h
  have hM := most_B most_nil hlight (by omega) (by omega) h
  have hall2 : doL dB ([], []) (tagA l) = some u := hall
  rw [hr, upTo_next hp, List.append_assoc, doL_app, h] at hall2
  have hall3 : doL dB (t, o) ([((x.id, j), p)] ++ r) = some u := hall2
  obtain ⟨v, g1, g2⟩ := doL_cons_inv dB hall3
  obtain ⟨g3, g4⟩ := dB_some.1 (show dB (t, o) ((x.id, j), p) = some (v.1, v.2) from g1)
  obtain ⟨o1, o2⟩ := one_ok hL (hM.mono (Nat.le_refl _) (by omega)) g3
  refine ⟨hL, ?_, o1, o2, ?_, v.1, ?_⟩
  · have h1 := (like_at hL).1
    have h2 : t.length ≤ _ := hM.k
    omega
  · have := lightP_h hlp
    omega
  · rw [upTo_next hp, doL_app, h]
    show doL dB (t, o) [((x.id, j), p)] = _
    rw [doL_cons dB (show dB (t, o) ((x.id, j), p) = some (v.1, oneB o (x.id, j) p) by rw [g1, ← g4])]
    rfl

end Bm
end Go.Proofs.YtfnhjflocfmcoaaGreat

set_option maxRecDepth 100000
namespace Go.Proofs.YtfnhjflocfmcoaaGreat
open Go.RowKit
set_option linter.unusedVariables false
namespace Bm
open Tx Df Sq Hk Tr Pr Fl Pn Tg

/-- The births of a name; of one that is not there: none. -/
def bir (o : OR) (s : List UInt8) : List Bi := (get o s).getD []
/-- A change that adds or takes away a file leaves the births of all names. -/
theorem bir_01 {t u : TR} {o : OR} {a : Tag} {p : Ch} (hL : Like t o) (hd : doP t p = (0, u)) (hk : p.k = 0 ∨ p.k = 1) : bir (oneB o a p) = bir o := by
  funext s
  unfold bir
  rw [oneB_get hL.uo]
  by_cases ht : touch p s
  · rw [if_pos ht]
    have e : p.nm = s := by
      rcases ht with h | h
      · exact h
      · omega
    subst e
    obtain ⟨hm, hc⟩ := doP_cases hd
    rcases hc with ⟨h0, hg, _⟩ | ⟨h1, hg, _⟩ | ⟨h2, _⟩ | ⟨h3, _⟩
    · rw [like_none hL hg]
      unfold val
      rw [if_pos h0]
      rfl
    · obtain ⟨m, hmo, hml⟩ := like_some hL hg
      have : m = [] := List.eq_nil_of_length_eq_zero hml
      subst this
      rw [hmo]
      unfold val
      rw [if_neg (by omega), if_pos h1]
      rfl
    · omega
    · omega
  · rw [if_neg ht]
theorem bir_2 {t u : TR} {o : OR} {a : Tag} {p : Ch} (hL : Like t o) (hd : doP t p = (0, u)) (hk : p.k = 2) : p.nm ≠ p.to ∧ bir (oneB o a p) = fun s => if s = p.nm then [] else if s = p.to then bir o p.nm else bir o s := by
  have hne : p.nm ≠ p.to := by
    obtain ⟨hm, hc⟩ := doP_cases hd
    rcases hc with ⟨h0, _⟩ | ⟨h1, _⟩ | ⟨h2, l, hg, ht, _⟩ | ⟨h3, _⟩
    · omega
    · omega
    · intro e
      rw [← e, hg] at ht
      cases ht
    · omega
  refine ⟨hne, ?_⟩
  funext s
  show (get (oneB o a p) s).getD [] = if s = p.nm then [] else if s = p.to then bir o p.nm else bir o s
  rw [oneB_get hL.uo]
  unfold val
  by_cases h1 : s = p.nm
  · subst h1
    rw [if_pos (show touch p p.nm from .inl rfl), if_pos rfl, if_neg (by omega), if_neg (by omega), if_pos hk, if_neg (fun e => hne e.symm)]
    rfl
  · rw [if_neg h1]
    by_cases h2 : s = p.to
    · subst h2
      rw [if_pos (show touch p p.to from .inr ⟨hk, rfl⟩), if_pos rfl, if_neg (by omega), if_neg (by omega), if_pos hk, if_pos rfl]
      rfl
    · rw [if_neg h2, if_neg (show ¬ touch p s from fun h => by rcases h with h | h; exact h1 h.symm; exact h2 h.2.symm)]
      rfl
theorem bir_34 {o : OR} {a : Tag} {p : Ch} (ho : Up lt o) (hk : p.k = 3 ∨ p.k = 4) : bir (oneB o a p) = fun s => if s = p.nm then born a p (bir o p.nm) else bir o s := by
  funext s
  show (get (oneB o a p) s).getD [] = if s = p.nm then born a p (bir o p.nm) else bir o s
  rw [oneB_get ho]
  unfold val
  by_cases h1 : s = p.nm
  · subst h1
    rw [if_pos (show touch p p.nm from .inl rfl), if_pos rfl, if_neg (by omega), if_neg (by omega), if_neg (by omega)]
    rfl
  · rw [if_neg h1, if_neg (show ¬ touch p s from fun h => by rcases h with h | h; exact h1 h.symm; omega)]
    rfl

/-- How an element reads: as the value that it is. -/
def selfR (v : Value) : Option (DataW Value × List MemPlace) := some (.held v, [])
/-- The births of names, in the map of block b, of at most n entries; their memory lies in blocks that S names. -/
def BirG (w : World) (S : Nat → Prop) (b n : Nat) (F : List UInt8 → List Bi) : Prop :=
  ∃ D : DataW Value, w.ownsMap Tryz.prog 9 selfR b n D ∧ ∀ s, ∃ A c, D.atKey (.string s) (.held (.slice none 0 0)) = .held (.slice A (F s).length c) ∧ (F s).length ≤ c ∧ RdB w S A (F s)
/-- .. in other blocks than b. -/
abbrev BirM (w : World) (b n : Nat) (F : List UInt8 → List Bi) : Prop := BirG w (fun g => g ≠ b ∧ g < w.heap.size) b n F
theorem law_strB : Maps.Keyed Tryz.prog 9 := Maps.string_keyed Tryz.underlying9
theorem key_strB {s : List UInt8} (h : s.length ≤ maxLen) : keyOf Tryz.prog 9 (strV s) = some (.string s) := Go.WideMaps.keyOf_string_mk Tryz.underlying9 (by rw [size_strV]; exact h)
theorem zero_bis (w : World) : (zeroValue 46).run Tryz.prog w = .ok (.slice none 0 0) w := by rfl
section
variable {w w' : World} {b n m : Nat} {F : List UInt8 → List Bi}
theorem birM_made (w : World) : BirM (w.alloc (.map #[] 0)) w.heap.size 0 fun _ => [] :=
  ⟨.map [], World.ownsMap_made _ _ _ _, fun s => ⟨none, 0, rfl, Nat.le_refl _, .inl rfl⟩⟩
theorem BirM.lt (h : BirM w b n F) : b < w.heap.size := h.elim fun D h => h.1.lt
theorem BirM.below (h : BirM w b n F) (hb : Below w.heap.size w w') : BirM w' b n F := by
  obtain ⟨D, h1, h2⟩ := h
  refine ⟨D, h1.kept (below_gr_row hb) (by simp), fun s => ?_⟩
  obtain ⟨A, c, g1, g2, g3⟩ := h2 s
  exact ⟨A, c, g1, g2, (g3.to fun g hg hl => hb.block g hl).mono fun g hg => ⟨hg.1, Nat.lt_of_lt_of_le hg.2 hb.size⟩⟩
theorem BirM.mono (h : BirM w b n F) (hn : n ≤ m) : BirM w b m F := by
  obtain ⟨D, h1, h2⟩ := h
  exact ⟨D, h1.mono hn, h2⟩
theorem BirG.same {S : Nat → Prop} (h : BirG w S b n F) (hS : ∀ g, S g → g < w.heap.size) (hb : Below w.heap.size w w') : BirG w' S b n F := by
  obtain ⟨D, h1, h2⟩ := h
  refine ⟨D, h1.kept (below_gr_row hb) (by simp), fun s => ?_⟩
  obtain ⟨A, c, g1, g2, g3⟩ := h2 s
  exact ⟨A, c, g1, g2, g3.to fun g hg hl => hb.block g hl⟩
/-- m[s]. -/
theorem BirG.look {S : Nat → Prop} (h : BirG w S b n F) {s : List UInt8} (hs : s.length ≤ maxLen) :
    ∃ A c, (Instr.lookup 62 (.map (some b)) (strV s) false).run Tryz.prog w = .ok (.slice A (F s).length c) w ∧ (F s).length ≤ c ∧ RdB w S A (F s) := by
  obtain ⟨D, h1, h2⟩ := h
  obtain ⟨A, c, g1, g2, g3⟩ := h2 s
  obtain ⟨v, ps, hr, hv⟩ := h1.lookup law_strB Tryz.underlying62 (zero_bis w) (zd := .held (.slice none 0 0)) (zp := []) rfl (key_strB hs)
  rw [g1] at hv
  injection hv with hv
  injection hv with hv
  injection hv with hv
  subst hv
  exact ⟨A, c, hr, g2, g3⟩
/-- m[s] = births. -/
theorem BirM.put (h : BirM w b n F) {s : List UInt8} (hs : s.length ≤ maxLen) (hn : n < maxLen) {A : Option Addr} {c : Nat} {l : List Bi} (hl : l.length = m) (hc : m ≤ c) (hR : RdB w (fun g => g ≠ b ∧ g < w.heap.size) A l) :
    ∃ w', (Instr.mapUpdate 62 (.map (some b)) (strV s) (.slice A m c)).run Tryz.prog w = .ok () w' ∧ BirM w' b (n + 1) (fun x => if x = s then l else F x) ∧ w.grownBy w' (some b) := by
  obtain ⟨D, h1, h2⟩ := h
  obtain ⟨w', hr, r1, r2⟩ := h1.update law_strB Tryz.underlying62 hn (key_strB hs) (show selfR (.slice A m c) = some (.held (.slice A m c), []) from rfl)
  have hal : Fl.Alike (fun g => g ≠ b ∧ g < w.heap.size) w w' := fun g hg hl => r2.block g hl (fun e => hg.1 (by injection e))
  have hto : ∀ {A : Option Addr} {u : List Bi}, RdB w (fun g => g ≠ b ∧ g < w.heap.size) A u → RdB w' (fun g => g ≠ b ∧ g < w'.heap.size) A u := fun hr => (hr.to hal).mono fun g hg => ⟨hg.1, Nat.lt_of_lt_of_le hg.2 r2.size⟩
  refine ⟨w', hr, ⟨_, r1, fun x => ?_⟩, r2⟩
  by_cases e : x = s
  · subst e
    refine ⟨A, c, ?_, ?_, ?_⟩
    · rw [Maps.atKey_put_same h1.isMap (show WideAt.IsKeyLit (.string x) from trivial)]
      simp only [if_true, hl]
    · simp only [if_true, hl]; exact hc
    · simp only [if_true]; exact hto hR
  · obtain ⟨A2, c2, g1, g2, g3⟩ := h2 x
    refine ⟨A2, c2, ?_, ?_, ?_⟩
    · rw [Maps.atKey_put_other (fun e2 => e (by injection e2))]
      simp only [if_neg e]
      exact g1
    · simp only [if_neg e]; exact g2
    · simp only [if_neg e]; exact hto g3
/-- delete(m, s). -/
theorem BirM.del (h : BirM w b n F) {s : List UInt8} (hs : s.length ≤ maxLen) (ty : TypeId) :
    ∃ w', (Builtin.delete_ #[62, 9] ty #[.map (some b), strV s]).run Tryz.prog w = .ok (.tuple #[]) w' ∧ BirM w' b n (fun x => if x = s then [] else F x) ∧ w.grownBy w' (some b) := by
  obtain ⟨D, h1, h2⟩ := h
  obtain ⟨w', hr, r1, r2⟩ := h1.drop law_strB Tryz.underlying62 (key_strB hs) ty
  have hal : Fl.Alike (fun g => g ≠ b ∧ g < w.heap.size) w w' := fun g hg hl => r2.grown.block g hl (fun e => hg.1 (by injection e))
  refine ⟨w', hr, ⟨_, r1, fun x => ?_⟩, r2.grown⟩
  by_cases e : x = s
  · subst e
    refine ⟨none, 0, ?_, ?_, ?_⟩
    · rw [Maps.atKey_del_same]
      simp
    · simp
    · simp only [if_true]; exact .inl rfl
  · obtain ⟨A2, c2, g1, g2, g3⟩ := h2 x
    refine ⟨A2, c2, ?_, ?_, ?_⟩
    · rw [Maps.atKey_del_other (fun e2 => e (by injection e2))]
      simp only [if_neg e]
      exact g1
    · simp only [if_neg e]; exact g2
    · simp only [if_neg e]; exact (g3.to hal).mono fun g hg => ⟨hg.1, Nat.lt_of_lt_of_le hg.2 r2.grown.size⟩
end
theorem wpList_put_bir {W : World} {ops : Array Oper} {rest : List Oper} {o : Oper} {a : Act} {Q : Exit → Act → World → Prop} (hg : o.guard = none) (mo x v : Operand) (hop : o.op = Op.mapUpdate 62 mo x v)
    (b n m c : Nat) (F : List UInt8 → List Bi) (s : List UInt8) (A : Option Addr) (l : List Bi) (hm : a.eval mo = .map (some b)) (hx : a.eval x = strV s) (hv : a.eval v = .slice A m c) (h : BirM W b n F) (hs : s.length ≤ maxLen) (hn : n < maxLen) (hl : l.length = m) (hc : m ≤ c) (hR : RdB W (fun g => g ≠ b ∧ g < W.heap.size) A l)
    (hK : ∀ W', BirM W' b (n + 1) (fun x => if x = s then l else F x) → W.grownBy W' (some b) → wpList Tryz.prog ops Q rest (a.put o.dst undef) W') : wpList Tryz.prog ops Q (o :: rest) a W := by
  refine wpList_plain hg fun K' hK' => ?_
  obtain ⟨W', hrun, r1, r2⟩ := h.put hs hn hl hc hR
  unfold Oper.wp
  simp [execOp, hop, hm, hx, hv, hrun, Result.andThen]
  exact hK' _ _ (hK W' r1 r2)
theorem wpList_del_bir {W : World} {ops : Array Oper} {rest : List Oper} {o : Oper} {a : Act} {Q : Exit → Act → World → Prop} (hg : o.guard = none) (mo x : Operand) (hop : o.op = Op.call { callee := Callee.builtin Builtin.delete, args := #[mo, x], argTypes := #[62, 9] })
    (b n : Nat) (F : List UInt8 → List Bi) (s : List UInt8) (hm : a.eval mo = .map (some b)) (hx : a.eval x = strV s) (h : BirM W b n F) (hs : s.length ≤ maxLen)
    (hK : ∀ W', BirM W' b n (fun x => if x = s then [] else F x) → W.grownBy W' (some b) → wpList Tryz.prog ops Q rest (a.put o.dst (.tuple #[])) W') : wpList Tryz.prog ops Q (o :: rest) a W := by
  refine wpList_plain hg fun K' hK' => ?_
  obtain ⟨W', hrun, r1, r2⟩ := h.del hs o.type
  unfold Oper.wp
  simp [execOp, hop, resolve, invoke, builtin, hm, hx, hrun, Result.andThen]
  exact hK' _ _ (hK W' r1 r2)
theorem wpList_look_bir {W : World} {ops : Array Oper} {rest : List Oper} {o : Oper} {a : Act} {Q : Exit → Act → World → Prop} (hg : o.guard = none) (mo x : Operand) (hop : o.op = Op.lookup 62 mo x false)
    {S : Nat → Prop} (b n : Nat) (F : List UInt8 → List Bi) (s : List UInt8) (hm : a.eval mo = .map (some b)) (hx : a.eval x = strV s) (h : BirG W S b n F) (hs : s.length ≤ maxLen)
    (hK : ∀ A c, (F s).length ≤ c → RdB W S A (F s) → wpList Tryz.prog ops Q rest (a.put o.dst (.slice A (F s).length c)) W) : wpList Tryz.prog ops Q (o :: rest) a W := by
  refine wpList_plain hg fun K' hK' => ?_
  obtain ⟨A, c, hrun, r1, r2⟩ := h.look hs
  unfold Oper.wp
  simp [execOp, hop, hm, hx, hrun, Result.andThen]
  exact hK' _ _ (hK A c r1 r2)

end Bm
end Go.Proofs.YtfnhjflocfmcoaaGreat

set_option maxRecDepth 100000
namespace Go.Proofs.YtfnhjflocfmcoaaGreat
open Go.RowKit
set_option linter.unusedVariables false
set_option linter.unusedSimpArgs false
namespace Bm
open Tx Df Sq Hk Tr Pr Fl Pn Tg

set_option maxHeartbeats 2000000 in
theorem BornB (i : Id_) (no n : Nat) (w : World) (hle : n ≤ 1000) :
    Calls Tryz.prog 19 #[.agg #[.int .i64 i.1, .int .i64 i.2], .int .i64 (no : Int), .int .i64 (n : Int)] w (BisEnd w (births (i, no) n)) := by
  have b0 := Blk.new w 31 #[.int .i64 i.1, .int .i64 i.2]
  have hba : Below w.heap.size w (w.alloc (.cells #[.int .i64 i.1, .int .i64 i.2] 31)) := (Below.refl _ _).alloc (Nat.le_refl _) _
  go_enter Tryz.func19, Tryz.ntmps19
  go_upto_region 3 with fail
  generalize (w.alloc (.cells #[.int .i64 i.1, .int .i64 i.2] 31)) = w1 at b0 hba ⊢
  obtain ⟨z, hz⟩ : ∃ z, w.heap.size = z := ⟨_, rfl⟩
  rw [hz] at b0 ⊢
  have HZ := Lib.hid hz; have HB0 := Lib.hid b0; have HBA := Lib.hid hba
  clear hz b0 hba
  go_loopw [7, 10] (fun v j wr => ∃ (k : Nat) (A1 : Option Addr) (m c1 : Nat), k ≤ n ∧ j = .int .i64 (k : Int) ∧ v = .slice A1 m c1 ∧ OwnB wr w1.heap.size (.slice A1 m c1) (births (i, no) k) ∧ Below w1.heap.size w1 wr) (fun _ j _ => n - (intOf j).toNat)
  case atStart => exact ⟨0, none, 0, 0, Nat.zero_le _, rfl, rfl, ownB_nil _ _, Below.refl _ _⟩
  case round =>
    obtain ⟨k, A1, m, c1, hk, rfl, rfl, hO, hbw⟩ := hrel
    have HBW := Lib.hid hbw; have HO := Lib.hid hO; clear hbw hO
    by_cases hlt : k < n
    · have hki : (k : Int) < (n : Int) := by omega
      have hb0 := HB0.out.below HBW.out HB0.out.lt
      have x0 := hb0.cell 0 rfl; have x1 := hb0.cell 1 rfl; have xl := hb0.lt
      have hba : Below wr.heap.size wr (wr.alloc (.cells #[.int .i64 i.1, .int .i64 i.2, .int .i64 (no : Int), .int .i64 (k : Int)] 33)) := (Below.refl _ _).alloc (Nat.le_refl _) _
      have b1 := Blk.new wr 33 #[.int .i64 i.1, .int .i64 i.2, .int .i64 (no : Int), .int .i64 (k : Int)]
      have HS1 := Lib.hid (rdB_lone (S := fun _ => True) (x := ((i, no), k)) b1 trivial)
      have HO1 := Lib.hid (own_gr HO.out (below_gr_row hba))
      have HB1 := Lib.hid (below_mv HBW.out hba)
      have HL := Lib.hid (show (births (i, no) k).length + 1 ≤ 100000 by rw [births_len]; omega)
      clear hba b1 hb0
      go_wp2_with (at_builtin; refine wpList_ownB rfl (.tmp 13) (.tmp 18) rfl (fun _ => True) w1.heap.size 1 1 (.slice A1 m c1) (some ⟨wr.heap.size, 0, none⟩) (births (i, no) k) [((i, no), k)] rfl rfl HO1.out HS1.out rfl HL.out HB1.out.size ?_; intro v' W' ho hg)
      rw [← births_snoc] at ho
      obtain ⟨A9, c9, hv9, _, _⟩ := rdB_own ho
      subst hv9
      refine ⟨⟨k + 1, A9, _, c9, by omega, by go_num, rfl, ho, HB1.out.grown hg HB1.out.size (fun g e => ownB_ge HO1.out g e)⟩, by simp [intOf]; omega⟩
    · obtain rfl : k = n := by omega
      have hki : ¬ (k : Int) < (k : Int) := by omega
      go_wp2
      go_ret
      obtain ⟨A9, c9, e9, h9, h10⟩ := rdB_own HO.out
      injection e9 with e1 e2 e3
      subst e1 e2 e3
      have hs := HBA.out.size
      exact ⟨_, _, _, rfl, rfl, h9, h10.mono fun b hb => ⟨Nat.le_trans hs hb.1, hb.2⟩, below_mv HBA.out HBW.out⟩

/-- How Grow ends, of nil: no births, in a row of one's own. -/
def GrowEnd (w : World) (e : Ending) (w' : World) : Prop := ∃ A c, e = .returned (.slice A 0 c) ∧ OwnB w' w.heap.size (.slice A 0 c) [] ∧ Below w.heap.size w w'
set_option maxHeartbeats 1000000 in
theorem GrowB (n : Nat) (w : World) (hle : n ≤ 1000000) : Calls Tryz.prog 60 #[.slice none 0 0, .int .i64 (n : Int)] w (GrowEnd w) := by
  obtain ⟨i0, hi0, hz0, hz1, hz2⟩ := info_parts info_birth
  by_cases hn : n = 0
  · subst hn
    go_enter Tryz.func60, Tryz.ntmps60
    go_wp2
    go_ret
    exact ⟨none, 0, rfl, ownB_nil _ _, Below.refl _ _⟩
  · have h := Lib.run_append_nil_zeros (P := Tryz.prog) w 46 3 46 33 i0 _ .i64 .i64 Tryz.underlying46 Tryz.underlying3 hi0 hz0 n (by omega) (by rw [hz1]; decide) (by omega) (by rw [hz2]; omega)
    have hge := grownCap_ge w n 0 33
    have hmx := grownCap_le_maxLen w n 0 33 (by unfold maxLen; omega)
    generalize grownCap w n 0 33 = G at h hge hmx
    have hsz : (Builtin.zeroCells (Value.agg #[.int .i64 0, .int .i64 0, .int .i64 0, .int .i64 0]).cells n ++ Builtin.zeroCells (Value.agg #[.int .i64 0, .int .i64 0, .int .i64 0, .int .i64 0]).cells (G - n)).size = G * 4 := by
      simp only [Array.size_append, size_zeroCells, show (Value.agg #[.int .i64 0, .int .i64 0, .int .i64 0, .int .i64 0]).cells.size = 4 from rfl]
      omega
    generalize (Builtin.zeroCells (Value.agg #[.int .i64 0, .int .i64 0, .int .i64 0, .int .i64 0]).cells n ++ Builtin.zeroCells (Value.agg #[.int .i64 0, .int .i64 0, .int .i64 0, .int .i64 0]).cells (G - n)) = R at h hsz
    obtain ⟨W1, hW1⟩ : ∃ W1, w.drew.alloc (.cells R 33) = W1 := ⟨_, rfl⟩
    have hb1 : Below w.heap.size w W1 := by rw [← hW1]; exact (below_drewN (Below.refl _ w) 1).alloc (Nat.le_refl _) _
    have ho1 : OwnB W1 w.heap.size (.slice (some ⟨w.heap.size, 0, none⟩) 0 G) [] := ⟨rfl, .inr ⟨w.heap.size, G, R, rfl, Nat.le_refl _, by rw [← hW1]; exact heap_alloc_new w.drew _, Nat.zero_le _, hmx, hsz, rfl⟩⟩
    rw [hW1] at h
    have HRUN := Lib.hid h; have HB1 := Lib.hid hb1; have HO1 := Lib.hid ho1
    have hG63 : G ≤ 9223372036854775807 := by unfold maxLen at hmx; omega
    have hn0 : (0 : Int) < (n : Int) := by omega
    have hnn : ¬ (n : Int) < 0 := by omega
    clear h hb1 ho1 hW1 hsz hmx
    go_enter Tryz.func60, Tryz.ntmps60
    go_wp2_with (at_builtin; refine Lib.wpList_append_run _ rfl _ _ _ _ rfl _ _ rfl rfl _ _ HRUN.out ?_)
    go_ret
    exact ⟨_, G, rfl, HO1.out, HB1.out⟩

/-- A row of slices of births, at the address a. -/
def RowB (w : World) (a : Addr) (ls : List (List Bi)) : Prop := ∀ (k : Nat) x, ls[k]? = some x → ∃ A m c, w.cell? (a.add k) = some (.slice A m c) ∧ x.length = m ∧ m ≤ c ∧ RdB w (· < w.heap.size) A x
theorem flat_snoc {ls : List (List Bi)} {k : Nat} {x : List Bi} (hx : ls[k]? = some x) : (ls.take (k + 1)).flatten = (ls.take k).flatten ++ x := by
  rw [take_at hx, List.flatten_append]
  simp
theorem flat_part (ls : List (List Bi)) (k : Nat) : (ls.take k).flatten.length ≤ ls.flatten.length := by
  have h : ls.flatten = (ls.take k).flatten ++ (ls.drop k).flatten := by rw [← List.flatten_append, List.take_append_drop]
  rw [h, List.length_append]
  omega
set_option maxHeartbeats 2000000 in
theorem ConcatB (a : Addr) (n c : Nat) (ls : List (List Bi)) (w : World) (hn : ls.length = n) (hle : n ≤ 1000) (ha : a.block < w.heap.size) (hR : RowB w a ls) (hT : ls.flatten.length ≤ 100000) :
    Calls Tryz.prog 49 #[.slice (some a) n c] w (BisEnd w ls.flatten) := by
  have HN := Lib.hid hn; have HR := Lib.hid hR; have HT := Lib.hid hT; have HA := Lib.hid ha
  clear hn hR hT ha
  go_enter Tryz.func49, Tryz.ntmps49
  go_wp2_with fail
  go_loop [3, 11] (fun v j => ∃ k s : Nat, k ≤ n ∧ j = .int .i64 (k : Int) ∧ v = .int .i64 (s : Int) ∧ (ls.take k).flatten.length = s) (fun _ j => n - (intOf j).toNat)
  case atStart => exact ⟨0, 0, Nat.zero_le _, rfl, rfl, rfl⟩
  case round =>
    obtain ⟨k, s, hk, rfl, rfl, hs⟩ := hrel
    have HS := Lib.hid hs
    have hsl : s ≤ 100000 := by have := flat_part ls k; have := HT.out; omega
    clear hs
    by_cases hlt : k < n
    · have hki : (k : Int) < (n : Int) := by omega
      obtain ⟨x, hx⟩ : ∃ x, ls[k]? = some x := ⟨_, List.getElem?_eq_getElem (by rw [HN.out]; exact hlt)⟩
      obtain ⟨A, m, cm, h1, h2, _, _⟩ := HR.out k x hx
      have HX : Hid ((ls.take (k + 1)).flatten.length = s + m) := Lib.hid (by rw [flat_snoc hx, List.length_append, HS.out, h2])
      have hml : s + m ≤ 100000 := by have := flat_part ls (k + 1); have := HT.out; have := HX.out; omega
      have hD : ¬ (s : Int) + (m : Int) < 0 := by omega
      clear hx h2
      go_wp2
      go_round
      case rel => exact ⟨k + 1, s + m, by omega, by go_num, by go_num, HX.out⟩
      case measure => simp [intOf]; omega
    · obtain rfl : k = n := by omega
      have hki : ¬ (k : Int) < (k : Int) := by omega
      have HTS : Hid (ls.flatten.length = s) := Lib.hid (by rw [← HS.out, List.take_of_length_le (by rw [HN.out]; exact Nat.le_refl _)])
      clear HS
      go_wp2_with fail
      refine (GrowB s w (by omega)).mono ?_
      rintro e w1 ⟨A0, c0, rfl, ho, hb⟩
      have HO0 := Lib.hid ho; have HB0 := Lib.hid hb
      clear ho hb
      go_wp2_with fail
      go_loopw [6, 27] (fun v j wr => ∃ (q : Nat) (A1 : Option Addr) (m c1 : Nat), q ≤ k ∧ j = .int .i64 (q : Int) ∧ v = .slice A1 m c1 ∧ OwnB wr w.heap.size (.slice A1 m c1) (ls.take q).flatten ∧ Below w.heap.size w wr) (fun _ j _ => k - (intOf j).toNat)
      case atStart => exact ⟨0, A0, 0, c0, Nat.zero_le _, rfl, rfl, HO0.out, HB0.out⟩
      case round =>
        obtain ⟨q, A1, m, c1, hq, rfl, rfl, hO, hbw⟩ := hrel
        have HBW := Lib.hid hbw; have HO := Lib.hid hO; clear hbw hO
        by_cases hlt : q < k
        · have hki : (q : Int) < (k : Int) := by omega
          obtain ⟨x, hx⟩ : ∃ x, ls[q]? = some x := ⟨_, List.getElem?_eq_getElem (by rw [HN.out]; exact hlt)⟩
          obtain ⟨A, mx, cm, h1, h2, h3, h4⟩ := HR.out q x hx
          have h1' := (HBW.out.cell (p := a.add q) (by rw [add_block]; exact HA.out)).trans h1
          have HX := Lib.hid (flat_snoc hx)
          have HRX := Lib.hid (h4.to (fun b _ hl => HBW.out.block b hl))
          have HLX := Lib.hid h2
          have HLL := Lib.hid (show (ls.take q).flatten.length + mx ≤ 100000 by
            have h := flat_part ls (q + 1)
            rw [HX.out, List.length_append, h2] at h
            have := HT.out
            omega)
          clear hx h1 h2 h3 h4
          go_wp2_with (at_builtin; refine wpList_ownB rfl (.tmp 31) (.tmp 32) rfl (· < w.heap.size) w.heap.size mx cm (.slice A1 m c1) A (ls.take q).flatten x rfl rfl HO.out HRX.out HLX.out HLL.out HBW.out.size ?_; intro v' W' ho hg)
          rw [← HX.out] at ho
          obtain ⟨A9, c9, hv9, _, _⟩ := rdB_own ho
          subst hv9
          refine ⟨⟨q + 1, A9, _, c9, by omega, by go_num, rfl, ho, bis_grown HBW.out HO.out hg⟩, by simp [intOf]; omega⟩
        · obtain rfl : q = k := by omega
          have hki : ¬ (q : Int) < (q : Int) := by omega
          have HF : Hid ((ls.take q).flatten = ls.flatten) := Lib.hid (by rw [List.take_of_length_le (by rw [HN.out]; exact Nat.le_refl _)])
          go_wp2
          go_ret
          obtain ⟨A9, c9, e9, h9, h10⟩ := rdB_own HO.out
          injection e9 with e1 e2 e3
          subst e1 e2 e3
          rw [HF.out] at h9 h10 ⊢
          exact ⟨_, _, _, rfl, rfl, h9, h10, HBW.out⟩

theorem row3 {W : World} {g : Nat} {t : TypeId} {A1 A2 A3 : Option Addr} {n1 c1 n2 c2 n3 c3 : Nat} {l1 l2 l3 : List Bi} (h : Blk W g t #[.slice A1 n1 c1, .slice A2 n2 c2, .slice A3 n3 c3])
    (e1 : l1.length = n1) (e2 : l2.length = n2) (e3 : l3.length = n3) (k1 : n1 ≤ c1) (k2 : n2 ≤ c2) (k3 : n3 ≤ c3) (r1 : RdB W (· < W.heap.size) A1 l1) (r2 : RdB W (· < W.heap.size) A2 l2) (r3 : RdB W (· < W.heap.size) A3 l3) : RowB W ⟨g, 0, none⟩ [l1, l2, l3] := fun k x hx => by
  have ea : ∀ j, (⟨g, 0, none⟩ : Addr).add j = ⟨g, j, none⟩ := fun j => by unfold Addr.add; split <;> simp_all
  rw [ea]
  rcases k with _ | _ | _ | k
  · injection hx with hx; subst hx; exact ⟨A1, n1, c1, h.cell 0 rfl, e1, k1, r1⟩
  · injection hx with hx; subst hx; exact ⟨A2, n2, c2, h.cell 1 rfl, e2, k2, r2⟩
  · injection hx with hx; subst hx; exact ⟨A3, n3, c3, h.cell 2 rfl, e3, k3, r3⟩
  · simp at hx
set_option maxHeartbeats 2000000 in
theorem SwapB (A : Option Addr) (n c : Nat) (i m : Nat) (B : Option Addr) (k d : Nat) (l now : List Bi) (w : World) (hn : l.length = n) (hc : n ≤ c) (hk : now.length = k) (hd : k ≤ d) (hi : i + m ≤ n) (hle : n + k ≤ 90000) (hR : RdB w (· < w.heap.size) A l) (hR' : RdB w (· < w.heap.size) B now) :
    Calls Tryz.prog 34 #[.slice A n c, .int .i64 (i : Int), .int .i64 (m : Int), .slice B k d] w (BisEnd w (swp l i m now)) := by
  have HN := Lib.hid hn; have HC := Lib.hid hc; have HK := Lib.hid hk; have HD := Lib.hid hd; have HR := Lib.hid hR; have HR' := Lib.hid hR'
  have HL1 := Lib.hid (show (l.take i).length = i by rw [List.length_take, hn]; omega)
  have HL3 := Lib.hid (show (l.drop (i + m)).length = n - (i + m) by rw [List.length_drop, hn])
  have HCUT := Lib.hid (rdB_cut (k := i + m) (cap := c) hR (by rw [hn]; exact hc))
  have HE : Hid ([l.take i, now, l.drop (i + m)].flatten = swp l i m now) := Lib.hid (by unfold Sq.swp; simp)
  clear hn hk hR hR'
  have hw : IntKind.i64.wrap ((i : Int) + (m : Int)) = ((i + m : Nat) : Int) := by rw [IntWalk.i64_in _ (by omega)]; omega
  have q0 : (0 : Int) ≤ (i : Int) := by omega
  have q1 : (i : Int) ≤ (c : Int) := by omega
  have q2 : i ≤ c := by omega
  have q4 : ((i + m : Nat) : Int) ≤ (n : Int) := by omega
  have q5 : i + m ≤ c := by omega
  obtain ⟨p, hp⟩ : ∃ p, i + m = p := ⟨_, rfl⟩
  have HP := Lib.hid hp
  rw [hp] at hi hw q4 q5 HL3 HCUT
  clear hp
  have hpi : (p : Int) ≤ (n : Int) := by omega
  have hp0 : (0 : Int) ≤ (p : Int) := by omega
  go_enter Tryz.func34, Tryz.ntmps34
  have HTT := Lib.hid (show (swp l i m now).length ≤ 100000 by
    unfold Sq.swp
    rw [List.length_append, List.length_append, List.length_take, List.length_drop, HK.out, HN.out]
    omega)
  have HPP : Hid (l.drop (i + m) = l.drop p) := Lib.hid (by rw [HP.out])
  have HDR := Lib.hid (show Below w.heap.size w w.drew from below_drewN (Below.refl _ _) 1)
  go_upto_region 1 with fail
  rcases Classical.em (c = p) with hck | hck
  · have hcut := HCUT.out
    rw [if_pos hck] at hcut
    have HCU := Lib.hid hcut
    clear hcut HCUT
    obtain rfl : p = c := hck.symm
    obtain rfl : n = p := by have := HC.out; omega
    go_still_tail 9, (by kernel_rfl)
    change wpList _ _ _ _ _ w.drew
    go_wp2_with fail
    have b3 := Blk.new w 46 #[.slice A i n, .slice B k d, .slice A 0 0]
    have hba : Below w.heap.size w (w.alloc (.cells #[.slice A i n, .slice B k d, .slice A 0 0] 46)).drew := below_drewN ((Below.refl _ _).alloc (Nat.le_refl _) _) 1
    have hr : ∀ {C : Option Addr} {u : List Bi}, RdB w (· < w.heap.size) C u → RdB (w.alloc (.cells #[.slice A i n, .slice B k d, .slice A 0 0] 46)).drew (· < (w.alloc (.cells #[.slice A i n, .slice B k d, .slice A 0 0] 46)).drew.heap.size) C u := fun h => (h.to (fun b _ hl => hba.block b hl)).mono fun b h => Nat.lt_of_lt_of_le h hba.size
    have hrow : RowB (w.alloc (.cells #[.slice A i n, .slice B k d, .slice A 0 0] 46)).drew ⟨w.heap.size, 0, none⟩ [l.take i, now, l.drop n] := row3 b3 HL1.out HK.out (by rw [HL3.out]; omega) (by omega) HD.out (Nat.le_refl _) (hr (HR.out.take i)) (hr HR'.out) (hr HCU.out)
    refine (ConcatB ⟨w.heap.size, 0, none⟩ 3 3 [l.take i, now, l.drop n] _ rfl (by decide) (by exact b3.lt) hrow (by rw [← HPP.out, HE.out]; exact HTT.out)).mono ?_
    rintro e w2 ⟨A9, n9, c9, rfl, q1, q2, q3, q4⟩
    have HF : Hid (BisEnd w (swp l i m now) (.returned (.slice A9 n9 c9)) w2) := Lib.hid (by
      rw [← HPP.out, HE.out] at q1 q3
      exact ⟨A9, n9, c9, rfl, q1, q2, q3.mono fun b hb => ⟨Nat.le_trans hba.size hb.1, hb.2⟩, below_mv hba q4⟩)
    clear b3 hba hr hrow q1 q2 q3 q4
    go_wp2
    go_ret
    exact HF.out
  · have hcut := HCUT.out
    rw [if_neg hck] at hcut
    have HCU := Lib.hid hcut
    clear hcut HCUT
    go_still_tail 9, (by kernel_rfl)
    change wpList _ _ _ _ _ w.drew
    go_wp2_with fail
    have b3 := Blk.new w 46 #[.slice A i c, .slice B k d, .slice (Option.map (fun x => x.add (p * 4)) A) (n - p) (c - p)]
    have hba : Below w.heap.size w (w.alloc (.cells #[.slice A i c, .slice B k d, .slice (Option.map (fun x => x.add (p * 4)) A) (n - p) (c - p)] 46)).drew := below_drewN ((Below.refl _ _).alloc (Nat.le_refl _) _) 1
    have hr : ∀ {C : Option Addr} {u : List Bi}, RdB w (· < w.heap.size) C u → RdB (w.alloc (.cells #[.slice A i c, .slice B k d, .slice (Option.map (fun x => x.add (p * 4)) A) (n - p) (c - p)] 46)).drew (· < (w.alloc (.cells #[.slice A i c, .slice B k d, .slice (Option.map (fun x => x.add (p * 4)) A) (n - p) (c - p)] 46)).drew.heap.size) C u := fun h => (h.to (fun b _ hl => hba.block b hl)).mono fun b h => Nat.lt_of_lt_of_le h hba.size
    have hrow : RowB (w.alloc (.cells #[.slice A i c, .slice B k d, .slice (Option.map (fun x => x.add (p * 4)) A) (n - p) (c - p)] 46)).drew ⟨w.heap.size, 0, none⟩ [l.take i, now, l.drop p] := row3 b3 HL1.out HK.out HL3.out (by omega) HD.out (by have := HC.out; omega) (hr (HR.out.take i)) (hr HR'.out) (hr HCU.out)
    refine (ConcatB ⟨w.heap.size, 0, none⟩ 3 3 [l.take i, now, l.drop p] _ rfl (by decide) (by exact b3.lt) hrow (by rw [← HPP.out, HE.out]; exact HTT.out)).mono ?_
    rintro e w2 ⟨A9, n9, c9, rfl, q1, q2, q3, q4⟩
    have HF : Hid (BisEnd w (swp l i m now) (.returned (.slice A9 n9 c9)) w2) := Lib.hid (by
      rw [← HPP.out, HE.out] at q1 q3
      exact ⟨A9, n9, c9, rfl, q1, q2, q3.mono fun b hb => ⟨Nat.le_trans hba.size hb.1, hb.2⟩, below_mv hba q4⟩)
    clear b3 hba hr hrow q1 q2 q3 q4
    go_wp2
    go_ret
    exact HF.out

end Bm
end Go.Proofs.YtfnhjflocfmcoaaGreat

set_option maxRecDepth 100000
namespace Go.Proofs.YtfnhjflocfmcoaaGreat
open Go.RowKit
set_option linter.unusedVariables false
set_option linter.unusedSimpArgs false
namespace Bm
open Tx Df Sq Hk Tr Pr Fl Pn Tg

/-- How change ends: the map of block b is turned, and nothing else. -/
def ChEnd (w : World) (b n : Nat) (F : List UInt8 → List Bi) (e : Ending) (w' : World) : Prop := e = .returned (.tuple #[]) ∧ BirM w' b n F ∧ w.grownBy w' (some b)
theorem gr_below2 {w w1 w2 : World} {b : Nat} (h : Below w.heap.size w w1) (hg : w1.grownBy w2 (some b)) : w.grownBy w2 (some b) := gr_two (gr_below h (some b)) hg
theorem rdB_gr {w w' : World} {b : Nat} {A : Option Addr} {l : List Bi} (h : RdB w (fun g => g ≠ b ∧ g < w.heap.size) A l) (hg : w.grownBy w' (some b)) : RdB w' (fun g => g ≠ b ∧ g < w'.heap.size) A l :=
  (h.to fun g hb hl => hg.block g hl (fun e => hb.1 (by injection e))).mono fun g hb => ⟨hb.1, Nat.lt_of_lt_of_le hb.2 hg.size⟩
theorem rdB_mvb {w w' : World} {b : Nat} {A : Option Addr} {l : List Bi} (h : RdB w (fun g => g ≠ b ∧ g < w.heap.size) A l) (hb : Below w.heap.size w w') : RdB w' (fun g => g ≠ b ∧ g < w'.heap.size) A l := rdB_gr h (gr_below hb (some b))

/-- Where a change of lines can be done its Old lie within the births. -/
theorem bir_line {t u : TR} {o : OR} {p : Ch} (hL : Like t o) (hd : doP t p = (0, u)) (hk : p.k = 3 ∨ p.k = 4) : 0 ≤ p.h.pos ∧ p.h.pos.toNat + p.h.old.length ≤ (bir o p.nm).length ∧ (p.k = 4 → p.h.pos = 0 ∧ p.h.old.length = (bir o p.nm).length) := by
  obtain ⟨hm, hc⟩ := doP_cases hd
  rcases hc with ⟨h0, _⟩ | ⟨h1, _⟩ | ⟨h2, _⟩ | ⟨_, l, hg, he, _⟩
  · omega
  · omega
  · omega
  · obtain ⟨m, hmo, hml⟩ := like_some hL hg
    obtain ⟨i0, i1, _⟩ := line_in hm hk he
    have e : bir o p.nm = m := by unfold bir; rw [hmo]; rfl
    rw [e, hml]
    refine ⟨i0, i1, fun h4 => ?_⟩
    obtain ⟨_, _, _, h5⟩ := may_h hm hk
    refine ⟨h5 h4, ?_⟩
    unfold lineE at he
    rw [if_neg (by omega)] at he
    by_cases e : l = p.h.old
    · rw [e]
    · rw [if_neg e] at he; exact absurd he (by decide)

set_option maxRecDepth 100000 in
set_option maxHeartbeats 8000000 in
theorem ChangeB (b n : Nat) (t u : TR) (o : OR) (a : Tag) (Ap : Option Addr) (np cp : Nat) (Bp : Option Addr) (mp dp : Nat) (p : Ch) (An : Option Addr) (nn cn : Nat) (w : World) (hL : Like t o) (hd : doP t p = (0, u)) (hM : BirM w b n (bir o)) (hn : n ≤ 100000) (hlen : p.k ≠ 0 → p.k ≠ 1 → (bir o p.nm).length ≤ 50000)
    (hv : PV w w.heap.size Ap np cp Bp mp dp p) (hnn : mp = nn) (hcn : nn ≤ cn) (hmp : nn ≤ 1000) (hR : RdB w (fun g => g ≠ b ∧ g < w.heap.size) An (births a nn)) :
    Calls Tryz.prog 18 #[.map (some b), prV p.k p.nm p.to p.h.pos Ap np cp Bp mp dp, .slice An nn cn] w (ChEnd w b (n + 2) (bir (oneB o a p))) := by
  have hbm : Below w.heap.size w (w.alloc (.cells #[.int .i64 p.k, strV p.nm, strV p.to, .int .i64 p.h.pos, .slice Ap np cp, .slice Bp mp dp] 55)) := (Below.refl _ _).alloc (Nat.le_refl _) _
  have b0 := Blk.new w 55 #[.int .i64 p.k, strV p.nm, strV p.to, .int .i64 p.h.pos, .slice Ap np cp, .slice Bp mp dp]
  have hM1 := hM.below hbm
  have hR1 := rdB_mvb hR hbm
  have hbz := hM.lt
  have HL := Lib.hid hL; have HD := Lib.hid hd; have HNM := Lib.hid hv.nm; have HTO := Lib.hid hv.to; have HLEN := Lib.hid hlen
  have HNP : Hid (p.h.old.length = np ∧ p.h.new.length = mp) := Lib.hid ⟨hv.h.l, hv.h.l'⟩
  have hnx : n < maxLen := by unfold maxLen; omega
  have hnx2 : n + 1 < maxLen := by unfold maxLen; omega
  have HNX := Lib.hid hnx; have HNX2 := Lib.hid hnx2
  have HNN := Lib.hid hnn; have HCN := Lib.hid hcn; have HMP := Lib.hid hmp
  clear hL hd hv hlen hM hR hnx hnx2 hnn hcn hmp
  go_enter Tryz.func18, Tryz.ntmps18
  go_upto_region 1 with fail
  generalize (w.alloc (.cells #[.int .i64 p.k, strV p.nm, strV p.to, .int .i64 p.h.pos, .slice Ap np cp, .slice Bp mp dp] 55)) = w1 at b0 hbm hM1 hR1 ⊢
  obtain ⟨z, hz⟩ : ∃ z, w.heap.size = z := ⟨_, rfl⟩
  have hbz2 : b < z := by rw [← hz]; exact hbz
  rw [hz] at b0 ⊢
  have HB0 := Lib.hid b0; have HBM := Lib.hid hbm; have HM1 := Lib.hid hM1; have HR1 := Lib.hid hR1
  have HZB : Hid (some z ≠ some b) := Lib.hid (fun e => by injection e; omega)
  clear hz b0 hbm hM1 hR1 hbz hbz2
  have x0 := HB0.out.cell 0 rfl; have x1 := HB0.out.cell 1 rfl; have x2 := HB0.out.cell 2 rfl; have x3 := HB0.out.cell 3 rfl; have x4 := HB0.out.cell 4 rfl
  have xl := HB0.out.lt
  obtain ⟨hmay, hc⟩ := doP_cases HD.out
  have hk : (p.k = 0 ∨ p.k = 1) ∨ p.k = 2 ∨ p.k = 3 ∨ p.k = 4 := by
    rcases hc with ⟨h, _⟩ | ⟨h, _⟩ | ⟨h, _⟩ | ⟨h, _⟩
    · exact .inl (.inl h)
    · exact .inl (.inr h)
    · exact .inr (.inl h)
    · exact .inr (.inr h)
  clear hmay hc
  rcases hk with h | h | h | h
  · have HE := Lib.hid (bir_01 (a := a) HL.out HD.out h)
    rcases h with h | h
    all_goals
      rw [h] at x0
      go_wp2
      go_end0
      exact ⟨rfl, by rw [HE.out]; exact HM1.out.mono (by omega), gr_below HBM.out (some b)⟩
  · obtain ⟨hne, he⟩ := bir_2 (a := a) HL.out HD.out h
    have HE := Lib.hid he
    have HNE := Lib.hid hne
    clear he hne
    rw [h] at x0
    go_wp2_with (first
      | (at_lookup; refine wpList_look_bir rfl (.tmp 13) (.tmp 15) rfl b n (bir o) p.nm rfl rfl HM1.out HNM.out ?_; intro A1 c1 hc1 hr1; have HC1 := Lib.hid hc1; have HRA := Lib.hid hr1; clear hc1 hr1)
      | (at_mapUpdate; refine wpList_put_bir rfl (.tmp 10) (.tmp 12) (.tmp 16) rfl b n (bir o p.nm).length c1 (bir o) p.to A1 (bir o p.nm) rfl rfl rfl HM1.out HTO.out HNX.out rfl HC1.out HRA.out ?_; intro W2 hm2 hg2; have HM2 := Lib.hid hm2; have HG2 := Lib.hid hg2; have B2 := HB0.out.gr hg2 HZB.out; have y1 := B2.cell 1 rfl; have yl := B2.lt; clear hm2 hg2 B2)
      | (at_delete; refine wpList_del_bir rfl (.tmp 17) (.tmp 19) rfl b (n + 1) _ p.nm rfl rfl HM2.out HNM.out ?_; intro W3 hm3 hg3; have HM3 := Lib.hid hm3; have HG3 := Lib.hid (gr_two (gr_below2 HBM.out HG2.out) hg3); clear hm3 hg3))
    go_end0
    exact ⟨rfl, by rw [HE.out]; exact HM3.out.mono (by omega), HG3.out⟩
  · obtain ⟨hp0, hpl, hp4⟩ := bir_line HL.out HD.out (.inl h)
    have HE := Lib.hid (bir_34 (a := a) HL.out.uo (.inl h))
    obtain ⟨P, hP⟩ : ∃ P : Nat, p.h.pos = (P : Int) := ⟨p.h.pos.toNat, by omega⟩
    obtain ⟨m, hm⟩ : ∃ m, (bir o p.nm).length = m := ⟨_, rfl⟩
    have HKB := Lib.hid (show Below w1.heap.size w1 w1.drew from below_drewN (Below.refl _ _) 1)
    have HMD := Lib.hid (HM1.out.below HKB.out)
    obtain ⟨A1, c1, hlk, hc1, hr1⟩ := HMD.out.look HNM.out
    rw [(HNP.out).1, hP, Int.toNat_natCast] at hpl
    rw [hm] at hpl hlk hc1
    rw [hP] at x3
    have HBE : Hid (swp (bir o p.nm) P np (births a nn) = born a p (bir o p.nm)) := Lib.hid (by
      unfold born
      rw [(HNP.out).1, (HNP.out).2, HNN.out, hP, Int.toNat_natCast])
    have HPS := Lib.hid (SwapB A1 m c1 P np An nn cn (bir o p.nm) (births a nn) w1.drew hm hc1 (births_len a nn) HCN.out (by omega) (by have := HLEN.out (by rw [h]; decide) (by rw [h]; decide); have := HMP.out; omega) (hr1.mono fun g hg => hg.2) ((rdB_mvb HR1.out HKB.out).mono fun g hg => hg.2))
    have HLK := Lib.hid hlk
    have HC : Hid (∀ X, Below w1.heap.size w1 X → Blk X z 55 #[.int .i64 p.k, strV p.nm, strV p.to, .int .i64 p.h.pos, .slice Ap np cp, .slice Bp mp dp]) := Lib.hid (fun X hb => HB0.out.below hb HB0.out.lt)
    have HPP := Lib.hid hP
    have HC2 : Hid (∀ X, Below w1.heap.size w1 X → X.cell? ⟨z, 1, none⟩ = some (strV p.nm) ∧ X.cell? ⟨z, 3, none⟩ = some (.int .i64 (P : Int)) ∧ X.cell? ⟨z, 4, none⟩ = some (.slice Ap np cp)) := Lib.hid (fun X hb => ⟨(HC.out X hb).cell 1 rfl, by rw [← HPP.out]; exact (HC.out X hb).cell 3 rfl, (HC.out X hb).cell 4 rfl⟩)
    have HKD := Lib.hid (show w1.drew.cell? ⟨z, 1, none⟩ = some (strV p.nm) ∧ w1.drew.cell? ⟨z, 3, none⟩ = some (.int .i64 (P : Int)) ∧ w1.drew.cell? ⟨z, 4, none⟩ = some (.slice Ap np cp) from ⟨x1, x3, x4⟩)
    have HPUT : Hid (∀ u1 A3 n3 c3, Below w1.heap.size w1 u1 → (swp (bir o p.nm) P np (births a nn)).length = n3 → n3 ≤ c3 → RdB u1 (Since w1.drew u1) A3 (swp (bir o p.nm) P np (births a nn)) → ∃ W2, (Instr.mapUpdate 62 (.map (some b)) (strV p.nm) (.slice A3 n3 c3)).run Tryz.prog u1 = .ok () W2 ∧ ChEnd w b (n + 2) (bir (oneB o a p)) (.returned (.tuple #[])) W2 ∧ (W2.cell? ⟨z, 1, none⟩ = some (strV p.nm) ∧ W2.cell? ⟨z, 3, none⟩ = some (.int .i64 (P : Int)) ∧ W2.cell? ⟨z, 4, none⟩ = some (.slice Ap np cp))) := Lib.hid (fun u1 A3 n3 c3 hb q1 q2 q3 => by
      obtain ⟨W2, h1, h2, h3⟩ := (HM1.out.below hb).put HNM.out HNX.out q1 q2 (q3.mono fun g hg => ⟨by have h5 := HM1.out.lt; have h6 : w1.heap.size ≤ g := hg.1; omega, hg.2⟩)
      have B2 := (HC.out u1 hb).gr h3 HZB.out
      refine ⟨W2, h1, ⟨rfl, ?_, gr_below2 (below_mv HBM.out hb) h3⟩, B2.cell 1 rfl, by rw [← HPP.out]; exact B2.cell 3 rfl, B2.cell 4 rfl⟩
      rw [HE.out, ← HBE.out]
      exact h2.mono (by omega))
    clear hlk hc1 hr1 hm hP hpl hp0 hp4
    rw [h] at x0
    go_upto_region 6 with fail
    clear x0 x1 x2 x3 x4
    have hlk := HLK.out
    go_region_held3 (fun X => X.cell? ⟨z, 1, none⟩ = some (strV p.nm) ∧ X.cell? ⟨z, 3, none⟩ = some (.int .i64 (P : Int)) ∧ X.cell? ⟨z, 4, none⟩ = some (.slice Ap np cp))
      (first | (with_reducible exact HKD.out) | (with_reducible exact hS1) | (with_reducible exact hS2))
      (first
        | (go_at_call 34; (with_reducible refine (HPS.out).mono ?_); rintro e u1 ⟨A3, n3, c3, rfl, q1, q2, q3, hb⟩; have hbu := below_mv HKB.out hb; have hS1 := HC2.out u1 hbu; obtain ⟨W2, hput, hend, hS2⟩ := HPUT.out u1 A3 n3 c3 hbu q1 q2 q3; have HEND := Lib.hid hend; clear hb hbu q1 q2 q3 hend hlk))
    all_goals go_end0
    all_goals exact HEND.out
  · obtain ⟨hp0, hpl, hp4⟩ := bir_line HL.out HD.out (.inr h)
    obtain ⟨hz0, hz1⟩ := hp4 h
    have HE := Lib.hid (bir_34 (a := a) HL.out.uo (.inr h))
    obtain ⟨m, hm⟩ : ∃ m, (bir o p.nm).length = m := ⟨_, rfl⟩
    have HKB := Lib.hid (show Below w1.heap.size w1 w1.drew from below_drewN (Below.refl _ _) 1)
    have HMD := Lib.hid (HM1.out.below HKB.out)
    obtain ⟨A1, c1, hlk, hc1, hr1⟩ := HMD.out.look HNM.out
    rw [hm] at hpl hlk hc1 hz1
    have HBE : Hid (swp (bir o p.nm) 0 m (births a nn) = born a p (bir o p.nm)) := Lib.hid (by
      unfold born
      rw [hz0, hz1, (HNP.out).2, HNN.out]
      rfl)
    have HPS : Hid (Calls Tryz.prog 34 #[.slice A1 m c1, .int .i64 0, .int .i64 (m : Int), .slice An nn cn] w1.drew (BisEnd w1.drew (swp (bir o p.nm) 0 m (births a nn)))) := Lib.hid (SwapB A1 m c1 0 m An nn cn (bir o p.nm) (births a nn) w1.drew hm hc1 (births_len a nn) HCN.out (by omega) (by have := HLEN.out (by rw [h]; decide) (by rw [h]; decide); have := HMP.out; omega) (hr1.mono fun g hg => hg.2) ((rdB_mvb HR1.out HKB.out).mono fun g hg => hg.2))
    have HLK := Lib.hid hlk
    have HC : Hid (∀ X, Below w1.heap.size w1 X → Blk X z 55 #[.int .i64 p.k, strV p.nm, strV p.to, .int .i64 p.h.pos, .slice Ap np cp, .slice Bp mp dp]) := Lib.hid (fun X hb => HB0.out.below hb HB0.out.lt)
    have HC2 : Hid (∀ X, Below w1.heap.size w1 X → X.cell? ⟨z, 1, none⟩ = some (strV p.nm)) := Lib.hid (fun X hb => (HC.out X hb).cell 1 rfl)
    have HKD := Lib.hid (show w1.drew.cell? ⟨z, 1, none⟩ = some (strV p.nm) from x1)
    have HPUT : Hid (∀ u1 A3 n3 c3, Below w1.heap.size w1 u1 → (swp (bir o p.nm) 0 m (births a nn)).length = n3 → n3 ≤ c3 → RdB u1 (Since w1.drew u1) A3 (swp (bir o p.nm) 0 m (births a nn)) → ∃ W2, (Instr.mapUpdate 62 (.map (some b)) (strV p.nm) (.slice A3 n3 c3)).run Tryz.prog u1 = .ok () W2 ∧ ChEnd w b (n + 2) (bir (oneB o a p)) (.returned (.tuple #[])) W2 ∧ W2.cell? ⟨z, 1, none⟩ = some (strV p.nm)) := Lib.hid (fun u1 A3 n3 c3 hb q1 q2 q3 => by
      obtain ⟨W2, h1, h2, h3⟩ := (HM1.out.below hb).put HNM.out HNX.out q1 q2 (q3.mono fun g hg => ⟨by have h5 := HM1.out.lt; have h6 : w1.heap.size ≤ g := hg.1; omega, hg.2⟩)
      have B2 := (HC.out u1 hb).gr h3 HZB.out
      refine ⟨W2, h1, ⟨rfl, ?_, gr_below2 (below_mv HBM.out hb) h3⟩, B2.cell 1 rfl⟩
      rw [HE.out, ← HBE.out]
      exact h2.mono (by omega))
    clear hlk hc1 hr1 hm hpl hp0 hp4 hz0 hz1
    rw [h] at x0
    go_upto_region 8 with fail
    clear x0 x1 x2 x3 x4
    have hlk := HLK.out
    go_region_held3 (fun X => X.cell? ⟨z, 1, none⟩ = some (strV p.nm))
      (first | (with_reducible exact HKD.out) | (with_reducible exact hS1) | (with_reducible exact hS2))
      (first
        | (go_at_call 34; (with_reducible refine (HPS.out).mono ?_); rintro e u1 ⟨A3, n3, c3, rfl, q1, q2, q3, hb⟩; have hbu := below_mv HKB.out hb; have hS1 := HC2.out u1 hbu; obtain ⟨W2, hput, hend, hS2⟩ := HPUT.out u1 A3 n3 c3 hbu q1 q2 q3; have HEND := Lib.hid hend; clear hb hbu q1 q2 q3 hend hlk))
    all_goals go_end0
    all_goals exact HEND.out

end Bm
end Go.Proofs.YtfnhjflocfmcoaaGreat

set_option maxRecDepth 100000
namespace Go.Proofs.YtfnhjflocfmcoaaGreat
open Go.RowKit
set_option linter.unusedVariables false
set_option linter.unusedSimpArgs false
namespace Pn
open Tx Df Sq Hk Tr Pr Fl

set_option maxHeartbeats 1000000 in
theorem ApplyN (K L : Nat) (A0 : Option Addr) (n0 c0 : Nat) (A : Option Addr) (n c : Nat) (t : TR) (l : List Nm) (w : World) (R : Int × TR) (ht : Most t K L) (hK : K ≤ 2000) (hL : L ≤ 2000) (hn0 : t.length = n0) (hn : l.length = n) (hle : n ≤ 1000) (hT : (allN l).length ≤ 200) (hl : Lt (allN l)) (hR0 : RdT w w.heap.size A0 t) (hR : RdN w w.heap.size A l) (hD : doN t l = R) :
    Calls Tryz.prog 15 #[.slice A0 n0 c0, .slice A n c] w (DoEnd w R) := by
  have HR := Lib.hid hR; have HN := Lib.hid hn; have HL := Lib.hid hl; have HT := Lib.hid hT; have HM := Lib.hid ht; have HR0 := Lib.hid hR0; have HN0 := Lib.hid hn0; have HD := Lib.hid hD
  clear hR hn hl hT ht hR0 hn0 hD
  go_enter Tryz.func15, Tryz.ntmps15
  go_wp2_with fail
  refine (AllN A n c l w HN.out (by omega) (by have := HT.out; omega) HL.out HR.out).mono ?_
  rintro e w1 ⟨A1, c1, rfl, hc1, hr1, hb1⟩
  obtain ⟨m, hm⟩ : ∃ m, (allN l).length = m := ⟨_, rfl⟩
  rw [hm] at hc1 ⊢
  have HR1 := Lib.hid (hr1.mono fun b (hb : w.heap.size ≤ b ∧ b < w1.heap.size) => hb.2); have HB1 := Lib.hid hb1; have HMM := Lib.hid hm
  clear hc1 hr1 hb1 hm
  go_wp2_with fail
  refine (ApplyL K L A0 n0 c0 A1 m c1 t (allN l) w1 R HM.out (by have := HT.out; have := HMM.out; omega) (by have := HT.out; have := HMM.out; omega) HN0.out HMM.out HL.out (HR0.out.mv HB1.out) HR1.out HD.out).mono ?_
  rintro e w2 ⟨B, k, d, rfl, h1, h2, h3, h4⟩
  have H1 := Lib.hid h1; have H2 := Lib.hid h2; have H3 := Lib.hid h3; have HB := Lib.hid (below_mv HB1.out h4)
  clear h1 h2 h3 h4
  go_wp2
  go_ret2
  exact ⟨B, k, d, rfl, H1.out, H2.out, H3.out, HB.out⟩

end Pn
end Go.Proofs.YtfnhjflocfmcoaaGreat

namespace Go.Proofs
open Go.Shelf
def Tryz.keysL_ren : Go.Shelf.Ren := ⟨fun | 7 => 36 | 10 => 52 | n => n, fun | 23 => 82 | 26 => 9 | 3 => 84 | 28 => 87 | 0 => 0 | 27 => 86 | 33 => 101 | 4 => 4 | n => n, fun | n => n⟩
theorem Tryz.keysL : Go.Proofs.SlLaysZ.n7 Tryz.prog Tryz.keysL_ren := {
  mixed := by kernel_rfl
  f7 := ⟨Tryz.f36.name, by decide, Tryz.func36.trans (congrArg some (by kernel_rfl))⟩
  f10 := ⟨Tryz.f52.name, by decide, Tryz.func52.trans (congrArg some (by kernel_rfl))⟩
  t0 := Tryz.underlying0
  a0 := Tryz.isAgg0
  z0 := Tryz.sizeOf0
  v0 := Tryz.zeroValue0
  t4 := Tryz.underlying4
  a4 := Tryz.isAgg4
  z4 := Tryz.sizeOf4
  v4 := Tryz.zeroValue4
  t23 := Tryz.underlying82
  a23 := Tryz.isAgg82
  z23 := Tryz.sizeOf82
  v23 := Tryz.zeroValue82
  t26 := Tryz.underlying9
  a26 := Tryz.isAgg9
  z26 := Tryz.sizeOf9
  v26 := Tryz.zeroValue9
  t27 := Tryz.underlying86
  a27 := Tryz.isAgg86
  z27 := Tryz.sizeOf86
  v27 := Tryz.zeroValue86
  t28 := Tryz.underlying87
  a28 := Tryz.isAgg87
  z28 := Tryz.sizeOf87
  v28 := Tryz.zeroValue87
  t33 := Tryz.underlying101
  a33 := Tryz.isAgg101
  z33 := Tryz.sizeOf101
  v33 := Tryz.zeroValue101 }
def Tryz.sortedL_ren : Go.Shelf.Ren := ⟨fun | 6 => 35 | 8 => 50 | 9 => 51 | 11 => 61 | 13 => 63 | 12 => 62 | 23 => 91 | 24 => 92 | 14 => 82 | 15 => 83 | 16 => 84 | 17 => 85 | 18 => 86 | 19 => 87 | 20 => 88 | 21 => 89 | 22 => 90 | 25 => 112 | 26 => 113 | 27 => 114 | 28 => 115 | 29 => 116 | 30 => 117 | 31 => 134 | n => n, fun | 26 => 9 | 28 => 87 | 24 => 49 | 0 => 0 | 3 => 3 | 37 => 117 | 48 => 145 | 50 => 147 | 4 => 4 | 40 => 137 | 39 => 136 | 45 => 142 | 5 => 5 | 9 => 9 | 51 => 157 | 55 => 161 | 57 => 171 | 58 => 172 | 33 => 101 | n => n, fun | n => n⟩
theorem Tryz.sortedL : Go.Proofs.SlLaysZ.n6 Tryz.prog Tryz.sortedL_ren := {
  mixed := by kernel_rfl
  f6 := ⟨Tryz.f35.name, by decide, Tryz.func35.trans (congrArg some (by kernel_rfl))⟩
  f8 := ⟨Tryz.f50.name, by decide, Tryz.func50.trans (congrArg some (by kernel_rfl))⟩
  f11 := ⟨Tryz.f61.name, by decide, Tryz.func61.trans (congrArg some (by kernel_rfl))⟩
  t0 := Tryz.underlying0
  a0 := Tryz.isAgg0
  z0 := Tryz.sizeOf0
  v0 := Tryz.zeroValue0
  t24 := Tryz.underlying49
  a24 := Tryz.isAgg49
  z24 := Tryz.sizeOf49
  v24 := Tryz.zeroValue49
  t26 := Tryz.underlying9
  a26 := Tryz.isAgg9
  z26 := Tryz.sizeOf9
  v26 := Tryz.zeroValue9
  t28 := Tryz.underlying87
  a28 := Tryz.isAgg87
  z28 := Tryz.sizeOf87
  v28 := Tryz.zeroValue87
  i26 := by kernel_rfl }
def Tryz.sortL_ren : Go.Shelf.Ren := ⟨fun | 6 => 51 | 8 => 63 | 9 => 62 | 19 => 91 | 20 => 92 | 21 => 82 | 22 => 83 | 23 => 84 | 24 => 85 | 25 => 86 | 26 => 87 | 27 => 88 | 28 => 89 | 29 => 90 | 36 => 112 | 31 => 113 | 32 => 114 | 37 => 115 | 38 => 116 | 39 => 117 | 41 => 134 | n => n, fun | 27 => 49 | 29 => 9 | 3 => 3 | 32 => 117 | 26 => 49 | 0 => 0 | 44 => 145 | 46 => 147 | 4 => 4 | 36 => 137 | 35 => 136 | 41 => 142 | 5 => 5 | 9 => 9 | 53 => 157 | 57 => 161 | 63 => 171 | 64 => 172 | n => n, fun | n => n⟩
theorem Tryz.sortL : Go.Proofs.SlLaysM.n6 Tryz.prog Tryz.sortL_ren := {
  mixed := by kernel_rfl
  f6 := ⟨Tryz.f51.name, by decide, Tryz.func51.trans (congrArg some (by kernel_rfl))⟩
  f8 := Tryz.func63.trans (congrArg some (by kernel_rfl))
  f9 := ⟨Tryz.f62.name, by decide, Tryz.func62.trans (congrArg some (by kernel_rfl))⟩
  f19 := Tryz.func91.trans (congrArg some (by kernel_rfl))
  f20 := Tryz.func92.trans (congrArg some (by kernel_rfl))
  f21 := ⟨Tryz.f82.name, by decide, Tryz.func82.trans (congrArg some (by kernel_rfl))⟩
  f22 := ⟨Tryz.f83.name, by decide, Tryz.func83.trans (congrArg some (by kernel_rfl))⟩
  f23 := ⟨Tryz.f84.name, by decide, Tryz.func84.trans (congrArg some (by kernel_rfl))⟩
  f24 := ⟨Tryz.f85.name, by decide, Tryz.func85.trans (congrArg some (by kernel_rfl))⟩
  f25 := ⟨Tryz.f86.name, by decide, Tryz.func86.trans (congrArg some (by kernel_rfl))⟩
  f26 := ⟨Tryz.f87.name, by decide, Tryz.func87.trans (congrArg some (by kernel_rfl))⟩
  f27 := ⟨Tryz.f88.name, by decide, Tryz.func88.trans (congrArg some (by kernel_rfl))⟩
  f28 := ⟨Tryz.f89.name, by decide, Tryz.func89.trans (congrArg some (by kernel_rfl))⟩
  f29 := ⟨Tryz.f90.name, by decide, Tryz.func90.trans (congrArg some (by kernel_rfl))⟩
  f31 := Tryz.func113.trans (congrArg some (by kernel_rfl))
  f32 := Tryz.func114.trans (congrArg some (by kernel_rfl))
  f36 := ⟨Tryz.f112.name, by decide, Tryz.func112.trans (congrArg some (by kernel_rfl))⟩
  f37 := ⟨Tryz.f115.name, by decide, Tryz.func115.trans (congrArg some (by kernel_rfl))⟩
  f38 := ⟨Tryz.f116.name, by decide, Tryz.func116.trans (congrArg some (by kernel_rfl))⟩
  f39 := ⟨Tryz.f117.name, by decide, Tryz.func117.trans (congrArg some (by kernel_rfl))⟩
  f41 := ⟨Tryz.f134.name, by decide, Tryz.func134.trans (congrArg some (by kernel_rfl))⟩
  t0 := Tryz.underlying0
  a0 := Tryz.isAgg0
  z0 := Tryz.sizeOf0
  v0 := Tryz.zeroValue0
  t3 := Tryz.underlying3
  a3 := Tryz.isAgg3
  z3 := Tryz.sizeOf3
  v3 := Tryz.zeroValue3
  t4 := Tryz.underlying4
  a4 := Tryz.isAgg4
  z4 := Tryz.sizeOf4
  v4 := Tryz.zeroValue4
  t5 := Tryz.underlying5
  a5 := Tryz.isAgg5
  z5 := Tryz.sizeOf5
  v5 := Tryz.zeroValue5
  t9 := Tryz.underlying9
  a9 := Tryz.isAgg9
  z9 := Tryz.sizeOf9
  v9 := Tryz.zeroValue9
  t26 := Tryz.underlying49
  a26 := Tryz.isAgg49
  z26 := Tryz.sizeOf49
  v26 := Tryz.zeroValue49
  t27 := Tryz.underlying49
  a27 := Tryz.isAgg49
  z27 := Tryz.sizeOf49
  v27 := Tryz.zeroValue49
  t29 := Tryz.underlying9
  a29 := Tryz.isAgg9
  z29 := Tryz.sizeOf9
  v29 := Tryz.zeroValue9
  t32 := Tryz.underlying117
  a32 := Tryz.isAgg117
  z32 := Tryz.sizeOf117
  v32 := Tryz.zeroValue117
  t35 := Tryz.underlying136
  a35 := Tryz.isAgg136
  z35 := Tryz.sizeOf136
  v35 := Tryz.zeroValue136
  t36 := Tryz.underlying137
  a36 := Tryz.isAgg137
  z36 := Tryz.sizeOf137
  v36 := Tryz.zeroValue137
  t41 := Tryz.underlying142
  a41 := Tryz.isAgg142
  z41 := Tryz.sizeOf142
  v41 := Tryz.zeroValue142
  t44 := Tryz.underlying145
  a44 := Tryz.isAgg145
  z44 := Tryz.sizeOf145
  v44 := Tryz.zeroValue145
  t46 := Tryz.underlying147
  a46 := Tryz.isAgg147
  z46 := Tryz.sizeOf147
  v46 := Tryz.zeroValue147
  t53 := Tryz.underlying157
  a53 := Tryz.isAgg157
  z53 := Tryz.sizeOf157
  v53 := Tryz.zeroValue157
  t57 := Tryz.underlying161
  a57 := Tryz.isAgg161
  z57 := Tryz.sizeOf161
  v57 := Tryz.zeroValue161
  t63 := Tryz.underlying171
  a63 := Tryz.isAgg171
  z63 := Tryz.sizeOf171
  v63 := Tryz.zeroValue171
  t64 := Tryz.underlying172
  a64 := Tryz.isAgg172
  z64 := Tryz.sizeOf172
  v64 := Tryz.zeroValue172 }
end Go.Proofs

set_option maxRecDepth 100000
namespace Go.Proofs.YtfnhjflocfmcoaaGreat
open Go.RowKit Go.Maps Go.Sort Go.Shelf
set_option linter.unusedVariables false
namespace Tr
open Tx

theorem sorts (m : Nat) : AnyZ.SortsIn Tryz.prog Tryz.sortedL_ren Fence.wide m :=
  ⟨fun blk off cap ss W hH hblk hsz => callsIn_wide.2 (AnyM.slices_Sort_string Tryz.sortL blk off cap ss W hH hblk hsz),
   fun p cap W => callsIn_wide.2 (AnyM.slices_Sort_string_none Tryz.sortL p cap W)⟩

theorem keysC (mb : Option Nat) (W : World) : CallsIn Fence.wide 5 Tryz.prog 36 #[.map mb] W fun e w' => e = .returned (.func (.func 52) #[] #[.pointer (some ⟨W.heap.size, 0, none⟩)]) ∧ w' = W.alloc (.cells #[.map mb] 82) :=
  AnyZ.keys_in Tryz.keysL Fence.wide 5 trivial rfl mb W

set_option maxHeartbeats 1000000 in
theorem sortedC {H : Type} (b nn : Nat) (D0 : DataW H) (R : Value → Option (DataW H × List MemPlace)) (w : World) (hown : w.ownsMap Tryz.prog 9 R b nn D0) (hmax : Maps.size D0 ≤ maxLen) (hbytes : Maps.size D0 * 16 ≤ 140737488355328) :
    CallsIn Fence.wide 5 Tryz.prog 35 #[.func (.func 52) #[] #[.pointer (some ⟨w.heap.size, 0, none⟩)]] (w.alloc (.cells #[.map (some b)] 82)) fun e w' => ∃ (v : Value) (ss : List (List UInt8)), e = .returned v ∧ ss.Perm (strKeys D0) ∧
      w'.ownsRow (w.alloc (.cells #[.map (some b)] 82)).heap.size 9 1 v ss.length ((ss.mergeSort (fun x y => decide (x ≤ y))).map encStr) ∧ (v = .slice none 0 0 ↔ ss = []) ∧ Below (w.alloc (.cells #[.map (some b)] 82)).heap.size (w.alloc (.cells #[.map (some b)] 82)) w' := by
  have hbl := hown.lt
  have hseq : SeqGives Fence.wide 2 Tryz.prog 52 #[.pointer (some ⟨w.heap.size, 0, none⟩)] encStr (fun ss => ss.Perm (strKeys D0)) (Maps.size D0) (w.alloc (.cells #[.map (some b)] 82)) :=
    AnyZ.keys_gives (ρ := Tryz.keysL_ren) { Tryz.keysL with } Fence.wide _ trivial rfl (by omega) w.heap.size b nn D0 _ (by simp) (by simp) (by
      obtain ⟨es, clock, hb, Ft, hs, hD⟩ := hown
      exact ⟨es, clock, (Below.heap_alloc _ _ b hbl).trans hb, Ft, hs, hD⟩)
  exact AnyZ.sorted_in Tryz.sortedL Fence.wide 5 trivial trivial trivial trivial rfl (by omega) (sorts _) (enters_of Tryz.func51 (by kernel_rfl) rfl) 52 #[.pointer (some ⟨w.heap.size, 0, none⟩)] trivial (enters_of Tryz.func52 (by kernel_rfl) rfl) _ _ hmax hbytes _ hseq

end Tr
end Go.Proofs.YtfnhjflocfmcoaaGreat

set_option maxRecDepth 100000
namespace Go.Proofs.YtfnhjflocfmcoaaGreat
open Go.RowKit
set_option linter.unusedVariables false
namespace Tr
open Tx

/-- The set of these names, as a map reads. -/
def setN (l : List (List UInt8)) : DataW Unit := Maps.setOf (.agg []) (l.map Lit.string)
theorem setN_snoc (l : List (List UInt8)) (x : List UInt8) : (setN l).put (.string x) (.agg []) = setN (l ++ [x]) := by
  unfold setN
  rw [List.map_append, List.map_cons, List.map_nil, Maps.setOf_snoc]
theorem key_lits (l : List (List UInt8)) : ∀ x ∈ l.map Lit.string, WideAt.IsKeyLit x := by
  intro x hx
  obtain ⟨y, _, rfl⟩ := List.mem_map.1 hx
  trivial
theorem has_setN (l : List (List UInt8)) (x : List UInt8) : Maps.has (setN l) (.string x) = true ↔ x ∈ l := by
  unfold setN
  rw [Maps.has_setOf _ _ _ (key_lits l), List.any_eq_true]
  constructor
  · rintro ⟨y, hy, h⟩
    obtain ⟨z, hz, rfl⟩ := List.mem_map.1 hy
    have : z = x := by simpa [Lit.sameKey] using h
    exact this ▸ hz
  · intro hx
    exact ⟨.string x, List.mem_map.2 ⟨x, hx, rfl⟩, by simp [Lit.sameKey]⟩

theorem law_str : Maps.Keyed Tryz.prog 9 := Maps.string_keyed Tryz.underlying9

/-- The keys of the set, sorted, are the names. -/
theorem sorted_names {w : World} {b n : Nat} {R : Value → Option (DataW Unit × List MemPlace)} {l ss : List (List UInt8)} (hown : w.ownsMap Tryz.prog 9 R b n (setN l)) (hp : ss.Perm (strKeys (setN l))) :
    ss.mergeSort (fun x y => decide (x ≤ y)) = names Op.bytesLess l := by
  have hr := names_rise lin l
  have hnd : (names Op.bytesLess l).Nodup := hr.imp fun {a b} h => lin.ne h
  have hc : Collected (setN l) (fun _ => false) (names Op.bytesLess l) := ⟨hnd, fun x => by rw [names_mem, has_setN]; simp⟩
  have hp2 := hc.perm hown law_str Tryz.underlying9 (fun _ => rfl)
  have hpp := hp.trans hp2.symm
  rw [show (fun x y : List UInt8 => decide (x ≤ y)) = leB from rfl, mergeSort_of_perm hpp]
  refine List.mergeSort_of_pairwise (hr.imp fun {a b} h => ?_)
  rw [Go.Proofs.bytesLess_eq, decide_eq_true_eq] at h
  simp only [leB, decide_eq_true_eq]
  exact List.le_of_lt h

/-- How Names ends. -/
abbrev NamesEnd (w : World) (l : List (List UInt8)) (e : Ending) (w' : World) : Prop := LinesEnd w (names Op.bytesLess l) e w'

/-- The names gathered behind j trees. -/
def upto (a b : List (List UInt8)) : Nat → List (List UInt8)
  | 0 => []
  | 1 => a
  | _ => a ++ b

/-- What holds between the rounds. -/
structure NInv (w : World) (mb h : Nat) (cs : Array Value) (l : List (List UInt8)) (wr : World) : Prop where
  own : wr.ownsMap Tryz.prog 9 (unitElem (H := Unit)) mb l.length (setN l)
  blk : Blk wr h 43 cs
  fr : Below mb w wr

theorem NInv.next {w wr w1 : World} {mb h : Nat} {cs : Array Value} {l : List (List UInt8)} {x : List UInt8} {o : Obj} (I : NInv w mb h cs l wr) (hne : h ≠ mb)
    (hown : w1.ownsMap Tryz.prog 9 (unitElem (H := Unit)) mb (l.length + 1) ((setN l).put (.string x) (.agg []))) (hg : (wr.alloc o).grownBy w1 (some mb)) : NInv w mb h cs (l ++ [x]) w1 := by
  refine ⟨?_, (I.blk.alloc o).gr hg (fun e => hne (by injection e)), ?_⟩
  · rw [setN_snoc] at hown
    rw [List.length_append]
    exact hown
  · have hm : mb < wr.heap.size := I.own.lt
    exact (I.fr.alloc (Nat.le_of_lt hm) o).grown hg (by simp; omega) (fun k e => by injection e with e; omega)

/-- The tree of a round. -/
theorem tree_of {w wr : World} {mb h B : Nat} {A A' : Option Addr} {n c n' c' : Nat} {t u : TR} (hn : t.length = n) (hn' : u.length = n') (hs : Small t) (hs' : Small u) (hB : B ≤ mb) (hR : RdT w B A t) (hR' : RdT w B A' u) {j : Nat} (hj : j < 2)
    (I : NInv w mb h #[.slice A n c, .slice A' n' c'] (upto (t.map (·.1)) (u.map (·.1)) j) wr) :
    ∃ AT NT CT T, wr.cell? ⟨h, j, none⟩ = some (.slice AT NT CT) ∧ List.length T = NT ∧ Small T ∧ RdT w B AT T ∧ upto (t.map (·.1)) (u.map (·.1)) (j + 1) = upto (t.map (·.1)) (u.map (·.1)) j ++ T.map (·.1) ∧ (upto (t.map (·.1)) (u.map (·.1)) j).length ≤ 100000 := by
  rcases j with _ | _ | j
  · exact ⟨A, n, c, t, I.blk.cell 0 rfl, hn, hs, hR, rfl, Nat.zero_le _⟩
  · exact ⟨A', n', c', u, I.blk.cell 1 rfl, hn', hs', hR', rfl, by show (t.map (·.1)).length ≤ _; rw [List.length_map]; exact hs.len⟩
  · omega

set_option maxRecDepth 100000 in
set_option maxHeartbeats 4000000 in
theorem Names (A A' : Option Addr) (n c n' c' B : Nat) (t u : TR) (w : World) (hn : t.length = n) (hn' : u.length = n') (hs : Small t) (hs' : Small u) (hB : B ≤ w.heap.size) (hR : RdT w B A t) (hR' : RdT w B A' u) :
    Calls Tryz.prog 20 #[.slice A n c, .slice A' n' c'] w (NamesEnd w (t.map (·.1) ++ u.map (·.1))) := by
  have hmm := @run_makeMap Tryz.prog
  obtain ⟨mb, hmb⟩ : ∃ mb, w.heap.size = mb := ⟨_, rfl⟩
  have hown0 : (w.alloc (.map #[] 0)).ownsMap Tryz.prog 9 (unitElem (H := Unit)) w.heap.size 0 (.map []) := World.ownsMap_made _ _ _ _
  have hblk0 := Blk.new (w.alloc (.map #[] 0)) 43 #[.slice A n c, .slice A' n' c']
  rw [World.size_alloc] at hblk0
  have hi0 : NInv w w.heap.size (w.heap.size + 1) #[.slice A n c, .slice A' n' c'] [] ((w.alloc (.map #[] 0)).alloc (.cells #[.slice A n c, .slice A' n' c'] 43)) :=
    ⟨hown0.alloc _, hblk0, ((Below.refl _ _).alloc (Nat.le_refl _) _).alloc (by simp) _⟩
  have HN := Lib.hid hn; have HN' := Lib.hid hn'; have R := Lib.hid hR; have R' := Lib.hid hR'; have HS := Lib.hid hs; have HS' := Lib.hid hs'; have HI0 := Lib.hid hi0
  clear hn hn' hR hR' hs hs' hown0 hblk0 hi0 hmb mb
  go_enter Tryz.func20, Tryz.ntmps20
  go_wp2_with fail
  clear hmm
  obtain ⟨mb, hmb⟩ : ∃ mb, w.heap.size = mb := ⟨_, rfl⟩
  obtain ⟨w0, hw0⟩ : ∃ w0, (w.alloc (.map #[] 0)).alloc (.cells #[.slice A n c, .slice A' n' c'] 43) = w0 := ⟨_, rfl⟩
  rw [hw0] at HI0 ⊢
  rw [hmb] at HI0 hB ⊢
  have HMB := Lib.hid hmb
  clear hmb hw0
  go_loopw [15] (fun i wr => ∃ j : Nat, j ≤ 2 ∧ i = .int .i64 (j : Int) ∧ NInv w mb (mb + 1) #[.slice A n c, .slice A' n' c'] (upto (t.map (·.1)) (u.map (·.1)) j) wr) (fun i _ => 2 - (intOf i).toNat)
  case atStart => exact ⟨0, by omega, rfl, HI0.out⟩
  case round =>
    obtain ⟨j, hj, rfl, I⟩ := hrel
    by_cases hlt : j < 2
    · obtain ⟨AT, NT, CT, T, hcell, hT, hsT, hRT, hup, hlen⟩ := tree_of HN.out HN'.out HS.out HS'.out hB R.out R'.out hlt I
      have hNT : NT ≤ 100000 := by rw [← hT]; exact hsT.len
      obtain ⟨L, hL⟩ : ∃ L, upto (t.map (·.1)) (u.map (·.1)) j = L := ⟨_, rfl⟩
      rw [hL] at I hup hlen
      have HT := Lib.hid hT; have HST := Lib.hid hsT; have HRT := Lib.hid hRT; have HUP := Lib.hid hup; have HII := Lib.hid I
      clear hT hsT hRT hup I hL
      go_wp2
      go_loopw [21] (fun i wr => ∃ k : Nat, k ≤ NT ∧ i = .int .i64 (k : Int) ∧ NInv w mb (mb + 1) #[.slice A n c, .slice A' n' c'] (L ++ (T.take k).map (·.1)) wr) (fun i _ => NT - (intOf i).toNat)
      case atStart => exact ⟨0, Nat.zero_le _, rfl, by rw [List.take_zero, List.map_nil, List.append_nil]; exact HII.out⟩
      case round =>
        clear hcell HII
        obtain ⟨k, hk, rfl, I⟩ := hrel
        by_cases hlk : k < NT
        · have hkt : k < T.length := by rw [HT.out]; exact hlk
          obtain ⟨a, rfl, hab, hat⟩ := (RdT.below HRT.out (I.fr.mono hB)).at_ hkt
          have hsm := HST.out.all _ (List.getElem_mem hkt)
          have htk := take_snoc' hkt
          obtain ⟨x, hx⟩ : ∃ x, T[k] = x := ⟨_, rfl⟩
          rw [hx] at hat hsm htk
          obtain ⟨c0, A1, c1, h1, _, _⟩ := hat
          have hxn := hsm.n
          generalize x.2.length = m at h1
          have hkey : keyOf Tryz.prog 9 (strV x.1) = some (.string x.1) := Go.WideMaps.keyOf_string_mk Tryz.underlying9 (by rw [size_strV]; unfold maxLen; omega)
          have hll : (L ++ (T.take k).map (·.1)).length < maxLen := by rw [List.length_append, List.length_map, List.length_take]; unfold maxLen; omega
          have hown := I.own.alloc (.cells #[strV x.1, .slice A1 m c1] 51)
          have hmw : mb < wr.heap.size := I.own.lt
          have hnx := fun w1 hown hg => NInv.next (w1 := w1) (x := x.1) (o := .cells #[strV x.1, .slice A1 m c1] 51) I (by omega) hown hg
          obtain ⟨LL, hLL⟩ : ∃ LL, L ++ (T.take k).map (·.1) = LL := ⟨_, rfl⟩
          have hLL2 : LL ++ [x.1] = L ++ (T.take (k + 1)).map (·.1) := by rw [htk, List.map_append, ← List.append_assoc, hLL]; rfl
          rw [hLL] at hown hll hnx
          rw [hLL2] at hnx
          have HOWN := Lib.hid hown; have HNX := Lib.hid hnx; have HKEY := Lib.hid hkey; have HLL := Lib.hid hll
          clear hown hnx hkey hll htk hLL hLL2 I hx hsm
          go_wp2_with (at_mapUpdate; refine wpList_mapUpdate_own _ rfl _ _ _ 82 rfl 9 84 law_str Tryz.underlying82 (unitElem (H := Unit)) mb LL.length _ rfl HOWN.out HLL.out _ _ _ rfl rfl HKEY.out _ [] unitElem_mk ?_; intro w1 hown1 hgrow1; have HN1 := Lib.hid (HNX.out w1 hown1 hgrow1); clear hown1 hgrow1)
          go_roundw
          case rel => exact ⟨k + 1, by omega, by go_num, HN1.out⟩
          case measure => simp [intOf]; omega
        · obtain rfl : k = NT := by omega
          rw [List.take_of_length_le (by rw [HT.out]; exact Nat.le_refl _), ← HUP.out] at I
          have HII := Lib.hid I
          clear I
          go_wp2
          go_roundw
          case rel => exact ⟨j + 1, by omega, by go_num, HII.out⟩
          case measure => simp [intOf]; omega
    · obtain rfl : j = 2 := by omega
      have hown := I.own
      have hfr := I.fr
      have hup : upto (t.map (·.1)) (u.map (·.1)) 2 = t.map (·.1) ++ u.map (·.1) := rfl
      rw [hup] at hown
      obtain ⟨L, hL⟩ : ∃ L, t.map (·.1) ++ u.map (·.1) = L := ⟨_, rfl⟩
      have hLl : L.length ≤ 200000 := by have := HS.out.len; have := HS'.out.len; rw [← hL, List.length_append, List.length_map, List.length_map]; omega
      rw [hL] at hown
      have HLE := Lib.hid hL
      have hsz := hown.size_le
      have hK := (callsIn_wide (n := 5)).1 (keysC (some mb) wr)
      have hS := (callsIn_wide (n := 5)).1 (sortedC mb L.length (setN L) (unitElem (H := Unit)) wr hown (by unfold maxLen; omega) (by omega))
      have hmw : mb < wr.heap.size := hown.lt
      have HOWN := Lib.hid hown; have HFR := Lib.hid hfr; have HK := Lib.hid hK; have HS2 := Lib.hid hS
      clear hown hfr hK hS hup hL I hsz hLl
      go_wp2_with fail
      refine HK.out.mono ?_
      rintro e w1 ⟨rfl, rfl⟩
      go_wp2_with fail
      refine HS2.out.mono ?_
      rintro e w2 ⟨v, ss, rfl, hp, hrow, hnil, hb⟩
      have hss := sorted_names HOWN.out hp
      have hlen : (names Op.bytesLess L).length = ss.length := by rw [← hss, List.length_mergeSort]
      rw [hss] at hrow
      obtain ⟨A1, c1, rfl, hc1, hrd⟩ := rd_of_own hrow
      have hbb : Below mb w w2 := (HFR.out.alloc (Nat.le_of_lt hmw) _).trans (hb.mono (by simp; omega))
      have HRD : Hid (RdS w2 w2.heap.size A1 (names Op.bytesLess L)) := Lib.hid hrd
      have HLEN := Lib.hid hlen; have HBB := Lib.hid hbb
      have hc2 : ss.length ≤ c1 := hc1
      clear hss hlen hbb hrd hc1 hb hnil hrow hp
      go_wp2
      go_ret
      rw [HLE.out]
      exact ⟨A1, c1, by rw [HLEN.out]; rfl, by rw [HLEN.out]; exact hc2, HRD.out, by rw [HMB.out]; exact HBB.out⟩

end Tr
end Go.Proofs.YtfnhjflocfmcoaaGreat

set_option maxRecDepth 100000
namespace Go.Proofs.YtfnhjflocfmcoaaGreat
open Go.RowKit
set_option linter.unusedVariables false
set_option linter.unusedSimpArgs false
namespace Bm
open Tx Df Sq Hk Tr Pr Fl Pn Tg

theorem upTo_len {l : List Nm} {k j : Nat} {x : Nm} {p : Ch} (hp : x.l[j]? = some p) : (upTo l k (j + 1) x).length = (upTo l k j x).length + 1 := by
  rw [upTo_next hp, List.length_append]
  rfl
theorem upTo_do {l : List Nm} {k j : Nat} {x : Nm} {p : Ch} {t t' : TR} {o o' : OR} (hp : x.l[j]? = some p) (h : doL dB ([], []) (upTo l k j x) = some (t, o)) (h' : doL dB ([], []) (upTo l k (j + 1) x) = some (t', o')) : doP t p = (0, t') := by
  rw [upTo_next hp, doL_app, h] at h'
  have h2 : doL dB (t, o) ([((x.id, j), p)] ++ []) = some (t', o') := h'
  obtain ⟨v, g1, g2⟩ := doL_cons_inv dB h2
  obtain ⟨g3, _⟩ := dB_some.1 (show dB (t, o) ((x.id, j), p) = some (v.1, v.2) from g1)
  injection g2 with g2
  rw [g2] at g3
  exact g3
theorem upTo_le {l : List Nm} {k j : Nat} {x : Nm} (hx : l[k]? = some x) (hle : (allN l).length ≤ 150) : (upTo l k j x).length ≤ 150 := by
  obtain ⟨r, hr⟩ := upTo_rest (j := j) hx
  have h := tagA_len l
  rw [hr, List.length_append] at h
  omega
/-- The names of the tree are those of the origins. -/
theorem like_names {t : TR} {o : OR} (h : Like t o) : names Op.bytesLess (t.map (·.1) ++ ([] : TR).map (·.1)) = o.map (·.1) := by
  have e : o.map (·.1) = t.map (·.1) := by
    have := congrArg (List.map (·.1)) (like_rows h)
    rwa [List.map_map, List.map_map] at this
  have hu := h.uo
  symm
  refine names_uniq lin ?_ (fun x => by rw [e]; simp)
  unfold Up at hu
  rw [List.pairwise_map]
  exact hu
theorem bir_at {o : OR} (h : Up lt o) {k : Nat} {x : List UInt8 × List Bi} (hx : o[k]? = some x) : bir o x.1 = x.2 := by
  unfold bir
  rw [get_of_mem lin h (List.mem_of_getElem? hx)]
  rfl
theorem gr_below3 {w w1 w2 : World} {b z : Nat} (h : Below z w w1) (hg : w1.grownBy w2 (some b)) (hz : z ≤ b) (hs : z ≤ w1.heap.size) : Below z w w2 := h.grown hg hs (fun g e => by injection e with e; omega)

set_option maxRecDepth 100000 in
set_option maxHeartbeats 8000000 in
theorem OrgsC (A : Option Addr) (n c : Nat) (l : List Nm) (w : World) (hn : l.length = n) (hle : n ≤ 1000) (hT : (allN l).length ≤ 150) (hl : Lt (allN l)) (hR : RdN w w.heap.size A l) (er : Int) (o : OR) (h : orgR l = (er, o)) :
    Calls Tryz.prog 9 #[.slice A n c] w (OrgsEnd w (er, o)) := by
  rw [← h]
  clear h
  have HN := Lib.hid hn; have HL := Lib.hid hl; have HT := Lib.hid hT; have HR := Lib.hid hR
  clear hn hl hT hR
  obtain ⟨R, hD⟩ : ∃ R, doN [] l = R := ⟨_, rfl⟩
  have HD := Lib.hid hD
  clear hD
  go_enter Tryz.func9, Tryz.ntmps9
  go_wp2_with fail
  refine (ApplyN 0 0 none 0 0 A n c [] l w R most_nil (by decide) (by decide) rfl HN.out hle (by have := HT.out; omega) HL.out (.inl rfl) HR.out HD.out).mono ?_
  rintro e w1 ⟨A0, k0, c0, rfl, h1, h2, h3, hb1⟩
  have HB1 := Lib.hid hb1; have HT0 := Lib.hid h2; have HR0 := Lib.hid h3; have HK0 := Lib.hid h1
  clear hb1 h1 h2 h3
  obtain ⟨e0, t0⟩ := R
  dsimp only at HT0 HR0 ⊢
  by_cases h0 : e0 = 0
  · subst h0
    obtain ⟨o0, ho0⟩ := org_of (s := ([], [])) HD.out
    have HO := Lib.hid ho0
    have HRR := Lib.hid (orgR_yes ho0)
    have hms := most_B most_nil (tagA_lt HL.out) (by rw [tagA_len]; have := HT.out; omega) (by rw [tagA_len]; have := HT.out; omega) ho0
    have HSM := Lib.hid hms.s
    have HLK := Lib.hid (doB_like like_nil ho0)
    clear ho0 hms
    have hmm := @run_makeMap Tryz.prog
    go_upto_region 5 with fail
    clear hmm
    have hM0 := birM_made w1
    have hbm : Below w1.heap.size w1 (w1.alloc (.map #[] 0)) := (Below.refl _ _).alloc (Nat.le_refl _) _
    generalize w1.alloc (.map #[] 0) = w2 at hM0 hbm ⊢
    obtain ⟨b, hb⟩ : ∃ b, w1.heap.size = b := ⟨_, rfl⟩
    have HBB := Lib.hid hb
    rw [hb] at hM0 ⊢
    have HM0 := Lib.hid hM0; have HBM := Lib.hid hbm
    clear hb hM0 hbm
    go_wp2_with fail
    go_loopw [25] (fun i wr => ∃ (k : Nat) (t : TR) (o : OR), k ≤ n ∧ i = .int .i64 (k : Int) ∧ doL dB ([], []) (tagA (l.take k)) = some (t, o) ∧ BirM wr b (2 * (tagA (l.take k)).length) (bir o) ∧ Below w1.heap.size w1 wr) (fun i _ => n - (intOf i).toNat)
    case atStart => exact ⟨0, [], [], Nat.zero_le _, rfl, rfl, HM0.out, HBM.out⟩
    case round =>
      obtain ⟨k, t, o, hk, rfl, hdo, hbi, hbw⟩ := hrel
      have HDO := Lib.hid hdo; have HBI := Lib.hid hbi; have HBW := Lib.hid hbw
      clear hdo hbi hbw
      by_cases hlt : k < n
      · have hki : (k : Int) < (n : Int) := by omega
        have hki0 : (0 : Int) ≤ (k : Int) := by omega
        obtain ⟨a, x, D, dn, dc, E, nl, cl, rfl, hab, hx, d0, d1, d2, d3, d4, hv⟩ := HR.out.elem (k := k) (by rw [HN.out]; exact hlt)
        have hbx := below_mv HB1.out HBW.out
        have c0' := cellB d0 hbx (by rw [add_block]; exact hab)
        have c1' := cellB d1 hbx (by rw [add_block]; exact hab)
        have c2' := cellB d2 hbx (by rw [add_block]; exact hab)
        have c3' := cellB d3 hbx (by rw [add_block]; exact hab)
        have c4' := cellB d4 hbx (by rw [add_block]; exact hab)
        clear d0 d1 d2 d3 d4 hbx
        have hln := allN_pre (j := x.l.length) hx HT.out
        rw [List.take_length, List.length_append, hv.l] at hln
        have hnl : nl ≤ 1000 := by omega
        have HX := Lib.hid hx; have HXL := Lib.hid hv.l; have HXR := Lib.hid hv.r
        have HS0 : Hid (doL dB ([], []) (upTo l k 0 x) = some (t, o)) := Lib.hid (by rw [upTo_zero]; exact HDO.out)
        have HS1 : Hid (BirM wr b (2 * (upTo l k 0 x).length) (bir o)) := Lib.hid (by rw [upTo_zero]; exact HBI.out)
        clear hln hx hv HDO HBI hab
        go_upto_region 8 with fail
        have bz := Blk.new wr 41 #[.int .i64 x.id.1, .int .i64 x.id.2, .slice D dn dc, strV x.txt, .slice E nl cl]
        have hba : Below wr.heap.size wr (wr.alloc (.cells #[.int .i64 x.id.1, .int .i64 x.id.2, .slice D dn dc, strV x.txt, .slice E nl cl] 41)) := (Below.refl _ _).alloc (Nat.le_refl _) _
        have hm1 := HS1.out.below hba
        have hzb := HS1.out.lt
        generalize wr.alloc (.cells #[.int .i64 x.id.1, .int .i64 x.id.2, .slice D dn dc, strV x.txt, .slice E nl cl] 41) = w8 at bz hba hm1 ⊢
        obtain ⟨z, hz⟩ : ∃ z, wr.heap.size = z := ⟨_, rfl⟩
        have HZB : Hid (some z ≠ some b) := Lib.hid (fun e => by injection e; omega)
        have HB8 := Lib.hid (below_mv HBW.out hba)
        rw [hz] at bz ⊢
        have HBZ := Lib.hid bz; have HM8 := Lib.hid hm1
        clear hz bz hba hm1 hzb HS1 HBW c0' c1' c2' c3' c4'
        have z4 := HBZ.out.cell 4 rfl
        have zl := HBZ.out.lt
        go_wp2_with fail
        clear z4 zl
        go_loopw [32] (fun j wr => ∃ (q : Nat) (t : TR) (o : OR), q ≤ nl ∧ j = .int .i64 (q : Int) ∧ doL dB ([], []) (upTo l k q x) = some (t, o) ∧ BirM wr b (2 * (upTo l k q x).length) (bir o) ∧ Below w1.heap.size w1 wr ∧ Blk wr z 41 #[.int .i64 x.id.1, .int .i64 x.id.2, .slice D dn dc, strV x.txt, .slice E nl cl]) (fun j _ => nl - (intOf j).toNat)
        case atStart => exact ⟨0, t, o, Nat.zero_le _, rfl, HS0.out, HM8.out, HB8.out, HBZ.out⟩
        case round =>
          clear HS0 HM8 HB8 HBZ
          obtain ⟨q, t2, o2, hq, rfl, hdo, hbi, hbw, hbz⟩ := hrel
          have HDO := Lib.hid hdo; have HBI := Lib.hid hbi; have HBW := Lib.hid hbw; have HBZ := Lib.hid hbz
          clear hdo hbi hbw hbz
          by_cases hlt2 : q < nl
          · have hqi : (q : Int) < (nl : Int) := by omega
            have hqi0 : (0 : Int) ≤ (q : Int) := by omega
            obtain ⟨a2, rfl, hbb, hat⟩ := HXR.out.at_ (k := q) (by rw [HXL.out]; exact hlt2)
            obtain ⟨p, hp⟩ : ∃ p, x.l[q]? = some p := ⟨_, List.getElem?_eq_getElem (by rw [HXL.out]; exact hlt2)⟩
            rw [(List.getElem?_eq_some_iff.1 hp).2] at hat
            obtain ⟨g0, g1, g2, g3, Ap, np, cp, Bp, mp, dp, g4, g5, hpg⟩ := hat
            obtain ⟨s1, s2, s3, s4, s5, t3, s6⟩ := org_step HX.out hp HO.out HL.out HT.out HDO.out
            have HNX := Lib.hid s6; have HDP := Lib.hid (upTo_do hp HDO.out s6)
            have HLU := Lib.hid (upTo_len (l := l) (k := k) hp)
            have hul := upTo_le (j := q) HX.out HT.out
            have hbx := below_mv HB1.out HBW.out
            have k0 := cellB g0 hbx (by rw [add_block]; exact hbb)
            have k1 := cellB g1 hbx (by rw [add_block]; exact hbb)
            have k2 := cellB g2 hbx (by rw [add_block]; exact hbb)
            have k3 := cellB g3 hbx (by rw [add_block]; exact hbb)
            have k4 := cellB g4 hbx (by rw [add_block]; exact hbb)
            have k5 := cellB g5 hbx (by rw [add_block]; exact hbb)
            have HPV := Lib.hid (hpg.pv.mv hbx)
            have HMP : Hid (mp ≤ 1000) := Lib.hid (by rw [← hpg.pv.h.l']; exact s5)
            have HLE2 : Hid (p.k ≠ 0 → p.k ≠ 1 → (bir o2 p.nm).length ≤ 50000) := Lib.hid (fun h0 h1 => by
              obtain ⟨m, hm, hml, _⟩ := s4 h0 h1
              unfold bir
              rw [hm]
              exact hml)
            have HLI := Lib.hid s1
            clear g0 g1 g2 g3 g4 g5 hpg hp s1 s2 s3 s4 s5 s6 hbx hbb
            go_upto_region 11 with fail
            clear k0 k1 k2 k3 k4 k5
            have by0 := Blk.new wr 55 #[.int .i64 p.k, strV p.nm, strV p.to, .int .i64 p.h.pos, .slice Ap np cp, .slice Bp mp dp]
            have hba : Below wr.heap.size wr (wr.alloc (.cells #[.int .i64 p.k, strV p.nm, strV p.to, .int .i64 p.h.pos, .slice Ap np cp, .slice Bp mp dp] 55)) := (Below.refl _ _).alloc (Nat.le_refl _) _
            have bz1 := HBZ.out.below hba HBZ.out.lt
            have hm1 := HBI.out.below hba
            have hpv := HPV.out.mv hba
            have hyb := HBI.out.lt
            generalize wr.alloc (.cells #[.int .i64 p.k, strV p.nm, strV p.to, .int .i64 p.h.pos, .slice Ap np cp, .slice Bp mp dp] 55) = w10 at by0 hba bz1 hm1 hpv ⊢
            obtain ⟨y, hy⟩ : ∃ y, wr.heap.size = y := ⟨_, rfl⟩
            have HYB : Hid (some y ≠ some b) := Lib.hid (fun e => by injection e; omega)
            rw [hy] at by0 ⊢
            have HBY := Lib.hid by0; have HBZ1 := Lib.hid bz1; have HM1 := Lib.hid hm1; have HPV1 := Lib.hid hpv; have HB10 := Lib.hid (below_mv HBW.out hba)
            clear by0 bz1 hm1 hpv hba hyb hy HBZ HBI HPV HBW
            have HKB := Lib.hid (show Below w10.heap.size w10 w10.drew from below_drewN (Below.refl _ _) 1)
            have HC : Hid (∀ X, Below w10.heap.size w10 X → X.cell? ⟨z, 0, none⟩ = some (.int .i64 x.id.1) ∧ X.cell? ⟨z, 1, none⟩ = some (.int .i64 x.id.2) ∧ X.cell? ⟨y, 0, none⟩ = some (.int .i64 p.k) ∧ X.cell? ⟨y, 1, none⟩ = some (strV p.nm) ∧ X.cell? ⟨y, 2, none⟩ = some (strV p.to) ∧ X.cell? ⟨y, 3, none⟩ = some (.int .i64 p.h.pos) ∧ X.cell? ⟨y, 4, none⟩ = some (.slice Ap np cp) ∧ X.cell? ⟨y, 5, none⟩ = some (.slice Bp mp dp)) := Lib.hid (fun X hb => ⟨(HBZ1.out.below hb HBZ1.out.lt).cell 0 rfl, (HBZ1.out.below hb HBZ1.out.lt).cell 1 rfl, (HBY.out.below hb HBY.out.lt).cell 0 rfl, (HBY.out.below hb HBY.out.lt).cell 1 rfl, (HBY.out.below hb HBY.out.lt).cell 2 rfl, (HBY.out.below hb HBY.out.lt).cell 3 rfl, (HBY.out.below hb HBY.out.lt).cell 4 rfl, (HBY.out.below hb HBY.out.lt).cell 5 rfl⟩)
            have HCB : Hid (∀ X Y, Below w10.heap.size w10 X → X.grownBy Y (some b) → (fun X => X.cell? ⟨z, 0, none⟩ = some (.int .i64 x.id.1) ∧ X.cell? ⟨z, 1, none⟩ = some (.int .i64 x.id.2) ∧ X.cell? ⟨y, 0, none⟩ = some (.int .i64 p.k) ∧ X.cell? ⟨y, 1, none⟩ = some (strV p.nm) ∧ X.cell? ⟨y, 2, none⟩ = some (strV p.to) ∧ X.cell? ⟨y, 3, none⟩ = some (.int .i64 p.h.pos) ∧ X.cell? ⟨y, 4, none⟩ = some (.slice Ap np cp) ∧ X.cell? ⟨y, 5, none⟩ = some (.slice Bp mp dp)) Y ∧ Blk Y z 41 #[.int .i64 x.id.1, .int .i64 x.id.2, .slice D dn dc, strV x.txt, .slice (some a2) nl cl]) := Lib.hid (fun X Y hb hg => by
              have bz := (HBZ1.out.below hb HBZ1.out.lt).gr hg HZB.out
              have by0 := (HBY.out.below hb HBY.out.lt).gr hg HYB.out
              exact ⟨⟨bz.cell 0 rfl, bz.cell 1 rfl, by0.cell 0 rfl, by0.cell 1 rfl, by0.cell 2 rfl, by0.cell 3 rfl, by0.cell 4 rfl, by0.cell 5 rfl⟩, bz⟩)
            have HKD := Lib.hid (HC.out w10.drew HKB.out)
            have PB := Lib.hid (BornB x.id q mp w10.drew HMP.out)
            have PC : Hid (∀ u1 A3 n3 c3, Below w10.heap.size w10 u1 → (births (x.id, q) mp).length = n3 → n3 ≤ c3 → RdB u1 (Since w10.drew u1) A3 (births (x.id, q) mp) → Calls Tryz.prog 18 #[.map (some b), prV p.k p.nm p.to p.h.pos Ap np cp Bp mp dp, .slice A3 n3 c3] u1 (ChEnd u1 b (2 * (upTo l k q x).length + 2) (bir (oneB o2 (x.id, q) p)))) := Lib.hid (fun u1 A3 n3 c3 hb q1 q2 q3 => by
              rw [births_len] at q1
              subst q1
              exact ChangeB b (2 * (upTo l k q x).length) t2 t3 o2 (x.id, q) Ap np cp Bp mp dp p A3 mp c3 u1 HLI.out HDP.out (HM1.out.below hb) (by omega) HLE2.out (HPV1.out.mv hb) rfl q2 HMP.out (q3.mono fun g hg => ⟨by have h5 := HM1.out.lt; have h6 : w10.heap.size ≤ g := hg.1; omega, hg.2⟩))
            have HZ1 : Hid (w1.heap.size ≤ b) := Lib.hid (Nat.le_of_eq HBB.out)
            obtain ⟨z0, z1, y0, y1, y2, y3, y4, y5⟩ := HC.out w10 (Below.refl _ _)
            go_region_held3 (fun X => X.cell? ⟨z, 0, none⟩ = some (.int .i64 x.id.1) ∧ X.cell? ⟨z, 1, none⟩ = some (.int .i64 x.id.2) ∧ X.cell? ⟨y, 0, none⟩ = some (.int .i64 p.k) ∧ X.cell? ⟨y, 1, none⟩ = some (strV p.nm) ∧ X.cell? ⟨y, 2, none⟩ = some (strV p.to) ∧ X.cell? ⟨y, 3, none⟩ = some (.int .i64 p.h.pos) ∧ X.cell? ⟨y, 4, none⟩ = some (.slice Ap np cp) ∧ X.cell? ⟨y, 5, none⟩ = some (.slice Bp mp dp))
              (first | (with_reducible exact HKD.out) | (with_reducible exact hS1) | (with_reducible exact hS2))
              (first
                | (go_at_call 19; (with_reducible refine (PB.out).mono ?_); rintro e u1 ⟨A3, n3, c3, rfl, q1, q2, q3, hb⟩; have hbu := below_mv HKB.out hb; have hS1 := HC.out u1 hbu; have PC1 := Lib.hid (PC.out u1 A3 n3 c3 hbu q1 q2 q3); have HU1 := Lib.hid hbu; clear hb hbu q1 q2 q3)
                | (go_at_call 18; (with_reducible refine (PC1.out).mono ?_); rintro e u2 ⟨rfl, hm2, hg2⟩; obtain ⟨hS2, hbz2⟩ := HCB.out u1 u2 HU1.out hg2; have HM2 := Lib.hid hm2; have HBZ2 := Lib.hid hbz2; have HB2 := Lib.hid (gr_below3 (below_mv HB10.out HU1.out) hg2 HZ1.out (below_mv HB10.out HU1.out).size); clear hm2 hg2 hbz2))
            all_goals (try go_wp2_with fail)
            all_goals exact ⟨⟨q + 1, t3, _, by omega, by go_num, HNX.out, by rw [HLU.out]; exact HM2.out.mono (by omega), HB2.out, HBZ2.out⟩, by simp [intOf]; omega⟩
          · obtain rfl : q = nl := by omega
            have HE : Hid (doL dB ([], []) (tagA (l.take (k + 1))) = some (t2, o2)) := Lib.hid (by rw [← upTo_end HX.out, HXL.out]; exact HDO.out)
            have HE2 : Hid (BirM wr b (2 * (tagA (l.take (k + 1))).length) (bir o2)) := Lib.hid (by rw [← upTo_end HX.out, HXL.out]; exact HBI.out)
            go_wp2
            refine ⟨⟨k + 1, t2, o2, by omega, by go_num, HE.out, HE2.out, HBW.out⟩, by simp [intOf]; omega⟩
      · obtain rfl : k = n := by omega
        have e : l.take k = l := List.take_of_length_le (by rw [HN.out]; exact Nat.le_refl _)
        have e2 : some (t, o) = some (t0, o0) := by
          have h1 := HDO.out
          rw [e] at h1
          exact h1.symm.trans HO.out
        injection e2 with e2
        injection e2 with e2 e3
        subst e2 e3
        have hM3 := HBI.out
        rw [e] at hM3
        clear HDO HBI e
        have HM3 := Lib.hid hM3
        clear hM3
        have hki : ¬ (k : Int) < (k : Int) := by omega
        have HRT := Lib.hid (HR0.out.below HBW.out)
        go_wp2_with fail
        refine (Names A0 none k0 c0 0 0 w1.heap.size t [] wr HT0.out rfl HSM.out ⟨Nat.zero_le _, fun x hx => by cases hx⟩ HBW.out.size HRT.out (.inl rfl)).mono ?_
        rintro e w3 ⟨A3, c3, rfl, q2, q3, hb3⟩
        rw [like_names HLK.out] at q2 q3 ⊢
        obtain ⟨m, hm⟩ : ∃ m, o.length = m := ⟨_, rfl⟩
        rw [List.length_map, hm] at q2 ⊢
        have HOM := Lib.hid hm
        have HRN := Lib.hid q3
        have HB3 := Lib.hid (below_mv HB1.out (below_mv HBW.out hb3))
        have HM4 := Lib.hid (HM3.out.below hb3)
        clear q2 q3 hb3 hm HM3
        have HML : Hid (m ≤ 100000) := Lib.hid (by
          have h1 := (like_at HLK.out).1
          have h2 := HSM.out.len
          have h3 := HOM.out
          dsimp only at h1
          omega)
        go_wp2_with fail
        have hml := HML.out
        go_loopw [11, 53] (fun v j wr => ∃ (q : Nat) (A1 : Option Addr) (m1 c1 : Nat), q ≤ m ∧ j = .int .i64 (q : Int) ∧ v = .slice A1 m1 c1 ∧ OwnO wr (fun g => g ≠ b ∧ g < w3.heap.size) w3.heap.size (.slice A1 m1 c1) (o.take q) ∧ Below w3.heap.size w3 wr) (fun _ j _ => m - (intOf j).toNat)
        case atStart => exact ⟨0, none, 0, 0, Nat.zero_le _, rfl, rfl, ownO_nil _ _ _, Below.refl _ _⟩
        case round =>
          obtain ⟨q, A1, m1, c1, hq, rfl, rfl, hO, hbw⟩ := hrel
          have HBW3 := Lib.hid hbw; have HO3 := Lib.hid hO
          clear hbw hO
          by_cases hlt : q < m
          · have hqi : (q : Int) < (m : Int) := by omega
            obtain ⟨y, hy⟩ : ∃ y, o[q]? = some y := ⟨_, List.getElem?_eq_getElem (by rw [HOM.out]; exact hlt)⟩
            obtain ⟨a, rfl, _, hcell⟩ := (Rd.below HRN.out HBW3.out).at_ (k := q) (by simp only [List.length_map]; rw [HOM.out]; exact hlt)
            have hc0 : wr.cell? (a.add q) = some (strV y.1) := by
              rw [hcell]
              simp only [List.getElem_map, (List.getElem?_eq_some_iff.1 hy).2]
            have hyl : y.1.length ≤ maxLen := by
              obtain ⟨h1, h2⟩ := like_at HLK.out
              have hq1 : q < t.length := by dsimp only at h1; rw [← h1, HOM.out]; exact hlt
              obtain ⟨g, h3, h4, _⟩ := h2 q _ (List.getElem?_eq_getElem hq1)
              dsimp only at h3
              rw [hy] at h3
              injection h3 with h3
              subst h3
              rw [h4]
              have := (HSM.out.all _ (List.getElem_mem hq1)).n
              exact Nat.le_trans this (by decide)
            obtain ⟨A5, c5, hrun, hc5, hr5⟩ := (BirG.same HM4.out (fun g hg => hg.2) HBW3.out).look hyl
            rw [bir_at HLK.out.uo hy] at hrun hc5 hr5
            have HTK : Hid (o.take (q + 1) = o.take q ++ [y]) := Lib.hid (take_at hy)
            obtain ⟨n5, hn5⟩ : ∃ n5, y.2.length = n5 := ⟨_, rfl⟩
            rw [hn5] at hrun hc5
            have ba := Blk.new wr 48 #[strV y.1, .slice A5 n5 c5]
            have hba : Below wr.heap.size wr (wr.alloc (.cells #[strV y.1, .slice A5 n5 c5] 48)) := (Below.refl _ _).alloc (Nat.le_refl _) _
            have HSO := Lib.hid (oneO_src ba hn5 hc5 (hr5.to fun g _ hl => hba.block g hl))
            have HO4 := Lib.hid (HO3.out.below hba)
            have HB4 := Lib.hid (below_mv HBW3.out hba)
            have HOL := Lib.hid (show (o.take q).length + 1 ≤ 100000 by
              rw [List.length_take]
              have h1 := HML.out
              omega)
            have HSB : Hid (∀ g, (g ≠ b ∧ g < w3.heap.size) → some g ≠ (Value.slice A1 m1 c1).ownBlock) := Lib.hid (fun g hg e => by
              have := ownO_ge HO3.out g e.symm
              omega)
            clear hcell hyl hc5 hr5 hn5 hy ba hba
            go_wp2_with (at_builtin; refine wpList_ownO rfl (.tmp 57) (.tmp 63) rfl (fun g => g ≠ b ∧ g < w3.heap.size) w3.heap.size 1 1 (.slice A1 m1 c1) (some ⟨wr.heap.size, 0, none⟩) (o.take q) [y] rfl rfl HO4.out HSO.out rfl HOL.out HSB.out HB4.out.size ?_; intro v' W' ho hg)
            rw [← HTK.out] at ho
            obtain ⟨A9, c9, hv9, _⟩ := ownO_slice ho
            subst hv9
            refine ⟨⟨q + 1, A9, _, c9, by omega, by go_num, rfl, ho, HB4.out.grown hg HB4.out.size (fun g e => ownO_ge HO4.out g e)⟩, by simp [intOf]; omega⟩
          · obtain rfl : q = m := by omega
            have e : o.take q = o := List.take_of_length_le (by rw [HOM.out]; exact Nat.le_refl _)
            obtain ⟨A9, c9, hv9, hc9, hr9⟩ := rdO_own HO3.out
            rw [e] at hv9 hc9 hr9
            have hs9 := HBW3.out.size
            have HF := Lib.hid (orgsEnd_ok HRR.out rfl hc9 (hr9.mono fun g hg => (by rcases hg with hg | hg; exact Nat.lt_of_lt_of_le hg.2 hs9; exact hg.2)) (below_mv HB3.out HBW3.out))
            rw [← hv9] at HF
            clear hv9 hc9 hr9 hs9 e
            go_wp2
            go_ret2
            exact HF.out
  · have h1 : (e0 == 0) = false := by rw [beq_eq_false_iff_ne]; exact h0
    have h2 : (e0 != 0) = true := by rw [bne_iff_ne]; exact h0
    have HE : Hid (orgR l = (e0, [])) := Lib.hid (by rw [orgR_no (by rw [HD.out]; exact h0), HD.out])
    have HF := Lib.hid (orgsEnd_err HE.out HB1.out)
    clear h0
    go_wp2
    go_ret2
    exact HF.out

end Bm
end Go.Proofs.YtfnhjflocfmcoaaGreat

set_option maxRecDepth 100000
namespace Go.Proofs.YtfnhjflocfmcoaaGreat
open Go.RowKit
set_option linter.unusedVariables false
set_option linter.unusedSimpArgs false
namespace Bm
open Tx Df Sq Hk Tr Pr Fl Pn Tg

/-- The birth of a line, of origins of any kind (the first one of a name counts). -/
def ofB (o : OR) (s : List UInt8) (ln : Int) : Option Bi := match get o s with | none => none | some m => if ln < 0 then none else m[ln.toNat]?
def ofV : Option Bi → Value | some x => .tuple #[biV x, .bool true] | none => .tuple #[.agg #[.int .i64 0, .int .i64 0, .int .i64 0, .int .i64 0], .bool false]
/-- How Of ends. -/
def OfEndB (w : World) (r : Option Bi) (e : Ending) (w' : World) : Prop := e = .returned (ofV r) ∧ Below w.heap.size w w'
theorem ofEnd {w w' : World} {r : Option Bi} {v : Value} (h : ofV r = v) (hb : Below w.heap.size w w') : OfEndB w r (.returned v) w' := ⟨by rw [h], hb⟩
theorem blk4 {W : World} {b : Nat} {t : TypeId} {x0 x1 x2 x3 : Value} (h : Blk W b t #[x0, x1, x2, x3]) (v0 v1 v2 v3 : Value) : Blk ((((World.setCell W ⟨b, 0, none⟩ v0).setCell ⟨b, 1, none⟩ v1).setCell ⟨b, 2, none⟩ v2).setCell ⟨b, 3, none⟩ v3) b t #[v0, v1, v2, v3] :=
  have b0 : Blk _ b t #[v0, x1, x2, x3] := h.set 0 v0
  have b1 : Blk _ b t #[v0, v1, x2, x3] := b0.set 1 v1
  have b2 : Blk _ b t #[v0, v1, v2, x3] := b1.set 2 v2
  have b3 : Blk _ b t #[v0, v1, v2, v3] := b2.set 3 v3
  b3
theorem below_set4 {w W : World} {b : Nat} (h : Below w.heap.size w W) (hb : w.heap.size ≤ b) (v0 v1 v2 v3 : Value) : Below w.heap.size w ((((World.setCell W ⟨b, 0, none⟩ v0).setCell ⟨b, 1, none⟩ v1).setCell ⟨b, 2, none⟩ v2).setCell ⟨b, 3, none⟩ v3) :=
  (((h.setCell (p := ⟨b, 0, none⟩) hb v0).setCell (p := ⟨b, 1, none⟩) hb v1).setCell (p := ⟨b, 2, none⟩) hb v2).setCell (p := ⟨b, 3, none⟩) hb v3

end Bm
end Go.Proofs.YtfnhjflocfmcoaaGreat

set_option maxRecDepth 100000
namespace Go.Proofs.YtfnhjflocfmcoaaGreat
open Go.RowKit
set_option linter.unusedVariables false
set_option linter.unusedSimpArgs false
namespace Bm
open Tx Df Sq Hk Tr Pr Fl Pn Tg

theorem of1 (s nm : List UInt8) (A : Option Addr) (n c b : Nat) (W : World) (hb : b < W.heap.size) (hc : W.cell? ⟨b, 0, none⟩ = some (strV nm)) :
    Calls Tryz.prog 24 #[.agg #[strV s, .slice A n c], .pointer (some ⟨b, 0, none⟩)] W (BoolEnd W (decide (s = nm))) := by
  go_enter Tryz.func24, Tryz.ntmps24
  go_wp2
  go_ret
  exact ⟨ret_bool (by rw [Bool.eq_iff_iff]; simp), (Below.refl _ _).alloc (Nat.le_refl _) _⟩

set_option maxHeartbeats 1000000 in
/-- slices.IndexFunc at the closure of Of. -/
theorem IndexO (nm : List UInt8) (A : Option Addr) (c n b : Nat) (o : OR) (w : World) (hn : o.length = n) (hln : n ≤ 100000) (hR : RdO w (· < w.heap.size) A o) (hb : b < w.heap.size) (hcb : w.cell? ⟨b, 0, none⟩ = some (strV nm)) :
    Calls Tryz.prog 23 #[.slice A n c, .func (.func 24) #[] #[.pointer (some ⟨b, 0, none⟩)]] w (IntEnd w (ixOV (ixO nm o))) := by
  have HN := Lib.hid hn; have HR := Lib.hid hR; have HC := Lib.hid hcb; have HB := Lib.hid hb
  clear hn hR hcb hb
  obtain ⟨iv, hiv⟩ : ∃ iv, ixOV (ixO nm o) = iv := ⟨_, rfl⟩
  rw [hiv]
  have HIV := Lib.hid hiv; clear hiv
  go_enter Tryz.func23, Tryz.ntmps23
  go_wp2_with fail
  go_loopw [8] (fun i wr => ∃ k : Nat, k ≤ n ∧ i = .int .i64 (k : Int) ∧ (∀ (j : Nat) y, o[j]? = some y → j < k → y.1 ≠ nm) ∧ Below w.heap.size w wr) (fun i _ => n - (intOf i).toNat)
  case atStart => exact ⟨0, Nat.zero_le _, rfl, fun j _ _ hj => by omega, Below.refl _ _⟩
  case round =>
    obtain ⟨k, hk, rfl, hall, hbw⟩ := hrel
    have HA := Lib.hid hall; have HBW := Lib.hid hbw; clear hall hbw
    by_cases hlt : k < n
    · have hki : (k : Int) < (n : Int) := by omega
      obtain ⟨x, hx⟩ : ∃ x, o[k]? = some x := ⟨_, List.getElem?_eq_getElem (by rw [HN.out]; exact hlt)⟩
      obtain ⟨a, rfl, hab, c0, A1, c1, h1, _, _⟩ := (RdO.mv HR.out HBW.out).elem hx
      generalize x.2.length = m at h1
      have HX := Lib.hid hx; clear hx hab
      have HCELL := Lib.hid ((HBW.out.cell (p := ⟨b, 0, none⟩) HB.out).trans HC.out)
      have HBR := Lib.hid (Nat.lt_of_lt_of_le HB.out HBW.out.size)
      obtain ⟨bl, hbl⟩ : ∃ bl, decide (x.1 = nm) = bl := ⟨_, rfl⟩
      have HBL := Lib.hid hbl; clear hbl
      go_wp2_with fail
      refine (of1 x.1 nm A1 m c1 b wr HBR.out HCELL.out).mono ?_
      rintro e w2 ⟨rfl, hb2⟩
      rw [HBL.out]
      have HB2 := Lib.hid (below_mv HBW.out hb2)
      clear hb2 c0 h1
      cases bl with
      | true =>
        have HE : Hid (iv = (k : Int)) := Lib.hid (by rw [← HIV.out, ixO_at HX.out (of_decide_eq_true HBL.out) HA.out]; rfl)
        go_wp2
        go_ret
        exact ⟨by rw [HE.out]; rfl, HB2.out⟩
      | false =>
        go_wp2
        go_roundw
        case rel =>
          exact ⟨k + 1, by omega, by go_num, fun j y hy hj => by
            by_cases e : j = k
            · subst e
              have h := HX.out
              rw [h] at hy
              injection hy with hy
              exact hy ▸ of_decide_eq_false HBL.out
            · exact HA.out j y hy (by omega), HB2.out⟩
        case measure => simp [intOf]; omega
    · obtain rfl : k = n := by omega
      have hki : ¬ (k : Int) < (k : Int) := by omega
      have HE : Hid (iv = -1) := Lib.hid (by rw [← HIV.out, ixO_no fun j y hy => HA.out j y hy (by rw [← HN.out]; exact (List.getElem?_eq_some_iff.1 hy).1)]; rfl)
      go_wp2
      go_ret
      exact ⟨by rw [HE.out]; rfl, HBW.out⟩

set_option maxHeartbeats 2000000 in
theorem OfC (s : List UInt8) (A : Option Addr) (c n : Nat) (o : OR) (ln : Int) (w : World) (hn : o.length = n) (hln : n ≤ 100000) (hR : RdO w (· < w.heap.size) A o) :
    Calls Tryz.prog 12 #[.slice A n c, strV s, .int .i64 ln] w (OfEndB w (ofB o s ln)) := by
  have bn := (Blk.new w 9 #[strV s]).alloc (.cells #[.int .i64 0, .int .i64 0, .int .i64 0, .int .i64 0] 33)
  have b0 := Blk.new (w.alloc (.cells #[strV s] 9)) 33 #[.int .i64 0, .int .i64 0, .int .i64 0, .int .i64 0]
  have hba := two_box w (.cells #[strV s] 9) (.cells #[.int .i64 0, .int .i64 0, .int .i64 0, .int .i64 0] 33)
  simp only [World.size_alloc] at b0
  have HN := Lib.hid hn; have HR := Lib.hid (RdO.mv hR hba); clear hn hR
  obtain ⟨r, hr⟩ : ∃ r, ofB o s ln = r := ⟨_, rfl⟩
  rw [hr]
  have HRR := Lib.hid hr; clear hr
  go_enter Tryz.func12, Tryz.ntmps12
  go_upto_region 1 with fail
  generalize ((w.alloc (.cells #[strV s] 9)).alloc (.cells #[.int .i64 0, .int .i64 0, .int .i64 0, .int .i64 0] 33)) = w1 at b0 bn hba HR ⊢
  obtain ⟨y0, hy0⟩ : ∃ y, w.heap.size = y := ⟨_, rfl⟩
  have HY0 := Lib.hid hy0
  rw [hy0] at bn b0 ⊢
  clear hy0
  obtain ⟨z, hz⟩ : ∃ z, y0 + 1 = z := ⟨_, rfl⟩
  have HZ : Hid (w.heap.size ≤ z) := Lib.hid (by rw [HY0.out]; omega)
  rw [hz] at b0 ⊢
  clear hz
  have HB0 := Lib.hid b0; have HBA := Lib.hid hba; have HBN := Lib.hid bn
  clear b0 hba bn
  have hlz := HB0.out.lt; have hly := HBN.out.lt
  go_wp2_with fail
  refine (IndexO s A c n y0 o w1 HN.out hln HR.out HBN.out.lt (HBN.out.cell 0 rfl)).mono ?_
  rintro e w2 ⟨rfl, hb2⟩
  replace HR := Lib.hid (RdO.mv HR.out hb2)
  replace HB0 := Lib.hid (HB0.out.below hb2 HB0.out.lt)
  replace HBA := Lib.hid (below_mv HBA.out hb2)
  have hlz2 := HB0.out.lt
  clear hb2 HBN hly hlz
  have z0 := HB0.out.cell 0 rfl; have z1 := HB0.out.cell 1 rfl; have z2 := HB0.out.cell 2 rfl; have z3 := HB0.out.cell 3 rfl
  have f0 := HB0.out.frozen 0; have f1 := HB0.out.frozen 1; have f2 := HB0.out.frozen 2; have f3 := HB0.out.frozen 3
  obtain ⟨ix, hix⟩ : ∃ ix, ixOV (ixO s o) = ix := ⟨_, rfl⟩
  rw [hix]
  have HIX := Lib.hid hix
  clear hix
  cases hg : get o s with
  | none =>
    obtain rfl : -1 = ix := by rw [← HIX.out, ixO_no fun j y hy e => get_none.1 hg y (List.mem_of_getElem? hy) e]; rfl
    have HE : Hid (r = none) := Lib.hid (by rw [← HRR.out]; unfold ofB; rw [hg])
    clear hg
    go_wp2
    clear z0 z1 z2 z3 f0 f1 f2 f3
    have b4 := blk4 HB0.out (.int .i64 0) (.int .i64 0) (.int .i64 0) (.int .i64 0)
    have hb4 := below_set4 HBA.out HZ.out (.int .i64 0) (.int .i64 0) (.int .i64 0) (.int .i64 0)
    generalize ((((World.setCell w2 ⟨z, 0, none⟩ (.int .i64 0)).setCell ⟨z, 1, none⟩ (.int .i64 0)).setCell ⟨z, 2, none⟩ (.int .i64 0)).setCell ⟨z, 3, none⟩ (.int .i64 0)) = W4 at b4 hb4 ⊢
    have q0 : W4.cell? ⟨z, 0, none⟩ = some (.int .i64 0) := b4.cell 0 rfl
    have q1 : W4.cell? ⟨z, 1, none⟩ = some (.int .i64 0) := b4.cell 1 rfl
    have q2 : W4.cell? ⟨z, 2, none⟩ = some (.int .i64 0) := b4.cell 2 rfl
    have q3 : W4.cell? ⟨z, 3, none⟩ = some (.int .i64 0) := b4.cell 3 rfl
    refine bodyPost_ret (v := .tuple #[.agg #[.int .i64 0, .int .i64 0, .int .i64 0, .int .i64 0], .bool false]) (by simp [results, Tryz.results12, go_sem, q0, q1, q2, q3]) rfl ?_
    exact ofEnd (by rw [HE.out]; rfl) hb4
  | some m =>
    obtain ⟨kx, x, h1, h2, h3, h4⟩ := ixO_get hg
    obtain rfl : (kx : Int) = ix := by rw [← HIX.out, h1]; rfl
    have hkx := (List.getElem?_eq_some_iff.1 h2).1
    rw [HN.out] at hkx
    obtain ⟨a, rfl, hab, c0, B, cb, c1, hcb, hrb⟩ := HR.out.elem h2
    subst h4
    obtain ⟨nb, hnb⟩ : ∃ nb, x.2.length = nb := ⟨_, rfl⟩
    rw [hnb] at c1 hcb
    have HNB := Lib.hid hnb; have HRB := Lib.hid hrb
    have hki0 : (0 : Int) ≤ (kx : Int) := by omega
    have hki : (kx : Int) < (n : Int) := by omega
    have hk1 : ¬ (kx : Int) < 0 := by omega
    have HOF : Hid (r = if ln < 0 then none else x.2[ln.toNat]?) := Lib.hid (by rw [← HRR.out]; unfold ofB; rw [hg])
    clear h1 h2 h3 hg hnb hrb hcb
    by_cases hl : ln < 0
    · have HE : Hid (r = none) := Lib.hid (by rw [HOF.out, if_pos hl])
      go_wp2
      clear z0 z1 z2 z3 f0 f1 f2 f3
      have b4 := blk4 HB0.out (.int .i64 0) (.int .i64 0) (.int .i64 0) (.int .i64 0)
      have hb4 := below_set4 HBA.out HZ.out (.int .i64 0) (.int .i64 0) (.int .i64 0) (.int .i64 0)
      generalize ((((World.setCell w2 ⟨z, 0, none⟩ (.int .i64 0)).setCell ⟨z, 1, none⟩ (.int .i64 0)).setCell ⟨z, 2, none⟩ (.int .i64 0)).setCell ⟨z, 3, none⟩ (.int .i64 0)) = W4 at b4 hb4 ⊢
      have q0 : W4.cell? ⟨z, 0, none⟩ = some (.int .i64 0) := b4.cell 0 rfl
      have q1 : W4.cell? ⟨z, 1, none⟩ = some (.int .i64 0) := b4.cell 1 rfl
      have q2 : W4.cell? ⟨z, 2, none⟩ = some (.int .i64 0) := b4.cell 2 rfl
      have q3 : W4.cell? ⟨z, 3, none⟩ = some (.int .i64 0) := b4.cell 3 rfl
      refine bodyPost_ret (v := .tuple #[.agg #[.int .i64 0, .int .i64 0, .int .i64 0, .int .i64 0], .bool false]) (by simp [results, Tryz.results12, go_sem, q0, q1, q2, q3]) rfl ?_
      exact ofEnd (by rw [HE.out]; rfl) hb4
    · obtain ⟨q, rfl⟩ : ∃ q : Nat, ln = (q : Int) := ⟨ln.toNat, by omega⟩
      by_cases hq : q < nb
      · have hql : (q : Int) < (nb : Int) := by omega
        have hq2 : ¬ (nb : Int) ≤ (q : Int) := by omega
        obtain ⟨y, hy⟩ : ∃ y, x.2[q]? = some y := ⟨_, List.getElem?_eq_getElem (by rw [HNB.out]; exact hq)⟩
        have HE : Hid (r = some y) := Lib.hid (by rw [HOF.out, if_neg hl, Int.toNat_natCast, hy])
        obtain ⟨b, rfl, _, d0, d1, d2, d3⟩ := RdB.elem HRB.out hy
        clear hy
        go_wp2
        clear z0 z1 z2 z3 f0 f1 f2 f3
        have b4 := blk4 HB0.out (.int .i64 y.1.1.1) (.int .i64 y.1.1.2) (.int .i64 (y.1.2 : Int)) (.int .i64 (y.2 : Int))
        have hb4 := below_set4 HBA.out HZ.out (.int .i64 y.1.1.1) (.int .i64 y.1.1.2) (.int .i64 (y.1.2 : Int)) (.int .i64 (y.2 : Int))
        generalize ((((World.setCell w2 ⟨z, 0, none⟩ (.int .i64 y.1.1.1)).setCell ⟨z, 1, none⟩ (.int .i64 y.1.1.2)).setCell ⟨z, 2, none⟩ (.int .i64 (y.1.2 : Int))).setCell ⟨z, 3, none⟩ (.int .i64 (y.2 : Int))) = W4 at b4 hb4 ⊢
        have q0 : W4.cell? ⟨z, 0, none⟩ = some (.int .i64 y.1.1.1) := b4.cell 0 rfl
        have q1 : W4.cell? ⟨z, 1, none⟩ = some (.int .i64 y.1.1.2) := b4.cell 1 rfl
        have q2 : W4.cell? ⟨z, 2, none⟩ = some (.int .i64 (y.1.2 : Int)) := b4.cell 2 rfl
        have q3 : W4.cell? ⟨z, 3, none⟩ = some (.int .i64 (y.2 : Int)) := b4.cell 3 rfl
        refine bodyPost_ret (v := .tuple #[biV y, .bool true]) (by simp [results, Tryz.results12, go_sem, q0, q1, q2, q3]) rfl ?_
        exact ofEnd (by rw [HE.out]; rfl) hb4
      · have hql : ¬ (q : Int) < (nb : Int) := by omega
        have hq2 : (nb : Int) ≤ (q : Int) := by omega
        have HE : Hid (r = none) := Lib.hid (by rw [HOF.out, if_neg hl, Int.toNat_natCast, List.getElem?_eq_none (by rw [HNB.out]; omega)])
        go_wp2
        clear z0 z1 z2 z3 f0 f1 f2 f3
        have b4 := blk4 HB0.out (.int .i64 0) (.int .i64 0) (.int .i64 0) (.int .i64 0)
        have hb4 := below_set4 HBA.out HZ.out (.int .i64 0) (.int .i64 0) (.int .i64 0) (.int .i64 0)
        generalize ((((World.setCell w2 ⟨z, 0, none⟩ (.int .i64 0)).setCell ⟨z, 1, none⟩ (.int .i64 0)).setCell ⟨z, 2, none⟩ (.int .i64 0)).setCell ⟨z, 3, none⟩ (.int .i64 0)) = W4 at b4 hb4 ⊢
        have q0 : W4.cell? ⟨z, 0, none⟩ = some (.int .i64 0) := b4.cell 0 rfl
        have q1 : W4.cell? ⟨z, 1, none⟩ = some (.int .i64 0) := b4.cell 1 rfl
        have q2 : W4.cell? ⟨z, 2, none⟩ = some (.int .i64 0) := b4.cell 2 rfl
        have q3 : W4.cell? ⟨z, 3, none⟩ = some (.int .i64 0) := b4.cell 3 rfl
        refine bodyPost_ret (v := .tuple #[.agg #[.int .i64 0, .int .i64 0, .int .i64 0, .int .i64 0], .bool false]) (by simp [results, Tryz.results12, go_sem, q0, q1, q2, q3]) rfl ?_
        exact ofEnd (by rw [HE.out]; rfl) hb4

end Bm
end Go.Proofs.YtfnhjflocfmcoaaGreat
