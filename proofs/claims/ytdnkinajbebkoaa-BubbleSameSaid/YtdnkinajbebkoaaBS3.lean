/-
  Words and contracts, joined: PsCode FlRef2 FlLeaf PnSame TgLeaf TgWith FlBack FlMine FlWords FlThru FlHi FlPass TgPass FlCut FlRefPass TgBack.
-/
import Derived.Deep.RegionHeld3
import Derived.Deep.Cut
import Derived.WalkMore
import Derived.Deep.RegionWith
import Derived.Laws.StructEq
import Derived.BigQuiet
import Derived.Deep.RegionLaw
import Derived.Test.YtdnkinajbebkoaaRows
import Derived.RangeFuncBound
import Derived.Shelf.Abstract
import Derived.Shelf.RegionOpen
import Derived.WalkKit
import Derived.OwnWalkIn
import Derived.TacticsInMore
import Derived.LoopNIn
import Derived.LoopIn
import Derived.Maps.AppendAt
import Derived.WalkSpells
import Derived.WalkLawsBesides
import Derived.Lib.Hide
import Derived.Test.YtdnkinajbebkoaaBS2
set_option maxRecDepth 100000
namespace Go.Proofs.Ytdnkinajbebkoaa
open Go.RowKit
set_option linter.unusedVariables false
set_option linter.unusedSimpArgs false
namespace Pr
open Tx Df Sq Hk Tr

theorem ppEndH_none {w w' : World} {p q x y : Ch} {b : Bool} (ho : outP (passP p q) = (x, y)) (hb : (passP p q).isSome = b) (h : passP p q = none) (hw : Below w.heap.size w w') :
    PPEndH w x y b (.returned (.tuple #[.agg #[.int .i64 0, strV [], strV [], .int .i64 0, .slice none 0 0, .slice none 0 0], .agg #[.int .i64 0, strV [], strV [], .int .i64 0, .slice none 0 0, .slice none 0 0], .bool false])) w' := by
  rw [h] at ho hb
  subst hb
  injection ho with h1 h2
  subst h1 h2
  exact ⟨none, 0, 0, none, 0, 0, none, 0, 0, none, 0, 0, rfl, zero_PV _ _, zero_PV _ _, ⟨Nat.zero_le _, Nat.zero_le _⟩, ⟨Nat.zero_le _, Nat.zero_le _⟩, ⟨hi_none _, hi_none _, hi_none _, hi_none _⟩, hw⟩
theorem ppEndH_some {w w' : World} {A B D E : Option Addr} {n c m d i j k l : Nat} {p q x y x' y' : Ch} {b : Bool} (ho : outP (passP p q) = (x, y)) (hb : (passP p q).isSome = b) (h : passP p q = some (x', y')) (hv : PV w' w'.heap.size A n c B m d x') (gv : PV w' w'.heap.size D i j E k l y') (hl : n ≤ 1000 ∧ m ≤ 1000) (gl : i ≤ 1000 ∧ k ≤ 1000)
    (hi : Hi w.heap.size A ∧ Hi w.heap.size B ∧ Hi w.heap.size D ∧ Hi w.heap.size E) (hw : Below w.heap.size w w') :
    PPEndH w x y b (.returned (.tuple #[prV x'.k x'.nm x'.to x'.h.pos A n c B m d, prV y'.k y'.nm y'.to y'.h.pos D i j E k l, .bool true])) w' := by
  rw [h] at ho hb
  subst hb
  injection ho with h1 h2
  subst h1 h2
  exact ⟨A, n, c, B, m, d, D, i, j, E, k, l, rfl, hv, gv, hl, gl, hi, hw⟩

/-- Two changes, boxed, the one or the other one first. -/
def Two (c wx : World) (T U : Nat) (x y : Array Value) : Prop := Blk wx T 54 x ∧ Blk wx U 54 y ∧ T ≠ U ∧ c.heap.size ≤ T ∧ c.heap.size ≤ U ∧ Below c.heap.size c wx
theorem two_aa (c : World) (x y : Array Value) : Two c ((c.alloc (.cells x 54)).alloc (.cells y 54)) c.heap.size (c.heap.size + 1) x y := by
  have h2 := Blk.new (c.alloc (.cells x 54)) 54 y
  simp only [World.size_alloc] at h2
  exact ⟨(Blk.new c _ x).alloc _, h2, by omega, Nat.le_refl _, Nat.le_succ _, two_box c _ _⟩
theorem Two.swap {c wx : World} {T U : Nat} {x y : Array Value} (h : Two c wx T U x y) : Two c wx U T y x := ⟨h.2.1, h.1, h.2.2.1.symm, h.2.2.2.2.1, h.2.2.2.1, h.2.2.2.2.2⟩
theorem Two.drew {c wx : World} {T U : Nat} {x y : Array Value} (h : Two c wx T U x y) : Two c wx.drew T U x y := ⟨h.1.drewN 1, h.2.1.drewN 1, h.2.2.1, h.2.2.2.1, h.2.2.2.2.1, below_drewN h.2.2.2.2.2 1⟩

theorem blk_ne6 {W : World} {b b' : Nat} {t : TypeId} {cs : Array Value} (h : Blk W b t cs) (hne : b ≠ b') (v0 v1 v2 v3 v4 v5 : Value) :
    Blk ((((((W.setCell ⟨b', 0, none⟩ v0).setCell ⟨b', 1, none⟩ v1).setCell ⟨b', 2, none⟩ v2).setCell ⟨b', 3, none⟩ v3).setCell ⟨b', 4, none⟩ v4).setCell ⟨b', 5, none⟩ v5) b t cs :=
  (((((h.set_ne hne 0 v0).set_ne hne 1 v1).set_ne hne 2 v2).set_ne hne 3 v3).set_ne hne 4 v4).set_ne hne 5 v5

/-- What lies there behind the switch. -/
def PMid (w wx : World) (g T U : Nat) (p q : Ch) : Prop :=
  ∃ x y A1 n1 c1 B1 m1 d1 A2 n2 c2 B2 m2 d2, passP p q = some (x, y) ∧
    Blk wx T 54 #[.int .i64 x.k, strV x.nm, strV x.to, .int .i64 x.h.pos, .slice A1 n1 c1, .slice B1 m1 d1] ∧
    Blk wx U 54 #[.int .i64 y.k, strV y.nm, strV y.to, .int .i64 y.h.pos, .slice A2 n2 c2, .slice B2 m2 d2] ∧
    Blk wx (g + 2) 54 #[.int .i64 0, strV [], strV [], .int .i64 0, .slice none 0 0, .slice none 0 0] ∧ Blk wx (g + 3) 54 #[.int .i64 0, strV [], strV [], .int .i64 0, .slice none 0 0, .slice none 0 0] ∧
    PV wx wx.heap.size A1 n1 c1 B1 m1 d1 x ∧ PV wx wx.heap.size A2 n2 c2 B2 m2 d2 y ∧ (n1 ≤ 1000 ∧ m1 ≤ 1000) ∧ (n2 ≤ 1000 ∧ m2 ≤ 1000) ∧ Below g w wx

/-- A change that may be, of another kind than a move, has no other name. -/
theorem may_to {p : Ch} (hm : mayP p = true) (hk : p.k = 3 ∨ p.k = 4) : p.to = [] := (may_h hm hk).2.1
theorem name_ne {p q : Ch} (hm : mayP p = true) (hq : mayP q = true) (hk : p.k = 3 ∨ p.k = 4) : (q.nm == p.to) = false := by
  rw [may_to hm hk]
  have h1 := (mayP_cases.1 hq).1
  cases hn : q.nm with
  | nil => rw [hn] at h1; revert h1; decide
  | cons _ _ => rfl

theorem k_absurd {k : Int} (h : (k == 3) = true) (h' : (k == 4) = true) : False := by
  have a : k = 3 := by simpa using h
  have b : k = 4 := by simpa using h'
  omega
theorem k_absurd2 {k : Int} (h : (k == 3) = true) (h' : (k == 2) = true) : False := by
  have a : k = 3 := by simpa using h
  have b : k = 2 := by simpa using h'
  omega
theorem k_absurd3 {k : Int} (h : (k == 4) = true) (h' : (k == 2) = true) : False := by
  have a : k = 4 := by simpa using h
  have b : k = 2 := by simpa using h'
  omega

set_option maxRecDepth 100000 in
set_option maxHeartbeats 16000000 in
theorem PassPH (A : Option Addr) (n c : Nat) (A' : Option Addr) (n' c' : Nat) (D : Option Addr) (m k : Nat) (D' : Option Addr) (m' k' : Nat) (p q x y : Ch) (w : World) (b : Bool) (hl : n ≤ 1000 ∧ n' ≤ 1000) (gl : m ≤ 1000 ∧ m' ≤ 1000)
    (hv : PV w w.heap.size A n c A' n' c' p) (gv : PV w w.heap.size D m k D' m' k' q) (ho : outP (passP p q) = (x, y)) (hb : (passP p q).isSome = b) :
    Calls Try.prog 74 #[prV p.k p.nm p.to p.h.pos A n c A' n' c', prV q.k q.nm q.to q.h.pos D m k D' m' k'] w (PPEndH w x y b) := by
  have HV0 := Lib.hid hv; have GV0 := Lib.hid gv; have HL := Lib.hid hl; have GL := Lib.hid gl; have HO := Lib.hid ho; have HBB := Lib.hid hb
  clear hl gl hv gv ho hb
  go_enter Try.func74, Try.ntmps74
  go_wp2_with fail
  have hw0 : Below w.heap.size w ((((w.alloc (.cells #[.int .i64 p.k, strV p.nm, strV p.to, .int .i64 p.h.pos, .slice A n c, .slice A' n' c'] 54)).alloc (.cells #[.int .i64 q.k, strV q.nm, strV q.to, .int .i64 q.h.pos, .slice D m k, .slice D' m' k'] 54)).alloc (.cells #[.int .i64 0, strV [], strV [], .int .i64 0, .slice none 0 0, .slice none 0 0] 54)).alloc (.cells #[.int .i64 0, strV [], strV [], .int .i64 0, .slice none 0 0, .slice none 0 0] 54)) := ((((Below.refl _ _).alloc (Nat.le_refl _) _).alloc (by simp) _).alloc (by simp; omega) _).alloc (by simp; omega) _
  have b0 := (((Blk.new w 54 #[.int .i64 p.k, strV p.nm, strV p.to, .int .i64 p.h.pos, .slice A n c, .slice A' n' c']).alloc (.cells #[.int .i64 q.k, strV q.nm, strV q.to, .int .i64 q.h.pos, .slice D m k, .slice D' m' k'] 54)).alloc (.cells #[.int .i64 0, strV [], strV [], .int .i64 0, .slice none 0 0, .slice none 0 0] 54)).alloc (.cells #[.int .i64 0, strV [], strV [], .int .i64 0, .slice none 0 0, .slice none 0 0] 54)
  have b1 := ((Blk.new (w.alloc (.cells #[.int .i64 p.k, strV p.nm, strV p.to, .int .i64 p.h.pos, .slice A n c, .slice A' n' c'] 54)) 54 #[.int .i64 q.k, strV q.nm, strV q.to, .int .i64 q.h.pos, .slice D m k, .slice D' m' k']).alloc (.cells #[.int .i64 0, strV [], strV [], .int .i64 0, .slice none 0 0, .slice none 0 0] 54)).alloc (.cells #[.int .i64 0, strV [], strV [], .int .i64 0, .slice none 0 0, .slice none 0 0] 54)
  have b2 := (Blk.new ((w.alloc (.cells #[.int .i64 p.k, strV p.nm, strV p.to, .int .i64 p.h.pos, .slice A n c, .slice A' n' c'] 54)).alloc (.cells #[.int .i64 q.k, strV q.nm, strV q.to, .int .i64 q.h.pos, .slice D m k, .slice D' m' k'] 54)) 54 #[.int .i64 0, strV [], strV [], .int .i64 0, .slice none 0 0, .slice none 0 0]).alloc (.cells #[.int .i64 0, strV [], strV [], .int .i64 0, .slice none 0 0, .slice none 0 0] 54)
  have b3 := Blk.new (((w.alloc (.cells #[.int .i64 p.k, strV p.nm, strV p.to, .int .i64 p.h.pos, .slice A n c, .slice A' n' c'] 54)).alloc (.cells #[.int .i64 q.k, strV q.nm, strV q.to, .int .i64 q.h.pos, .slice D m k, .slice D' m' k'] 54)).alloc (.cells #[.int .i64 0, strV [], strV [], .int .i64 0, .slice none 0 0, .slice none 0 0] 54)) 54 #[.int .i64 0, strV [], strV [], .int .i64 0, .slice none 0 0, .slice none 0 0]
  simp only [World.size_alloc] at b1 b2 b3
  generalize ((((w.alloc (.cells #[.int .i64 p.k, strV p.nm, strV p.to, .int .i64 p.h.pos, .slice A n c, .slice A' n' c'] 54)).alloc (.cells #[.int .i64 q.k, strV q.nm, strV q.to, .int .i64 q.h.pos, .slice D m k, .slice D' m' k'] 54)).alloc (.cells #[.int .i64 0, strV [], strV [], .int .i64 0, .slice none 0 0, .slice none 0 0] 54)).alloc (.cells #[.int .i64 0, strV [], strV [], .int .i64 0, .slice none 0 0, .slice none 0 0] 54)) = w0 at *
  obtain ⟨g, hgs⟩ : ∃ g, w.heap.size = g := ⟨_, rfl⟩
  rw [hgs] at b0 b1 b2 b3 ⊢
  rw [show g + 1 + 1 = g + 2 from rfl] at b2 b3 ⊢
  rw [show g + 2 + 1 = g + 3 from rfl] at b3 ⊢
  have HGS := Lib.hid hgs
  have HVw0 := Lib.hid (HV0.out.mv hw0); have GVw0 := Lib.hid (GV0.out.mv hw0)
  rw [hgs] at hw0
  have HWw0 := Lib.hid hw0
  have HB0w0 := Lib.hid b0; have HB1w0 := Lib.hid b1; have HB2w0 := Lib.hid b2; have HB3w0 := Lib.hid b3
  clear hgs b0 b1 b2 b3 hw0
  obtain ⟨bp, hbp⟩ : ∃ b, mayP p = b := ⟨_, rfl⟩
  obtain ⟨bq, hbq⟩ : ∃ b, mayP q = b := ⟨_, rfl⟩
  obtain ⟨ba, hba⟩ : ∃ b, apartP p q = b := ⟨_, rfl⟩
  have HBP := Lib.hid hbp; have HBQ := Lib.hid hbq; have HBA := Lib.hid hba
  clear hbp hbq hba
  have HGw0 := Lib.hid (show g ≤ w0.heap.size by have := HB3w0.out.lt; omega)
  have x0 : w0.cell? ⟨g, 0, none⟩ = some (.int .i64 p.k) := HB0w0.out.cell 0 rfl; have x1 : w0.cell? ⟨g, 1, none⟩ = some (strV p.nm) := HB0w0.out.cell 1 rfl; have x2 : w0.cell? ⟨g, 2, none⟩ = some (strV p.to) := HB0w0.out.cell 2 rfl; have x3 : w0.cell? ⟨g, 3, none⟩ = some (.int .i64 p.h.pos) := HB0w0.out.cell 3 rfl; have x4 : w0.cell? ⟨g, 4, none⟩ = some (.slice A n c) := HB0w0.out.cell 4 rfl; have x5 : w0.cell? ⟨g, 5, none⟩ = some (.slice A' n' c') := HB0w0.out.cell 5 rfl
  go_step3
  go_wp2_with fail
  clear x0 x1 x2 x3 x4 x5
  refine (MayP A n c A' n' c' p w0 bp HVw0.out HBP.out).mono ?_
  rintro e w1 ⟨rfl, hb⟩
  have HVw1 := Lib.hid (HVw0.out.mv hb); have GVw1 := Lib.hid (GVw0.out.mv hb); clear HVw0 GVw0
  have HWw1 := Lib.hid (HWw0.out.trans (hb.mono HGw0.out)); have HGw1 := Lib.hid (Nat.le_trans HGw0.out hb.size)
  have HB0w1 := Lib.hid (HB0w0.out.below hb HB0w0.out.lt); have HB1w1 := Lib.hid (HB1w0.out.below hb HB1w0.out.lt); have HB2w1 := Lib.hid (HB2w0.out.below hb HB2w0.out.lt); have HB3w1 := Lib.hid (HB3w0.out.below hb HB3w0.out.lt)
  clear hb HWw0 HGw0 HB0w0 HB1w0 HB2w0 HB3w0
  cases bp with
  | false =>
    have u0 : w1.cell? ⟨g + 2, 0, none⟩ = some (.int .i64 0) := HB2w1.out.cell 0 rfl; have u1 : w1.cell? ⟨g + 2, 1, none⟩ = some (strV []) := HB2w1.out.cell 1 rfl; have u2 : w1.cell? ⟨g + 2, 2, none⟩ = some (strV []) := HB2w1.out.cell 2 rfl; have u3 : w1.cell? ⟨g + 2, 3, none⟩ = some (.int .i64 0) := HB2w1.out.cell 3 rfl; have u4 : w1.cell? ⟨g + 2, 4, none⟩ = some (.slice none 0 0) := HB2w1.out.cell 4 rfl; have u5 : w1.cell? ⟨g + 2, 5, none⟩ = some (.slice none 0 0) := HB2w1.out.cell 5 rfl
    have v0 : w1.cell? ⟨g + 3, 0, none⟩ = some (.int .i64 0) := HB3w1.out.cell 0 rfl; have v1 : w1.cell? ⟨g + 3, 1, none⟩ = some (strV []) := HB3w1.out.cell 1 rfl; have v2 : w1.cell? ⟨g + 3, 2, none⟩ = some (strV []) := HB3w1.out.cell 2 rfl; have v3 : w1.cell? ⟨g + 3, 3, none⟩ = some (.int .i64 0) := HB3w1.out.cell 3 rfl; have v4 : w1.cell? ⟨g + 3, 4, none⟩ = some (.slice none 0 0) := HB3w1.out.cell 4 rfl; have v5 : w1.cell? ⟨g + 3, 5, none⟩ = some (.slice none 0 0) := HB3w1.out.cell 5 rfl
    have f0 : w1.frozen? ⟨g + 2, 0, none⟩ = false := HB2w1.out.frozen 0; have f1 : w1.frozen? ⟨g + 2, 1, none⟩ = false := HB2w1.out.frozen 1; have f2 : w1.frozen? ⟨g + 2, 2, none⟩ = false := HB2w1.out.frozen 2; have f3 : w1.frozen? ⟨g + 2, 3, none⟩ = false := HB2w1.out.frozen 3; have f4 : w1.frozen? ⟨g + 2, 4, none⟩ = false := HB2w1.out.frozen 4; have f5 : w1.frozen? ⟨g + 2, 5, none⟩ = false := HB2w1.out.frozen 5
    have h0 : w1.frozen? ⟨g + 3, 0, none⟩ = false := HB3w1.out.frozen 0; have h1 : w1.frozen? ⟨g + 3, 1, none⟩ = false := HB3w1.out.frozen 1; have h2 : w1.frozen? ⟨g + 3, 2, none⟩ = false := HB3w1.out.frozen 2; have h3 : w1.frozen? ⟨g + 3, 3, none⟩ = false := HB3w1.out.frozen 3; have h4 : w1.frozen? ⟨g + 3, 4, none⟩ = false := HB3w1.out.frozen 4; have h5 : w1.frozen? ⟨g + 3, 5, none⟩ = false := HB3w1.out.frozen 5
    go_wp2_with fail
    obtain ⟨z2, z3⟩ := two_set6 HB2w1.out HB3w1.out (by omega) (.int .i64 0) (strV []) (strV []) (.int .i64 0) (.slice none 0 0) (.slice none 0 0) (.int .i64 0) (strV []) (strV []) (.int .i64 0) (.slice none 0 0) (.slice none 0 0)
    have hb6 := below_set12 (b := g + 2) (b' := g + 3) HWw1.out (by omega) (by omega) (.int .i64 0) (strV []) (strV []) (.int .i64 0) (.slice none 0 0) (.slice none 0 0) (.int .i64 0) (strV []) (strV []) (.int .i64 0) (.slice none 0 0) (.slice none 0 0)
    generalize (World.setCell (World.setCell (World.setCell (World.setCell (World.setCell (World.setCell (World.setCell (World.setCell (World.setCell (World.setCell (World.setCell (World.setCell w1 ⟨g + 2, 0, none⟩ (.int .i64 0)) ⟨g + 2, 1, none⟩ (strV [])) ⟨g + 2, 2, none⟩ (strV [])) ⟨g + 2, 3, none⟩ (.int .i64 0)) ⟨g + 2, 4, none⟩ (.slice none 0 0)) ⟨g + 2, 5, none⟩ (.slice none 0 0)) ⟨g + 3, 0, none⟩ (.int .i64 0)) ⟨g + 3, 1, none⟩ (strV [])) ⟨g + 3, 2, none⟩ (strV [])) ⟨g + 3, 3, none⟩ (.int .i64 0)) ⟨g + 3, 4, none⟩ (.slice none 0 0)) ⟨g + 3, 5, none⟩ (.slice none 0 0)) = W3 at *
    clear u0 u1 u2 u3 u4 u5 v0 v1 v2 v3 v4 v5 f0 f1 f2 f3 f4 f5 h0 h1 h2 h3 h4 h5
    have u0 : W3.cell? ⟨g + 2, 0, none⟩ = some (.int .i64 0) := z2.cell 0 rfl; have u1 : W3.cell? ⟨g + 2, 1, none⟩ = some (strV []) := z2.cell 1 rfl; have u2 : W3.cell? ⟨g + 2, 2, none⟩ = some (strV []) := z2.cell 2 rfl; have u3 : W3.cell? ⟨g + 2, 3, none⟩ = some (.int .i64 0) := z2.cell 3 rfl; have u4 : W3.cell? ⟨g + 2, 4, none⟩ = some (.slice none 0 0) := z2.cell 4 rfl; have u5 : W3.cell? ⟨g + 2, 5, none⟩ = some (.slice none 0 0) := z2.cell 5 rfl
    have v0 : W3.cell? ⟨g + 3, 0, none⟩ = some (.int .i64 0) := z3.cell 0 rfl; have v1 : W3.cell? ⟨g + 3, 1, none⟩ = some (strV []) := z3.cell 1 rfl; have v2 : W3.cell? ⟨g + 3, 2, none⟩ = some (strV []) := z3.cell 2 rfl; have v3 : W3.cell? ⟨g + 3, 3, none⟩ = some (.int .i64 0) := z3.cell 3 rfl; have v4 : W3.cell? ⟨g + 3, 4, none⟩ = some (.slice none 0 0) := z3.cell 4 rfl; have v5 : W3.cell? ⟨g + 3, 5, none⟩ = some (.slice none 0 0) := z3.cell 5 rfl
    try rw [Exit.noGoto_ret]
    refine bodyPost_ret (v := .tuple #[.agg #[.int .i64 0, strV [], strV [], .int .i64 0, .slice none 0 0, .slice none 0 0], .agg #[.int .i64 0, strV [], strV [], .int .i64 0, .slice none 0 0, .slice none 0 0], .bool false]) (by simp [results, Try.results74, go_sem, u0, v0, u1, v1, u2, v2, u3, v3, u4, v4, u5, v5]) rfl ?_
    have hW : Below w.heap.size w W3 := by rw [HGS.out]; exact hb6
    exact ppEndH_none HO.out HBB.out (passP_no1 HBP.out) hW
  | true =>
  have y0 : w1.cell? ⟨g + 1, 0, none⟩ = some (.int .i64 q.k) := HB1w1.out.cell 0 rfl; have y1 : w1.cell? ⟨g + 1, 1, none⟩ = some (strV q.nm) := HB1w1.out.cell 1 rfl; have y2 : w1.cell? ⟨g + 1, 2, none⟩ = some (strV q.to) := HB1w1.out.cell 2 rfl; have y3 : w1.cell? ⟨g + 1, 3, none⟩ = some (.int .i64 q.h.pos) := HB1w1.out.cell 3 rfl; have y4 : w1.cell? ⟨g + 1, 4, none⟩ = some (.slice D m k) := HB1w1.out.cell 4 rfl; have y5 : w1.cell? ⟨g + 1, 5, none⟩ = some (.slice D' m' k') := HB1w1.out.cell 5 rfl
  go_wp2_with fail
  clear y0 y1 y2 y3 y4 y5
  refine (MayP D m k D' m' k' q w1 bq GVw1.out HBQ.out).mono ?_
  rintro e w2 ⟨rfl, hb⟩
  have HVw2 := Lib.hid (HVw1.out.mv hb); have GVw2 := Lib.hid (GVw1.out.mv hb); clear HVw1 GVw1
  have HWw2 := Lib.hid (HWw1.out.trans (hb.mono HGw1.out)); have HGw2 := Lib.hid (Nat.le_trans HGw1.out hb.size)
  have HB0w2 := Lib.hid (HB0w1.out.below hb HB0w1.out.lt); have HB1w2 := Lib.hid (HB1w1.out.below hb HB1w1.out.lt); have HB2w2 := Lib.hid (HB2w1.out.below hb HB2w1.out.lt); have HB3w2 := Lib.hid (HB3w1.out.below hb HB3w1.out.lt)
  clear hb HWw1 HGw1 HB0w1 HB1w1 HB2w1 HB3w1
  cases bq with
  | false =>
    have u0 : w2.cell? ⟨g + 2, 0, none⟩ = some (.int .i64 0) := HB2w2.out.cell 0 rfl; have u1 : w2.cell? ⟨g + 2, 1, none⟩ = some (strV []) := HB2w2.out.cell 1 rfl; have u2 : w2.cell? ⟨g + 2, 2, none⟩ = some (strV []) := HB2w2.out.cell 2 rfl; have u3 : w2.cell? ⟨g + 2, 3, none⟩ = some (.int .i64 0) := HB2w2.out.cell 3 rfl; have u4 : w2.cell? ⟨g + 2, 4, none⟩ = some (.slice none 0 0) := HB2w2.out.cell 4 rfl; have u5 : w2.cell? ⟨g + 2, 5, none⟩ = some (.slice none 0 0) := HB2w2.out.cell 5 rfl
    have v0 : w2.cell? ⟨g + 3, 0, none⟩ = some (.int .i64 0) := HB3w2.out.cell 0 rfl; have v1 : w2.cell? ⟨g + 3, 1, none⟩ = some (strV []) := HB3w2.out.cell 1 rfl; have v2 : w2.cell? ⟨g + 3, 2, none⟩ = some (strV []) := HB3w2.out.cell 2 rfl; have v3 : w2.cell? ⟨g + 3, 3, none⟩ = some (.int .i64 0) := HB3w2.out.cell 3 rfl; have v4 : w2.cell? ⟨g + 3, 4, none⟩ = some (.slice none 0 0) := HB3w2.out.cell 4 rfl; have v5 : w2.cell? ⟨g + 3, 5, none⟩ = some (.slice none 0 0) := HB3w2.out.cell 5 rfl
    have f0 : w2.frozen? ⟨g + 2, 0, none⟩ = false := HB2w2.out.frozen 0; have f1 : w2.frozen? ⟨g + 2, 1, none⟩ = false := HB2w2.out.frozen 1; have f2 : w2.frozen? ⟨g + 2, 2, none⟩ = false := HB2w2.out.frozen 2; have f3 : w2.frozen? ⟨g + 2, 3, none⟩ = false := HB2w2.out.frozen 3; have f4 : w2.frozen? ⟨g + 2, 4, none⟩ = false := HB2w2.out.frozen 4; have f5 : w2.frozen? ⟨g + 2, 5, none⟩ = false := HB2w2.out.frozen 5
    have h0 : w2.frozen? ⟨g + 3, 0, none⟩ = false := HB3w2.out.frozen 0; have h1 : w2.frozen? ⟨g + 3, 1, none⟩ = false := HB3w2.out.frozen 1; have h2 : w2.frozen? ⟨g + 3, 2, none⟩ = false := HB3w2.out.frozen 2; have h3 : w2.frozen? ⟨g + 3, 3, none⟩ = false := HB3w2.out.frozen 3; have h4 : w2.frozen? ⟨g + 3, 4, none⟩ = false := HB3w2.out.frozen 4; have h5 : w2.frozen? ⟨g + 3, 5, none⟩ = false := HB3w2.out.frozen 5
    go_wp2_with fail
    obtain ⟨z2, z3⟩ := two_set6 HB2w2.out HB3w2.out (by omega) (.int .i64 0) (strV []) (strV []) (.int .i64 0) (.slice none 0 0) (.slice none 0 0) (.int .i64 0) (strV []) (strV []) (.int .i64 0) (.slice none 0 0) (.slice none 0 0)
    have hb6 := below_set12 (b := g + 2) (b' := g + 3) HWw2.out (by omega) (by omega) (.int .i64 0) (strV []) (strV []) (.int .i64 0) (.slice none 0 0) (.slice none 0 0) (.int .i64 0) (strV []) (strV []) (.int .i64 0) (.slice none 0 0) (.slice none 0 0)
    generalize (World.setCell (World.setCell (World.setCell (World.setCell (World.setCell (World.setCell (World.setCell (World.setCell (World.setCell (World.setCell (World.setCell (World.setCell w2 ⟨g + 2, 0, none⟩ (.int .i64 0)) ⟨g + 2, 1, none⟩ (strV [])) ⟨g + 2, 2, none⟩ (strV [])) ⟨g + 2, 3, none⟩ (.int .i64 0)) ⟨g + 2, 4, none⟩ (.slice none 0 0)) ⟨g + 2, 5, none⟩ (.slice none 0 0)) ⟨g + 3, 0, none⟩ (.int .i64 0)) ⟨g + 3, 1, none⟩ (strV [])) ⟨g + 3, 2, none⟩ (strV [])) ⟨g + 3, 3, none⟩ (.int .i64 0)) ⟨g + 3, 4, none⟩ (.slice none 0 0)) ⟨g + 3, 5, none⟩ (.slice none 0 0)) = W3 at *
    clear u0 u1 u2 u3 u4 u5 v0 v1 v2 v3 v4 v5 f0 f1 f2 f3 f4 f5 h0 h1 h2 h3 h4 h5
    have u0 : W3.cell? ⟨g + 2, 0, none⟩ = some (.int .i64 0) := z2.cell 0 rfl; have u1 : W3.cell? ⟨g + 2, 1, none⟩ = some (strV []) := z2.cell 1 rfl; have u2 : W3.cell? ⟨g + 2, 2, none⟩ = some (strV []) := z2.cell 2 rfl; have u3 : W3.cell? ⟨g + 2, 3, none⟩ = some (.int .i64 0) := z2.cell 3 rfl; have u4 : W3.cell? ⟨g + 2, 4, none⟩ = some (.slice none 0 0) := z2.cell 4 rfl; have u5 : W3.cell? ⟨g + 2, 5, none⟩ = some (.slice none 0 0) := z2.cell 5 rfl
    have v0 : W3.cell? ⟨g + 3, 0, none⟩ = some (.int .i64 0) := z3.cell 0 rfl; have v1 : W3.cell? ⟨g + 3, 1, none⟩ = some (strV []) := z3.cell 1 rfl; have v2 : W3.cell? ⟨g + 3, 2, none⟩ = some (strV []) := z3.cell 2 rfl; have v3 : W3.cell? ⟨g + 3, 3, none⟩ = some (.int .i64 0) := z3.cell 3 rfl; have v4 : W3.cell? ⟨g + 3, 4, none⟩ = some (.slice none 0 0) := z3.cell 4 rfl; have v5 : W3.cell? ⟨g + 3, 5, none⟩ = some (.slice none 0 0) := z3.cell 5 rfl
    try rw [Exit.noGoto_ret]
    refine bodyPost_ret (v := .tuple #[.agg #[.int .i64 0, strV [], strV [], .int .i64 0, .slice none 0 0, .slice none 0 0], .agg #[.int .i64 0, strV [], strV [], .int .i64 0, .slice none 0 0, .slice none 0 0], .bool false]) (by simp [results, Try.results74, go_sem, u0, v0, u1, v1, u2, v2, u3, v3, u4, v4, u5, v5]) rfl ?_
    have hW : Below w.heap.size w W3 := by rw [HGS.out]; exact hb6
    exact ppEndH_none HO.out HBB.out (passP_no2 HBQ.out) hW
  | true =>
  go_upto_region 3 with fail
  go_cut [7, 8] from 9 (fun s7 s8 wx => ∃ (T U : Nat), s7 = .pointer (some ⟨T, 0, none⟩) ∧ s8 = .pointer (some ⟨U, 0, none⟩) ∧ Two w2 wx T U #[.int .i64 q.k, strV q.nm, strV q.to, .int .i64 q.h.pos, .slice D m k, .slice D' m' k'] #[.int .i64 p.k, strV p.nm, strV p.to, .int .i64 p.h.pos, .slice A n c, .slice A' n' c'])
  case first =>
    have x0 : w2.cell? ⟨g, 0, none⟩ = some (.int .i64 p.k) := HB0w2.out.cell 0 rfl; have x1 : w2.cell? ⟨g, 1, none⟩ = some (strV p.nm) := HB0w2.out.cell 1 rfl; have x2 : w2.cell? ⟨g, 2, none⟩ = some (strV p.to) := HB0w2.out.cell 2 rfl; have x3 : w2.cell? ⟨g, 3, none⟩ = some (.int .i64 p.h.pos) := HB0w2.out.cell 3 rfl; have x4 : w2.cell? ⟨g, 4, none⟩ = some (.slice A n c) := HB0w2.out.cell 4 rfl; have x5 : w2.cell? ⟨g, 5, none⟩ = some (.slice A' n' c') := HB0w2.out.cell 5 rfl
    have y0 : w2.cell? ⟨g + 1, 0, none⟩ = some (.int .i64 q.k) := HB1w2.out.cell 0 rfl; have y1 : w2.cell? ⟨g + 1, 1, none⟩ = some (strV q.nm) := HB1w2.out.cell 1 rfl; have y2 : w2.cell? ⟨g + 1, 2, none⟩ = some (strV q.to) := HB1w2.out.cell 2 rfl; have y3 : w2.cell? ⟨g + 1, 3, none⟩ = some (.int .i64 q.h.pos) := HB1w2.out.cell 3 rfl; have y4 : w2.cell? ⟨g + 1, 4, none⟩ = some (.slice D m k) := HB1w2.out.cell 4 rfl; have y5 : w2.cell? ⟨g + 1, 5, none⟩ = some (.slice D' m' k') := HB1w2.out.cell 5 rfl
    have hg0 : g < w2.heap.size := HB0w2.out.lt
    have hg1 : g + 1 < w2.heap.size := HB1w2.out.lt
    go_region
    all_goals (try go_wp2_with fail)
    all_goals go_meet
    all_goals first
      | (with_reducible exact ⟨_, _, rfl, rfl, (two_aa w2 _ _).drew⟩)
      | (with_reducible exact ⟨_, _, rfl, rfl, (two_aa w2 _ _).swap.drew⟩)
      | (exact ⟨_, _, rfl, rfl, (two_aa w2 _ _).drew⟩)
      | (exact ⟨_, _, rfl, rfl, (two_aa w2 _ _).swap.drew⟩)
  case rest =>
  obtain ⟨T, U, rfl, rfl, hbt, hbu, hne, hT, hU, hb⟩ := hcut
  have HBTwc := Lib.hid hbt; have HBUwc := Lib.hid hbu; have HNE := Lib.hid hne
  have HgT : Hid (g + 3 < T ∧ g + 3 < U) := Lib.hid (by have := HB3w2.out.lt; omega)
  have HVwc := Lib.hid (HVw2.out.mv hb); have GVwc := Lib.hid (GVw2.out.mv hb); clear HVw2 GVw2
  clear hbt hbu hne hT hU
  have HWwc := Lib.hid (HWw2.out.trans (hb.mono HGw2.out)); have HGwc := Lib.hid (Nat.le_trans HGw2.out hb.size)
  have HB0wc := Lib.hid (HB0w2.out.below hb HB0w2.out.lt); have HB1wc := Lib.hid (HB1w2.out.below hb HB1w2.out.lt); have HB2wc := Lib.hid (HB2w2.out.below hb HB2w2.out.lt); have HB3wc := Lib.hid (HB3w2.out.below hb HB3w2.out.lt)
  clear hb HWw2 HGw2 HB0w2 HB1w2 HB2w2 HB3w2
  go_wp2_with fail
  go_step3
  go_step
  go_step
  go_step
  go_cut [] from 9 (fun wx => PMid w wx g T U p q)
  case first =>
    have x0 : wc.cell? ⟨g, 0, none⟩ = some (.int .i64 p.k) := HB0wc.out.cell 0 rfl; have x1 : wc.cell? ⟨g, 1, none⟩ = some (strV p.nm) := HB0wc.out.cell 1 rfl; have x2 : wc.cell? ⟨g, 2, none⟩ = some (strV p.to) := HB0wc.out.cell 2 rfl; have x3 : wc.cell? ⟨g, 3, none⟩ = some (.int .i64 p.h.pos) := HB0wc.out.cell 3 rfl; have x4 : wc.cell? ⟨g, 4, none⟩ = some (.slice A n c) := HB0wc.out.cell 4 rfl; have x5 : wc.cell? ⟨g, 5, none⟩ = some (.slice A' n' c') := HB0wc.out.cell 5 rfl
    have y0 : wc.cell? ⟨g + 1, 0, none⟩ = some (.int .i64 q.k) := HB1wc.out.cell 0 rfl; have y1 : wc.cell? ⟨g + 1, 1, none⟩ = some (strV q.nm) := HB1wc.out.cell 1 rfl; have y2 : wc.cell? ⟨g + 1, 2, none⟩ = some (strV q.to) := HB1wc.out.cell 2 rfl; have y3 : wc.cell? ⟨g + 1, 3, none⟩ = some (.int .i64 q.h.pos) := HB1wc.out.cell 3 rfl; have y4 : wc.cell? ⟨g + 1, 4, none⟩ = some (.slice D m k) := HB1wc.out.cell 4 rfl; have y5 : wc.cell? ⟨g + 1, 5, none⟩ = some (.slice D' m' k') := HB1wc.out.cell 5 rfl
    go_wp2_with fail
    clear x0 x1 x2 x3 x4 x5 y0 y1 y2 y3 y4 y5
    refine (Meet A n c A' n' c' D m k D' m' k' p q wc ba HBA.out).mono ?_
    rintro e w4 ⟨rfl, hb⟩
    have HVw4 := Lib.hid (HVwc.out.mv hb); have GVw4 := Lib.hid (GVwc.out.mv hb); clear HVwc GVwc
    have HWw4 := Lib.hid (HWwc.out.trans (hb.mono HGwc.out)); have HGw4 := Lib.hid (Nat.le_trans HGwc.out hb.size)
    have HB0w4 := Lib.hid (HB0wc.out.below hb HB0wc.out.lt); have HB1w4 := Lib.hid (HB1wc.out.below hb HB1wc.out.lt); have HB2w4 := Lib.hid (HB2wc.out.below hb HB2wc.out.lt); have HB3w4 := Lib.hid (HB3wc.out.below hb HB3wc.out.lt); have HBTw4 := Lib.hid (HBTwc.out.below hb HBTwc.out.lt); have HBUw4 := Lib.hid (HBUwc.out.below hb HBUwc.out.lt)
    clear hb HWwc HGwc HB0wc HB1wc HB2wc HB3wc HBTwc HBUwc
    have x0 : w4.cell? ⟨g, 0, none⟩ = some (.int .i64 p.k) := HB0w4.out.cell 0 rfl; have x1 : w4.cell? ⟨g, 1, none⟩ = some (strV p.nm) := HB0w4.out.cell 1 rfl; have x2 : w4.cell? ⟨g, 2, none⟩ = some (strV p.to) := HB0w4.out.cell 2 rfl; have x3 : w4.cell? ⟨g, 3, none⟩ = some (.int .i64 p.h.pos) := HB0w4.out.cell 3 rfl; have x4 : w4.cell? ⟨g, 4, none⟩ = some (.slice A n c) := HB0w4.out.cell 4 rfl; have x5 : w4.cell? ⟨g, 5, none⟩ = some (.slice A' n' c') := HB0w4.out.cell 5 rfl
    have y0 : w4.cell? ⟨g + 1, 0, none⟩ = some (.int .i64 q.k) := HB1w4.out.cell 0 rfl; have y1 : w4.cell? ⟨g + 1, 1, none⟩ = some (strV q.nm) := HB1w4.out.cell 1 rfl; have y2 : w4.cell? ⟨g + 1, 2, none⟩ = some (strV q.to) := HB1w4.out.cell 2 rfl; have y3 : w4.cell? ⟨g + 1, 3, none⟩ = some (.int .i64 q.h.pos) := HB1w4.out.cell 3 rfl; have y4 : w4.cell? ⟨g + 1, 4, none⟩ = some (.slice D m k) := HB1w4.out.cell 4 rfl; have y5 : w4.cell? ⟨g + 1, 5, none⟩ = some (.slice D' m' k') := HB1w4.out.cell 5 rfl
    cases ba with
    | true =>
      go_wp2_with fail
      go_meet
      exact ⟨_, _, D, m, k, D', m', k', A, n, c, A', n', c', (passP_ap HBP.out HBQ.out HBA.out), HBTw4.out, HBUw4.out, HB2w4.out, HB3w4.out, GVw4.out, HVw4.out, GL.out, HL.out, HWw4.out⟩
    | false =>
    by_cases h3 : p.k = 3 ∧ q.k = 3
    · have e1 : (p.k == 3) = true := by simpa using h3.1
      have e2 : (q.k == 3) = true := by simpa using h3.2
      have H3 := Lib.hid h3; clear h3
      go_wp2_with fail
      clear x0 x1 x2 x3 x4 x5 y0 y1 y2 y3 y4 y5
      refine (Sw.PassHi A n c A' n' c' D m k D' m' k' w4.heap.size p.h q.h w4 (Nat.le_refl _) HL.out.1 HL.out.2 GL.out.1 GL.out.2 HVw4.out.h GVw4.out.h).mono ?_
      rintro e w5 hend
      have hb : Below w4.heap.size w4 w5 := by obtain ⟨_, _, _, _, _, _, _, _, _, _, _, _, _, _, _, _, hb⟩ := hend; exact hb
      cases hz : Sw.passH p.h q.h with
      | none =>
        have HN : Hid (passP p q = none) := Lib.hid (by rw [passP_b HBP.out HBQ.out HBA.out H3.out.1 H3.out.2, hz]; rfl)
        have hz0 : Sw.outH (Sw.passH p.h q.h) = (Sw.zeroH, Sw.zeroH) := by rw [hz]; rfl
        obtain ⟨E1, i1, j1, E2, i2, j2, G1, k1, l1, G2, k2, l2, he, v1, v2, hhi, _⟩ := hend
        clear v1 v2 hhi
        rw [hz0, hz] at he
        have he' : e = .returned (.tuple #[Hk.hkV 0 E1 i1 j1 E2 i2 j2, Hk.hkV 0 G1 k1 l1 G2 k2 l2, .bool false]) := he
        clear he
        subst he'
        clear hz hz0
        have HVw5 := Lib.hid (HVw4.out.mv hb); have GVw5 := Lib.hid (GVw4.out.mv hb); clear HVw4 GVw4
        have HWw5 := Lib.hid (HWw4.out.trans (hb.mono HGw4.out)); have HGw5 := Lib.hid (Nat.le_trans HGw4.out hb.size)
        have HB0w5 := Lib.hid (HB0w4.out.below hb HB0w4.out.lt); have HB1w5 := Lib.hid (HB1w4.out.below hb HB1w4.out.lt); have HB2w5 := Lib.hid (HB2w4.out.below hb HB2w4.out.lt); have HB3w5 := Lib.hid (HB3w4.out.below hb HB3w4.out.lt); have HBTw5 := Lib.hid (HBTw4.out.below hb HBTw4.out.lt); have HBUw5 := Lib.hid (HBUw4.out.below hb HBUw4.out.lt)
        clear hb HWw4 HGw4 HB0w4 HB1w4 HB2w4 HB3w4 HBTw4 HBUw4
        go_upto_region 10 with fail
        have hb : Below w5.heap.size w5 ((w5.alloc (.cells #[.int .i64 0, .slice E1 i1 j1, .slice E2 i2 j2] 52)).alloc (.cells #[.int .i64 0, .slice G1 k1 l1, .slice G2 k2 l2] 52)) := two_box _ _ _
        have HBX := Lib.hid ((Blk.new w5 52 #[.int .i64 0, .slice E1 i1 j1, .slice E2 i2 j2]).alloc (.cells #[.int .i64 0, .slice G1 k1 l1, .slice G2 k2 l2] 52))
        have hby := Blk.new (w5.alloc (.cells #[.int .i64 0, .slice E1 i1 j1, .slice E2 i2 j2] 52)) 52 #[.int .i64 0, .slice G1 k1 l1, .slice G2 k2 l2]
        simp only [World.size_alloc] at hby
        have HBY := Lib.hid hby
        clear hby
        have HVw6 := Lib.hid (HVw5.out.mv hb); have GVw6 := Lib.hid (GVw5.out.mv hb); clear HVw5 GVw5
        have HG5 := Lib.hid (show T < w5.heap.size ∧ U < w5.heap.size from ⟨HBTw5.out.lt, HBUw5.out.lt⟩)
        have HWw6 := Lib.hid (HWw5.out.trans (hb.mono HGw5.out)); have HGw6 := Lib.hid (Nat.le_trans HGw5.out hb.size)
        have HB0w6 := Lib.hid (HB0w5.out.below hb HB0w5.out.lt); have HB1w6 := Lib.hid (HB1w5.out.below hb HB1w5.out.lt); have HB2w6 := Lib.hid (HB2w5.out.below hb HB2w5.out.lt); have HB3w6 := Lib.hid (HB3w5.out.below hb HB3w5.out.lt); have HBTw6 := Lib.hid (HBTw5.out.below hb HBTw5.out.lt); have HBUw6 := Lib.hid (HBUw5.out.below hb HBUw5.out.lt)
        clear hb HWw5 HGw5 HB0w5 HB1w5 HB2w5 HB3w5 HBTw5 HBUw5
        generalize ((w5.alloc (.cells #[.int .i64 0, .slice E1 i1 j1, .slice E2 i2 j2] 52)).alloc (.cells #[.int .i64 0, .slice G1 k1 l1, .slice G2 k2 l2] 52)) = w6 at *
        generalize w5.heap.size = g5 at *
        have x0 : w6.cell? ⟨g, 0, none⟩ = some (.int .i64 p.k) := HB0w6.out.cell 0 rfl; have x1 : w6.cell? ⟨g, 1, none⟩ = some (strV p.nm) := HB0w6.out.cell 1 rfl; have x2 : w6.cell? ⟨g, 2, none⟩ = some (strV p.to) := HB0w6.out.cell 2 rfl; have x3 : w6.cell? ⟨g, 3, none⟩ = some (.int .i64 p.h.pos) := HB0w6.out.cell 3 rfl; have x4 : w6.cell? ⟨g, 4, none⟩ = some (.slice A n c) := HB0w6.out.cell 4 rfl; have x5 : w6.cell? ⟨g, 5, none⟩ = some (.slice A' n' c') := HB0w6.out.cell 5 rfl
        have y0 : w6.cell? ⟨g + 1, 0, none⟩ = some (.int .i64 q.k) := HB1w6.out.cell 0 rfl; have y1 : w6.cell? ⟨g + 1, 1, none⟩ = some (strV q.nm) := HB1w6.out.cell 1 rfl; have y2 : w6.cell? ⟨g + 1, 2, none⟩ = some (strV q.to) := HB1w6.out.cell 2 rfl; have y3 : w6.cell? ⟨g + 1, 3, none⟩ = some (.int .i64 q.h.pos) := HB1w6.out.cell 3 rfl; have y4 : w6.cell? ⟨g + 1, 4, none⟩ = some (.slice D m k) := HB1w6.out.cell 4 rfl; have y5 : w6.cell? ⟨g + 1, 5, none⟩ = some (.slice D' m' k') := HB1w6.out.cell 5 rfl
        have e3 := name_ne HBP.out HBQ.out (.inl H3.out.1)
        have e4 : (q.k == 2) = false := by rw [beq_eq_false_iff_ne]; have := H3.out.2; omega
        have u0 : w6.cell? ⟨g + 2, 0, none⟩ = some (.int .i64 0) := HB2w6.out.cell 0 rfl; have u1 : w6.cell? ⟨g + 2, 1, none⟩ = some (strV []) := HB2w6.out.cell 1 rfl; have u2 : w6.cell? ⟨g + 2, 2, none⟩ = some (strV []) := HB2w6.out.cell 2 rfl; have u3 : w6.cell? ⟨g + 2, 3, none⟩ = some (.int .i64 0) := HB2w6.out.cell 3 rfl; have u4 : w6.cell? ⟨g + 2, 4, none⟩ = some (.slice none 0 0) := HB2w6.out.cell 4 rfl; have u5 : w6.cell? ⟨g + 2, 5, none⟩ = some (.slice none 0 0) := HB2w6.out.cell 5 rfl
        have v0 : w6.cell? ⟨g + 3, 0, none⟩ = some (.int .i64 0) := HB3w6.out.cell 0 rfl; have v1 : w6.cell? ⟨g + 3, 1, none⟩ = some (strV []) := HB3w6.out.cell 1 rfl; have v2 : w6.cell? ⟨g + 3, 2, none⟩ = some (strV []) := HB3w6.out.cell 2 rfl; have v3 : w6.cell? ⟨g + 3, 3, none⟩ = some (.int .i64 0) := HB3w6.out.cell 3 rfl; have v4 : w6.cell? ⟨g + 3, 4, none⟩ = some (.slice none 0 0) := HB3w6.out.cell 4 rfl; have v5 : w6.cell? ⟨g + 3, 5, none⟩ = some (.slice none 0 0) := HB3w6.out.cell 5 rfl
        have f0 : w6.frozen? ⟨g + 2, 0, none⟩ = false := HB2w6.out.frozen 0; have f1 : w6.frozen? ⟨g + 2, 1, none⟩ = false := HB2w6.out.frozen 1; have f2 : w6.frozen? ⟨g + 2, 2, none⟩ = false := HB2w6.out.frozen 2; have f3 : w6.frozen? ⟨g + 2, 3, none⟩ = false := HB2w6.out.frozen 3; have f4 : w6.frozen? ⟨g + 2, 4, none⟩ = false := HB2w6.out.frozen 4; have f5 : w6.frozen? ⟨g + 2, 5, none⟩ = false := HB2w6.out.frozen 5
        have h0 : w6.frozen? ⟨g + 3, 0, none⟩ = false := HB3w6.out.frozen 0; have h1 : w6.frozen? ⟨g + 3, 1, none⟩ = false := HB3w6.out.frozen 1; have h2 : w6.frozen? ⟨g + 3, 2, none⟩ = false := HB3w6.out.frozen 2; have h3 : w6.frozen? ⟨g + 3, 3, none⟩ = false := HB3w6.out.frozen 3; have h4 : w6.frozen? ⟨g + 3, 4, none⟩ = false := HB3w6.out.frozen 4; have h5 : w6.frozen? ⟨g + 3, 5, none⟩ = false := HB3w6.out.frozen 5
        go_wp2_with fail
        obtain ⟨z2, z3⟩ := two_set6 HB2w6.out HB3w6.out (by omega) (.int .i64 0) (strV []) (strV []) (.int .i64 0) (.slice none 0 0) (.slice none 0 0) (.int .i64 0) (strV []) (strV []) (.int .i64 0) (.slice none 0 0) (.slice none 0 0)
        have hb6 := below_set12 (b := g + 2) (b' := g + 3) HWw6.out (by omega) (by omega) (.int .i64 0) (strV []) (strV []) (.int .i64 0) (.slice none 0 0) (.slice none 0 0) (.int .i64 0) (strV []) (strV []) (.int .i64 0) (.slice none 0 0) (.slice none 0 0)
        generalize (World.setCell (World.setCell (World.setCell (World.setCell (World.setCell (World.setCell (World.setCell (World.setCell (World.setCell (World.setCell (World.setCell (World.setCell w6 ⟨g + 2, 0, none⟩ (.int .i64 0)) ⟨g + 2, 1, none⟩ (strV [])) ⟨g + 2, 2, none⟩ (strV [])) ⟨g + 2, 3, none⟩ (.int .i64 0)) ⟨g + 2, 4, none⟩ (.slice none 0 0)) ⟨g + 2, 5, none⟩ (.slice none 0 0)) ⟨g + 3, 0, none⟩ (.int .i64 0)) ⟨g + 3, 1, none⟩ (strV [])) ⟨g + 3, 2, none⟩ (strV [])) ⟨g + 3, 3, none⟩ (.int .i64 0)) ⟨g + 3, 4, none⟩ (.slice none 0 0)) ⟨g + 3, 5, none⟩ (.slice none 0 0)) = W3 at *
        clear u0 u1 u2 u3 u4 u5 v0 v1 v2 v3 v4 v5 f0 f1 f2 f3 f4 f5 h0 h1 h2 h3 h4 h5
        have u0 : W3.cell? ⟨g + 2, 0, none⟩ = some (.int .i64 0) := z2.cell 0 rfl; have u1 : W3.cell? ⟨g + 2, 1, none⟩ = some (strV []) := z2.cell 1 rfl; have u2 : W3.cell? ⟨g + 2, 2, none⟩ = some (strV []) := z2.cell 2 rfl; have u3 : W3.cell? ⟨g + 2, 3, none⟩ = some (.int .i64 0) := z2.cell 3 rfl; have u4 : W3.cell? ⟨g + 2, 4, none⟩ = some (.slice none 0 0) := z2.cell 4 rfl; have u5 : W3.cell? ⟨g + 2, 5, none⟩ = some (.slice none 0 0) := z2.cell 5 rfl
        have v0 : W3.cell? ⟨g + 3, 0, none⟩ = some (.int .i64 0) := z3.cell 0 rfl; have v1 : W3.cell? ⟨g + 3, 1, none⟩ = some (strV []) := z3.cell 1 rfl; have v2 : W3.cell? ⟨g + 3, 2, none⟩ = some (strV []) := z3.cell 2 rfl; have v3 : W3.cell? ⟨g + 3, 3, none⟩ = some (.int .i64 0) := z3.cell 3 rfl; have v4 : W3.cell? ⟨g + 3, 4, none⟩ = some (.slice none 0 0) := z3.cell 4 rfl; have v5 : W3.cell? ⟨g + 3, 5, none⟩ = some (.slice none 0 0) := z3.cell 5 rfl
        try rw [Exit.noGoto_ret]
        refine bodyPost_ret (v := .tuple #[.agg #[.int .i64 0, strV [], strV [], .int .i64 0, .slice none 0 0, .slice none 0 0], .agg #[.int .i64 0, strV [], strV [], .int .i64 0, .slice none 0 0, .slice none 0 0], .bool false]) (by simp [results, Try.results74, go_sem, u0, v0, u1, v1, u2, v2, u3, v3, u4, v4, u5, v5]) rfl ?_
        have hW : Below w.heap.size w W3 := by rw [HGS.out]; exact hb6
        exact ppEndH_none HO.out HBB.out HN.out hW
      | some z =>
        obtain ⟨hx, hy⟩ := z
        have HS : Hid (passP p q = some (⟨q.k, q.nm, q.to, hx⟩, ⟨p.k, p.nm, p.to, hy⟩)) := Lib.hid (by rw [passP_b HBP.out HBQ.out HBA.out H3.out.1 H3.out.2, hz]; rfl)
        have hz0 : Sw.outH (Sw.passH p.h q.h) = (hx, hy) := by rw [hz]; rfl
        obtain ⟨E1, i1, j1, E2, i2, j2, G1, k1, l1, G2, k2, l2, he, v1, v2, hhi, _⟩ := hend
        rw [hz0, hz] at he
        rw [hz0] at v1 v2
        have he' : e = .returned (.tuple #[Hk.hkV hx.pos E1 i1 j1 E2 i2 j2, Hk.hkV hy.pos G1 k1 l1 G2 k2 l2, .bool true]) := he
        replace v1 : HV w5 w5.heap.size E1 i1 j1 E2 i2 j2 hx := v1
        replace v2 : HV w5 w5.heap.size G1 k1 l1 G2 k2 l2 hy := v2
        clear he
        subst he'
        obtain ⟨_, r1, r2, r3, r4⟩ := Sw.pass_moves (x := hx) (y := hy) (Sw.passH_may hz).2.2.1
        have gl2 : (i1 ≤ 1000 ∧ i2 ≤ 1000) ∧ (k1 ≤ 1000 ∧ k2 ≤ 1000) := by
          have a1 := v1.l; have a2 := v1.l'; have a3 := v2.l; have a4 := v2.l'
          have b1 := GV0.out.h.l; have b2 := GV0.out.h.l'; have b3 := HV0.out.h.l; have b4 := HV0.out.h.l'
          have c1 := HL.out; have c2 := GL.out
          rw [r1] at a1; rw [r2] at a2; rw [r3] at a3; rw [r4] at a4
          omega
        have GL2 := Lib.hid gl2
        have V1 : Hid (PV w5 w5.heap.size E1 i1 j1 E2 i2 j2 ⟨q.k, q.nm, q.to, hx⟩) := Lib.hid (GV0.out.hunk v1 r1 r2)
        have V2 : Hid (PV w5 w5.heap.size G1 k1 l1 G2 k2 l2 ⟨p.k, p.nm, p.to, hy⟩) := Lib.hid (HV0.out.hunk v2 r3 r4)
        have hhi1 : Hi w4.heap.size E1 ∧ Hi w4.heap.size E2 ∧ Hi w4.heap.size G1 ∧ Hi w4.heap.size G2 := hhi
        have HHI := Lib.hid (And.intro hhi1 (And.intro HBTw4.out.lt HBUw4.out.lt))
        clear hz hz0 r1 r2 r3 r4 v1 v2 gl2 hhi hhi1
        have HVw5 := Lib.hid (HVw4.out.mv hb); have GVw5 := Lib.hid (GVw4.out.mv hb); clear HVw4 GVw4
        have HWw5 := Lib.hid (HWw4.out.trans (hb.mono HGw4.out)); have HGw5 := Lib.hid (Nat.le_trans HGw4.out hb.size)
        have HB0w5 := Lib.hid (HB0w4.out.below hb HB0w4.out.lt); have HB1w5 := Lib.hid (HB1w4.out.below hb HB1w4.out.lt); have HB2w5 := Lib.hid (HB2w4.out.below hb HB2w4.out.lt); have HB3w5 := Lib.hid (HB3w4.out.below hb HB3w4.out.lt); have HBTw5 := Lib.hid (HBTw4.out.below hb HBTw4.out.lt); have HBUw5 := Lib.hid (HBUw4.out.below hb HBUw4.out.lt)
        clear hb HWw4 HGw4 HB0w4 HB1w4 HB2w4 HB3w4 HBTw4 HBUw4
        go_upto_region 10 with fail
        have hb : Below w5.heap.size w5 ((w5.alloc (.cells #[.int .i64 hx.pos, .slice E1 i1 j1, .slice E2 i2 j2] 52)).alloc (.cells #[.int .i64 hy.pos, .slice G1 k1 l1, .slice G2 k2 l2] 52)) := two_box _ _ _
        have HBX := Lib.hid ((Blk.new w5 52 #[.int .i64 hx.pos, .slice E1 i1 j1, .slice E2 i2 j2]).alloc (.cells #[.int .i64 hy.pos, .slice G1 k1 l1, .slice G2 k2 l2] 52))
        have hby := Blk.new (w5.alloc (.cells #[.int .i64 hx.pos, .slice E1 i1 j1, .slice E2 i2 j2] 52)) 52 #[.int .i64 hy.pos, .slice G1 k1 l1, .slice G2 k2 l2]
        simp only [World.size_alloc] at hby
        have HBY := Lib.hid hby
        clear hby
        have HVw6 := Lib.hid (HVw5.out.mv hb); have GVw6 := Lib.hid (GVw5.out.mv hb); clear HVw5 GVw5
        have HG5 := Lib.hid (show T < w5.heap.size ∧ U < w5.heap.size from ⟨HBTw5.out.lt, HBUw5.out.lt⟩)
        have V1w6 := Lib.hid (V1.out.mv hb); have V2w6 := Lib.hid (V2.out.mv hb); clear V1 V2
        have HWw6 := Lib.hid (HWw5.out.trans (hb.mono HGw5.out)); have HGw6 := Lib.hid (Nat.le_trans HGw5.out hb.size)
        have HB0w6 := Lib.hid (HB0w5.out.below hb HB0w5.out.lt); have HB1w6 := Lib.hid (HB1w5.out.below hb HB1w5.out.lt); have HB2w6 := Lib.hid (HB2w5.out.below hb HB2w5.out.lt); have HB3w6 := Lib.hid (HB3w5.out.below hb HB3w5.out.lt); have HBTw6 := Lib.hid (HBTw5.out.below hb HBTw5.out.lt); have HBUw6 := Lib.hid (HBUw5.out.below hb HBUw5.out.lt)
        clear hb HWw5 HGw5 HB0w5 HB1w5 HB2w5 HB3w5 HBTw5 HBUw5
        generalize ((w5.alloc (.cells #[.int .i64 hx.pos, .slice E1 i1 j1, .slice E2 i2 j2] 52)).alloc (.cells #[.int .i64 hy.pos, .slice G1 k1 l1, .slice G2 k2 l2] 52)) = w6 at *
        generalize w5.heap.size = g5 at *
        have a0 : w6.cell? ⟨g5, 0, none⟩ = some (.int .i64 hx.pos) := HBX.out.cell 0 rfl; have a1 : w6.cell? ⟨g5, 1, none⟩ = some (.slice E1 i1 j1) := HBX.out.cell 1 rfl; have a2 : w6.cell? ⟨g5, 2, none⟩ = some (.slice E2 i2 j2) := HBX.out.cell 2 rfl
        have b0 : w6.cell? ⟨g5 + 1, 0, none⟩ = some (.int .i64 hy.pos) := HBY.out.cell 0 rfl; have b1 : w6.cell? ⟨g5 + 1, 1, none⟩ = some (.slice G1 k1 l1) := HBY.out.cell 1 rfl; have b2 : w6.cell? ⟨g5 + 1, 2, none⟩ = some (.slice G2 k2 l2) := HBY.out.cell 2 rfl
        have t0 : w6.cell? ⟨T, 0, none⟩ = some (.int .i64 q.k) := HBTw6.out.cell 0 rfl; have t1 : w6.cell? ⟨T, 1, none⟩ = some (strV q.nm) := HBTw6.out.cell 1 rfl; have t2 : w6.cell? ⟨T, 2, none⟩ = some (strV q.to) := HBTw6.out.cell 2 rfl; have t3 : w6.cell? ⟨T, 3, none⟩ = some (.int .i64 q.h.pos) := HBTw6.out.cell 3 rfl; have t4 : w6.cell? ⟨T, 4, none⟩ = some (.slice D m k) := HBTw6.out.cell 4 rfl; have t5 : w6.cell? ⟨T, 5, none⟩ = some (.slice D' m' k') := HBTw6.out.cell 5 rfl
        have s0 : w6.cell? ⟨U, 0, none⟩ = some (.int .i64 p.k) := HBUw6.out.cell 0 rfl; have s1 : w6.cell? ⟨U, 1, none⟩ = some (strV p.nm) := HBUw6.out.cell 1 rfl; have s2 : w6.cell? ⟨U, 2, none⟩ = some (strV p.to) := HBUw6.out.cell 2 rfl; have s3 : w6.cell? ⟨U, 3, none⟩ = some (.int .i64 p.h.pos) := HBUw6.out.cell 3 rfl; have s4 : w6.cell? ⟨U, 4, none⟩ = some (.slice A n c) := HBUw6.out.cell 4 rfl; have s5 : w6.cell? ⟨U, 5, none⟩ = some (.slice A' n' c') := HBUw6.out.cell 5 rfl
        have k3 : w6.frozen? ⟨T, 3, none⟩ = false := HBTw6.out.frozen 3; have k4 : w6.frozen? ⟨T, 4, none⟩ = false := HBTw6.out.frozen 4; have k5 : w6.frozen? ⟨T, 5, none⟩ = false := HBTw6.out.frozen 5
        have l3 : w6.frozen? ⟨U, 3, none⟩ = false := HBUw6.out.frozen 3; have l4 : w6.frozen? ⟨U, 4, none⟩ = false := HBUw6.out.frozen 4; have l5 : w6.frozen? ⟨U, 5, none⟩ = false := HBUw6.out.frozen 5
        have hn1 := HNE.out; have hn2 := HNE.out.symm; have hg5 := HG5.out.1; have hg6 := HG5.out.2
        go_upto_region 11 with fail
        go_region
        go_wp2_with fail
        have HBTw7 := Lib.hid (three_set (b' := U) (blk3 HBTw6.out (.int .i64 hx.pos) (.slice E1 i1 j1) (.slice E2 i2 j2)) HNE.out (.int .i64 hy.pos) (.slice G1 k1 l1) (.slice G2 k2 l2))
        have HBUw7 := Lib.hid (blk3 (three_set (b' := T) HBUw6.out HNE.out.symm (.int .i64 hx.pos) (.slice E1 i1 j1) (.slice E2 i2 j2)) (.int .i64 hy.pos) (.slice G1 k1 l1) (.slice G2 k2 l2))
        have HB2w7 := Lib.hid (three_set (b' := U) (three_set (b' := T) HB2w6.out (by have := HgT.out; omega) (.int .i64 hx.pos) (.slice E1 i1 j1) (.slice E2 i2 j2)) (by have := HgT.out; omega) (.int .i64 hy.pos) (.slice G1 k1 l1) (.slice G2 k2 l2))
        have HB3w7 := Lib.hid (three_set (b' := U) (three_set (b' := T) HB3w6.out (by have := HgT.out; omega) (.int .i64 hx.pos) (.slice E1 i1 j1) (.slice E2 i2 j2)) (by have := HgT.out; omega) (.int .i64 hy.pos) (.slice G1 k1 l1) (.slice G2 k2 l2))
        have HP1 : Hid (PV (World.setCell (World.setCell (World.setCell (World.setCell (World.setCell (World.setCell w6 ⟨T, 3, none⟩ (.int .i64 hx.pos)) ⟨T, 4, none⟩ (.slice E1 i1 j1)) ⟨T, 5, none⟩ (.slice E2 i2 j2)) ⟨U, 3, none⟩ (.int .i64 hy.pos)) ⟨U, 4, none⟩ (.slice G1 k1 l1)) ⟨U, 5, none⟩ (.slice G2 k2 l2)) w6.heap.size E1 i1 j1 E2 i2 j2 ⟨q.k, q.nm, q.to, hx⟩) := Lib.hid ((((((V1w6.out.hi HHI.out.1.1 HHI.out.1.2.1 HHI.out.2.1 3 _).hi HHI.out.1.1 HHI.out.1.2.1 HHI.out.2.1 4 _).hi HHI.out.1.1 HHI.out.1.2.1 HHI.out.2.1 5 _).hi HHI.out.1.1 HHI.out.1.2.1 HHI.out.2.2 3 _).hi HHI.out.1.1 HHI.out.1.2.1 HHI.out.2.2 4 _).hi HHI.out.1.1 HHI.out.1.2.1 HHI.out.2.2 5 _)
        have HP2 : Hid (PV (World.setCell (World.setCell (World.setCell (World.setCell (World.setCell (World.setCell w6 ⟨T, 3, none⟩ (.int .i64 hx.pos)) ⟨T, 4, none⟩ (.slice E1 i1 j1)) ⟨T, 5, none⟩ (.slice E2 i2 j2)) ⟨U, 3, none⟩ (.int .i64 hy.pos)) ⟨U, 4, none⟩ (.slice G1 k1 l1)) ⟨U, 5, none⟩ (.slice G2 k2 l2)) w6.heap.size G1 k1 l1 G2 k2 l2 ⟨p.k, p.nm, p.to, hy⟩) := Lib.hid ((((((V2w6.out.hi HHI.out.1.2.2.1 HHI.out.1.2.2.2 HHI.out.2.1 3 _).hi HHI.out.1.2.2.1 HHI.out.1.2.2.2 HHI.out.2.1 4 _).hi HHI.out.1.2.2.1 HHI.out.1.2.2.2 HHI.out.2.1 5 _).hi HHI.out.1.2.2.1 HHI.out.1.2.2.2 HHI.out.2.2 3 _).hi HHI.out.1.2.2.1 HHI.out.1.2.2.2 HHI.out.2.2 4 _).hi HHI.out.1.2.2.1 HHI.out.1.2.2.2 HHI.out.2.2 5 _)
        have HWw7 : Hid (Below g w (World.setCell (World.setCell (World.setCell (World.setCell (World.setCell (World.setCell w6 ⟨T, 3, none⟩ (.int .i64 hx.pos)) ⟨T, 4, none⟩ (.slice E1 i1 j1)) ⟨T, 5, none⟩ (.slice E2 i2 j2)) ⟨U, 3, none⟩ (.int .i64 hy.pos)) ⟨U, 4, none⟩ (.slice G1 k1 l1)) ⟨U, 5, none⟩ (.slice G2 k2 l2))) := Lib.hid ((((((HWw6.out.setCell (p := ⟨T, 3, none⟩) (by have := HgT.out; show g ≤ T; omega) (.int .i64 hx.pos)).setCell (p := ⟨T, 4, none⟩) (by have := HgT.out; show g ≤ T; omega) (.slice E1 i1 j1)).setCell (p := ⟨T, 5, none⟩) (by have := HgT.out; show g ≤ T; omega) (.slice E2 i2 j2)).setCell (p := ⟨U, 3, none⟩) (by have := HgT.out; show g ≤ U; omega) (.int .i64 hy.pos)).setCell (p := ⟨U, 4, none⟩) (by have := HgT.out; show g ≤ U; omega) (.slice G1 k1 l1)).setCell (p := ⟨U, 5, none⟩) (by have := HgT.out; show g ≤ U; omega) (.slice G2 k2 l2))
        have HSZ : Hid ((World.setCell (World.setCell (World.setCell (World.setCell (World.setCell (World.setCell w6 ⟨T, 3, none⟩ (.int .i64 hx.pos)) ⟨T, 4, none⟩ (.slice E1 i1 j1)) ⟨T, 5, none⟩ (.slice E2 i2 j2)) ⟨U, 3, none⟩ (.int .i64 hy.pos)) ⟨U, 4, none⟩ (.slice G1 k1 l1)) ⟨U, 5, none⟩ (.slice G2 k2 l2)).heap.size = w6.heap.size) := Lib.hid (by simp)
        go_meet
        first
          | (exact ⟨_, _, E1, i1, j1, E2, i2, j2, G1, k1, l1, G2, k2, l2, HS.out, (HBTw7.out.drewN 1), (HBUw7.out.drewN 1), (HB2w7.out.drewN 1), (HB3w7.out.drewN 1), ((HP1.out.drewN 1)).up (Nat.le_of_eq HSZ.out.symm), ((HP2.out.drewN 1)).up (Nat.le_of_eq HSZ.out.symm), GL2.out.1, GL2.out.2, (below_drewN HWw7.out 1)⟩)
          | (exact ⟨_, _, E1, i1, j1, E2, i2, j2, G1, k1, l1, G2, k2, l2, HS.out, HBTw7.out, HBUw7.out, HB2w7.out, HB3w7.out, (HP1.out).up (Nat.le_of_eq HSZ.out.symm), (HP2.out).up (Nat.le_of_eq HSZ.out.symm), GL2.out.1, GL2.out.2, HWw7.out⟩)
    by_cases hi : q.k = 2 ∧ (p.k = 3 ∨ p.k = 4) ∧ p.nm = q.nm
    · have e4 : (q.k == 2) = true := by simpa using hi.1
      have e5 : (q.nm == p.nm) = true := by simpa using hi.2.2.symm
      have e6 : (q.k == 3) = false := by rw [beq_eq_false_iff_ne]; have := hi.1; omega
      have HS : Hid (passP p q = some (q, ⟨p.k, q.to, p.to, p.h⟩)) := Lib.hid (passP_i HBP.out HBQ.out HBA.out hi.1 hi.2.1 hi.2.2)
      have HI := Lib.hid hi
      clear hi h3
      have s0 : w4.cell? ⟨U, 0, none⟩ = some (.int .i64 p.k) := HBUw4.out.cell 0 rfl; have s1 : w4.cell? ⟨U, 1, none⟩ = some (strV p.nm) := HBUw4.out.cell 1 rfl; have s2 : w4.cell? ⟨U, 2, none⟩ = some (strV p.to) := HBUw4.out.cell 2 rfl; have s3 : w4.cell? ⟨U, 3, none⟩ = some (.int .i64 p.h.pos) := HBUw4.out.cell 3 rfl; have s4 : w4.cell? ⟨U, 4, none⟩ = some (.slice A n c) := HBUw4.out.cell 4 rfl; have s5 : w4.cell? ⟨U, 5, none⟩ = some (.slice A' n' c') := HBUw4.out.cell 5 rfl
      have l1 : w4.frozen? ⟨U, 1, none⟩ = false := HBUw4.out.frozen 1
      have HBUw6 := Lib.hid (show Blk (World.setCell w4 ⟨U, 1, none⟩ (strV q.to)) U 54 #[.int .i64 p.k, strV q.to, strV p.to, .int .i64 p.h.pos, .slice A n c, .slice A' n' c'] from HBUw4.out.set 1 (strV q.to))
      have HBTw6 := Lib.hid (HBTw4.out.set_ne HNE.out 1 (strV q.to))
      have HB2w6 := Lib.hid (HB2w4.out.set_ne (show g + 2 ≠ U from by have := HgT.out; omega) 1 (strV q.to))
      have HB3w6 := Lib.hid (HB3w4.out.set_ne (show g + 3 ≠ U from by have := HgT.out; omega) 1 (strV q.to))
      have HWw6 := Lib.hid (HWw4.out.setCell (p := ⟨U, 1, none⟩) (by have := HgT.out; show g ≤ U; omega) (strV q.to))
      have hw6 : Below w.heap.size w (World.setCell w4 ⟨U, 1, none⟩ (strV q.to)) := by rw [HGS.out]; exact HWw6.out
      have HP1 := Lib.hid (GV0.out.mv hw6); have HP2 := Lib.hid ((HV0.out.mv hw6).name q.to GV0.out.to)
      clear hw6
      rcases (show (p.k == 3) = true ∨ (p.k == 3) = false ∧ (p.k == 4) = true from by
        rcases HI.out.2.1 with h | h
        · exact .inl (by simpa using h)
        · exact .inr ⟨by rw [beq_eq_false_iff_ne]; omega, by simpa using h⟩) with e1 | ⟨e1, e2⟩
      all_goals
        go_wp2_with fail
        go_meet
        exact ⟨_, _, D, m, k, D', m', k', A, n, c, A', n', c', HS.out, HBTw6.out, HBUw6.out, HB2w6.out, HB3w6.out, HP1.out, HP2.out, GL.out, HL.out, HWw6.out⟩
    by_cases ho : p.k = 2 ∧ (q.k = 3 ∨ q.k = 4) ∧ q.nm = p.to
    · have e1 : (p.k == 3) = false := by rw [beq_eq_false_iff_ne]; have := ho.1; omega
      have e2 : (p.k == 4) = false := by rw [beq_eq_false_iff_ne]; have := ho.1; omega
      have e3 : (p.k == 2) = true := by simpa using ho.1
      have e5 : (q.nm == p.to) = true := by simpa using ho.2.2
      have HS : Hid (passP p q = some (⟨q.k, p.nm, q.to, q.h⟩, p)) := Lib.hid (passP_o HBP.out HBQ.out HBA.out ho.1 ho.2.1 ho.2.2)
      have HO1 := Lib.hid ho
      clear hi ho h3
      have t0 : w4.cell? ⟨T, 0, none⟩ = some (.int .i64 q.k) := HBTw4.out.cell 0 rfl; have t1 : w4.cell? ⟨T, 1, none⟩ = some (strV q.nm) := HBTw4.out.cell 1 rfl; have t2 : w4.cell? ⟨T, 2, none⟩ = some (strV q.to) := HBTw4.out.cell 2 rfl; have t3 : w4.cell? ⟨T, 3, none⟩ = some (.int .i64 q.h.pos) := HBTw4.out.cell 3 rfl; have t4 : w4.cell? ⟨T, 4, none⟩ = some (.slice D m k) := HBTw4.out.cell 4 rfl; have t5 : w4.cell? ⟨T, 5, none⟩ = some (.slice D' m' k') := HBTw4.out.cell 5 rfl
      have l1 : w4.frozen? ⟨T, 1, none⟩ = false := HBTw4.out.frozen 1
      have HBTw6 := Lib.hid (show Blk (World.setCell w4 ⟨T, 1, none⟩ (strV p.nm)) T 54 #[.int .i64 q.k, strV p.nm, strV q.to, .int .i64 q.h.pos, .slice D m k, .slice D' m' k'] from HBTw4.out.set 1 (strV p.nm))
      have HBUw6 := Lib.hid (HBUw4.out.set_ne HNE.out.symm 1 (strV p.nm))
      have HB2w6 := Lib.hid (HB2w4.out.set_ne (show g + 2 ≠ T from by have := HgT.out; omega) 1 (strV p.nm))
      have HB3w6 := Lib.hid (HB3w4.out.set_ne (show g + 3 ≠ T from by have := HgT.out; omega) 1 (strV p.nm))
      have HWw6 := Lib.hid (HWw4.out.setCell (p := ⟨T, 1, none⟩) (by have := HgT.out; show g ≤ T; omega) (strV p.nm))
      have hw6 : Below w.heap.size w (World.setCell w4 ⟨T, 1, none⟩ (strV p.nm)) := by rw [HGS.out]; exact HWw6.out
      have HP1 := Lib.hid ((GV0.out.mv hw6).name p.nm HV0.out.nm); have HP2 := Lib.hid (HV0.out.mv hw6)
      clear hw6
      rcases (show (q.k == 3) = true ∨ (q.k == 3) = false ∧ (q.k == 4) = true from by
        rcases HO1.out.2.1 with h | h
        · exact .inl (by simpa using h)
        · exact .inr ⟨by rw [beq_eq_false_iff_ne]; omega, by simpa using h⟩) with e6 | ⟨e6, e7⟩
      all_goals
        go_wp2_with fail
        go_meet
        exact ⟨_, _, D, m, k, D', m', k', A, n, c, A', n', c', HS.out, HBTw6.out, HBUw6.out, HB2w6.out, HB3w6.out, HP1.out, HP2.out, GL.out, HL.out, HWw6.out⟩
    have HN : Hid (passP p q = none) := Lib.hid (passP_n HBA.out h3 ho hi)
    have hw : ((p.k == 3) = true ∧ (q.k == 3) = false ∨ (p.k == 3) = false ∧ (p.k == 4) = true) ∧ (q.nm == p.to) = false ∧ ((q.k == 2) = false ∨ (q.k == 2) = true ∧ (q.nm == p.nm) = false) ∨
        ((p.k == 3) = false ∧ (p.k == 4) = false) ∧ (p.k == 2) = true ∧ ((q.k == 3) = false ∧ (q.k == 4) = false ∨ (q.nm == p.to) = false) ∨
        (p.k == 3) = false ∧ (p.k == 4) = false ∧ (p.k == 2) = false := by
      by_cases k3 : p.k = 3 ∨ p.k = 4
      · refine .inl ⟨?_, name_ne HBP.out HBQ.out k3, ?_⟩
        · rcases k3 with k3 | k3
          · exact .inl ⟨by simpa using k3, by rw [beq_eq_false_iff_ne]; exact fun h => h3 ⟨k3, h⟩⟩
          · exact .inr ⟨by rw [beq_eq_false_iff_ne]; omega, by simpa using k3⟩
        · by_cases k2 : q.k = 2
          · exact .inr ⟨by simpa using k2, by rw [beq_eq_false_iff_ne]; exact fun h => hi ⟨k2, k3, h.symm⟩⟩
          · exact .inl (by simpa using k2)
      · have a3 : (p.k == 3) = false := by rw [beq_eq_false_iff_ne]; omega
        have a4 : (p.k == 4) = false := by rw [beq_eq_false_iff_ne]; omega
        by_cases k2 : p.k = 2
        · refine .inr (.inl ⟨⟨a3, a4⟩, by simpa using k2, ?_⟩)
          by_cases kq : q.k = 3 ∨ q.k = 4
          · exact .inr (by rw [beq_eq_false_iff_ne]; exact fun h => ho ⟨k2, kq, h⟩)
          · exact .inl ⟨by rw [beq_eq_false_iff_ne]; omega, by rw [beq_eq_false_iff_ne]; omega⟩
        · exact .inr (.inr ⟨a3, a4, by simpa using k2⟩)
    clear h3 ho hi
    have HWAY := Lib.hid hw; clear hw
    have hq3 : ∀ z : Bool, z = true ∨ z = false := fun z => by cases z <;> simp
    have HQ3 := Lib.hid (hq3 (q.k == 3)); have HQ4 := Lib.hid (hq3 (q.k == 4)); clear hq3
    rcases HWAY.out with ⟨h1, e5, h2⟩ | ⟨⟨e1, e2⟩, e3, h2⟩ | ⟨e1, e2, e3⟩
    · rcases h1 with ⟨e1, e2⟩ | ⟨e1, e2⟩ <;> rcases h2 with e6 | ⟨e6, e7⟩ <;> rcases HQ3.out with c1 | c1 <;> rcases HQ4.out with c2 | c2 <;> try (exfalso; first | exact Bool.false_ne_true (e2.symm.trans c1) | exact k_absurd c1 c2 | exact k_absurd2 c1 e6 | exact k_absurd3 c2 e6; done)
      all_goals
        have u0 : w4.cell? ⟨g + 2, 0, none⟩ = some (.int .i64 0) := HB2w4.out.cell 0 rfl; have u1 : w4.cell? ⟨g + 2, 1, none⟩ = some (strV []) := HB2w4.out.cell 1 rfl; have u2 : w4.cell? ⟨g + 2, 2, none⟩ = some (strV []) := HB2w4.out.cell 2 rfl; have u3 : w4.cell? ⟨g + 2, 3, none⟩ = some (.int .i64 0) := HB2w4.out.cell 3 rfl; have u4 : w4.cell? ⟨g + 2, 4, none⟩ = some (.slice none 0 0) := HB2w4.out.cell 4 rfl; have u5 : w4.cell? ⟨g + 2, 5, none⟩ = some (.slice none 0 0) := HB2w4.out.cell 5 rfl
        have v0 : w4.cell? ⟨g + 3, 0, none⟩ = some (.int .i64 0) := HB3w4.out.cell 0 rfl; have v1 : w4.cell? ⟨g + 3, 1, none⟩ = some (strV []) := HB3w4.out.cell 1 rfl; have v2 : w4.cell? ⟨g + 3, 2, none⟩ = some (strV []) := HB3w4.out.cell 2 rfl; have v3 : w4.cell? ⟨g + 3, 3, none⟩ = some (.int .i64 0) := HB3w4.out.cell 3 rfl; have v4 : w4.cell? ⟨g + 3, 4, none⟩ = some (.slice none 0 0) := HB3w4.out.cell 4 rfl; have v5 : w4.cell? ⟨g + 3, 5, none⟩ = some (.slice none 0 0) := HB3w4.out.cell 5 rfl
        have f0 : w4.frozen? ⟨g + 2, 0, none⟩ = false := HB2w4.out.frozen 0; have f1 : w4.frozen? ⟨g + 2, 1, none⟩ = false := HB2w4.out.frozen 1; have f2 : w4.frozen? ⟨g + 2, 2, none⟩ = false := HB2w4.out.frozen 2; have f3 : w4.frozen? ⟨g + 2, 3, none⟩ = false := HB2w4.out.frozen 3; have f4 : w4.frozen? ⟨g + 2, 4, none⟩ = false := HB2w4.out.frozen 4; have f5 : w4.frozen? ⟨g + 2, 5, none⟩ = false := HB2w4.out.frozen 5
        have h0 : w4.frozen? ⟨g + 3, 0, none⟩ = false := HB3w4.out.frozen 0; have h1 : w4.frozen? ⟨g + 3, 1, none⟩ = false := HB3w4.out.frozen 1; have h2 : w4.frozen? ⟨g + 3, 2, none⟩ = false := HB3w4.out.frozen 2; have h3 : w4.frozen? ⟨g + 3, 3, none⟩ = false := HB3w4.out.frozen 3; have h4 : w4.frozen? ⟨g + 3, 4, none⟩ = false := HB3w4.out.frozen 4; have h5 : w4.frozen? ⟨g + 3, 5, none⟩ = false := HB3w4.out.frozen 5
        go_wp2_with fail
        obtain ⟨z2, z3⟩ := two_set6 HB2w4.out HB3w4.out (by omega) (.int .i64 0) (strV []) (strV []) (.int .i64 0) (.slice none 0 0) (.slice none 0 0) (.int .i64 0) (strV []) (strV []) (.int .i64 0) (.slice none 0 0) (.slice none 0 0)
        have hb6 := below_set12 (b := g + 2) (b' := g + 3) HWw4.out (by omega) (by omega) (.int .i64 0) (strV []) (strV []) (.int .i64 0) (.slice none 0 0) (.slice none 0 0) (.int .i64 0) (strV []) (strV []) (.int .i64 0) (.slice none 0 0) (.slice none 0 0)
        generalize (World.setCell (World.setCell (World.setCell (World.setCell (World.setCell (World.setCell (World.setCell (World.setCell (World.setCell (World.setCell (World.setCell (World.setCell w4 ⟨g + 2, 0, none⟩ (.int .i64 0)) ⟨g + 2, 1, none⟩ (strV [])) ⟨g + 2, 2, none⟩ (strV [])) ⟨g + 2, 3, none⟩ (.int .i64 0)) ⟨g + 2, 4, none⟩ (.slice none 0 0)) ⟨g + 2, 5, none⟩ (.slice none 0 0)) ⟨g + 3, 0, none⟩ (.int .i64 0)) ⟨g + 3, 1, none⟩ (strV [])) ⟨g + 3, 2, none⟩ (strV [])) ⟨g + 3, 3, none⟩ (.int .i64 0)) ⟨g + 3, 4, none⟩ (.slice none 0 0)) ⟨g + 3, 5, none⟩ (.slice none 0 0)) = W3 at *
        clear u0 u1 u2 u3 u4 u5 v0 v1 v2 v3 v4 v5 f0 f1 f2 f3 f4 f5 h0 h1 h2 h3 h4 h5
        have u0 : W3.cell? ⟨g + 2, 0, none⟩ = some (.int .i64 0) := z2.cell 0 rfl; have u1 : W3.cell? ⟨g + 2, 1, none⟩ = some (strV []) := z2.cell 1 rfl; have u2 : W3.cell? ⟨g + 2, 2, none⟩ = some (strV []) := z2.cell 2 rfl; have u3 : W3.cell? ⟨g + 2, 3, none⟩ = some (.int .i64 0) := z2.cell 3 rfl; have u4 : W3.cell? ⟨g + 2, 4, none⟩ = some (.slice none 0 0) := z2.cell 4 rfl; have u5 : W3.cell? ⟨g + 2, 5, none⟩ = some (.slice none 0 0) := z2.cell 5 rfl
        have v0 : W3.cell? ⟨g + 3, 0, none⟩ = some (.int .i64 0) := z3.cell 0 rfl; have v1 : W3.cell? ⟨g + 3, 1, none⟩ = some (strV []) := z3.cell 1 rfl; have v2 : W3.cell? ⟨g + 3, 2, none⟩ = some (strV []) := z3.cell 2 rfl; have v3 : W3.cell? ⟨g + 3, 3, none⟩ = some (.int .i64 0) := z3.cell 3 rfl; have v4 : W3.cell? ⟨g + 3, 4, none⟩ = some (.slice none 0 0) := z3.cell 4 rfl; have v5 : W3.cell? ⟨g + 3, 5, none⟩ = some (.slice none 0 0) := z3.cell 5 rfl
        try rw [Exit.noGoto_ret]
        refine bodyPost_ret (v := .tuple #[.agg #[.int .i64 0, strV [], strV [], .int .i64 0, .slice none 0 0, .slice none 0 0], .agg #[.int .i64 0, strV [], strV [], .int .i64 0, .slice none 0 0, .slice none 0 0], .bool false]) (by simp [results, Try.results74, go_sem, u0, v0, u1, v1, u2, v2, u3, v3, u4, v4, u5, v5]) rfl ?_
        have hW : Below w.heap.size w W3 := by rw [HGS.out]; exact hb6
        exact ppEndH_none HO.out HBB.out HN.out hW
    · rcases HQ3.out with c1 | c1 <;> rcases HQ4.out with c2 | c2 <;> rcases h2 with ⟨e5, e6⟩ | e5 <;> try (exfalso; first | exact Bool.false_ne_true (e5.symm.trans c1) | exact Bool.false_ne_true (e6.symm.trans c2) | exact k_absurd c1 c2; done)
      all_goals
        have u0 : w4.cell? ⟨g + 2, 0, none⟩ = some (.int .i64 0) := HB2w4.out.cell 0 rfl; have u1 : w4.cell? ⟨g + 2, 1, none⟩ = some (strV []) := HB2w4.out.cell 1 rfl; have u2 : w4.cell? ⟨g + 2, 2, none⟩ = some (strV []) := HB2w4.out.cell 2 rfl; have u3 : w4.cell? ⟨g + 2, 3, none⟩ = some (.int .i64 0) := HB2w4.out.cell 3 rfl; have u4 : w4.cell? ⟨g + 2, 4, none⟩ = some (.slice none 0 0) := HB2w4.out.cell 4 rfl; have u5 : w4.cell? ⟨g + 2, 5, none⟩ = some (.slice none 0 0) := HB2w4.out.cell 5 rfl
        have v0 : w4.cell? ⟨g + 3, 0, none⟩ = some (.int .i64 0) := HB3w4.out.cell 0 rfl; have v1 : w4.cell? ⟨g + 3, 1, none⟩ = some (strV []) := HB3w4.out.cell 1 rfl; have v2 : w4.cell? ⟨g + 3, 2, none⟩ = some (strV []) := HB3w4.out.cell 2 rfl; have v3 : w4.cell? ⟨g + 3, 3, none⟩ = some (.int .i64 0) := HB3w4.out.cell 3 rfl; have v4 : w4.cell? ⟨g + 3, 4, none⟩ = some (.slice none 0 0) := HB3w4.out.cell 4 rfl; have v5 : w4.cell? ⟨g + 3, 5, none⟩ = some (.slice none 0 0) := HB3w4.out.cell 5 rfl
        have f0 : w4.frozen? ⟨g + 2, 0, none⟩ = false := HB2w4.out.frozen 0; have f1 : w4.frozen? ⟨g + 2, 1, none⟩ = false := HB2w4.out.frozen 1; have f2 : w4.frozen? ⟨g + 2, 2, none⟩ = false := HB2w4.out.frozen 2; have f3 : w4.frozen? ⟨g + 2, 3, none⟩ = false := HB2w4.out.frozen 3; have f4 : w4.frozen? ⟨g + 2, 4, none⟩ = false := HB2w4.out.frozen 4; have f5 : w4.frozen? ⟨g + 2, 5, none⟩ = false := HB2w4.out.frozen 5
        have h0 : w4.frozen? ⟨g + 3, 0, none⟩ = false := HB3w4.out.frozen 0; have h1 : w4.frozen? ⟨g + 3, 1, none⟩ = false := HB3w4.out.frozen 1; have h2 : w4.frozen? ⟨g + 3, 2, none⟩ = false := HB3w4.out.frozen 2; have h3 : w4.frozen? ⟨g + 3, 3, none⟩ = false := HB3w4.out.frozen 3; have h4 : w4.frozen? ⟨g + 3, 4, none⟩ = false := HB3w4.out.frozen 4; have h5 : w4.frozen? ⟨g + 3, 5, none⟩ = false := HB3w4.out.frozen 5
        go_wp2_with fail
        obtain ⟨z2, z3⟩ := two_set6 HB2w4.out HB3w4.out (by omega) (.int .i64 0) (strV []) (strV []) (.int .i64 0) (.slice none 0 0) (.slice none 0 0) (.int .i64 0) (strV []) (strV []) (.int .i64 0) (.slice none 0 0) (.slice none 0 0)
        have hb6 := below_set12 (b := g + 2) (b' := g + 3) HWw4.out (by omega) (by omega) (.int .i64 0) (strV []) (strV []) (.int .i64 0) (.slice none 0 0) (.slice none 0 0) (.int .i64 0) (strV []) (strV []) (.int .i64 0) (.slice none 0 0) (.slice none 0 0)
        generalize (World.setCell (World.setCell (World.setCell (World.setCell (World.setCell (World.setCell (World.setCell (World.setCell (World.setCell (World.setCell (World.setCell (World.setCell w4 ⟨g + 2, 0, none⟩ (.int .i64 0)) ⟨g + 2, 1, none⟩ (strV [])) ⟨g + 2, 2, none⟩ (strV [])) ⟨g + 2, 3, none⟩ (.int .i64 0)) ⟨g + 2, 4, none⟩ (.slice none 0 0)) ⟨g + 2, 5, none⟩ (.slice none 0 0)) ⟨g + 3, 0, none⟩ (.int .i64 0)) ⟨g + 3, 1, none⟩ (strV [])) ⟨g + 3, 2, none⟩ (strV [])) ⟨g + 3, 3, none⟩ (.int .i64 0)) ⟨g + 3, 4, none⟩ (.slice none 0 0)) ⟨g + 3, 5, none⟩ (.slice none 0 0)) = W3 at *
        clear u0 u1 u2 u3 u4 u5 v0 v1 v2 v3 v4 v5 f0 f1 f2 f3 f4 f5 h0 h1 h2 h3 h4 h5
        have u0 : W3.cell? ⟨g + 2, 0, none⟩ = some (.int .i64 0) := z2.cell 0 rfl; have u1 : W3.cell? ⟨g + 2, 1, none⟩ = some (strV []) := z2.cell 1 rfl; have u2 : W3.cell? ⟨g + 2, 2, none⟩ = some (strV []) := z2.cell 2 rfl; have u3 : W3.cell? ⟨g + 2, 3, none⟩ = some (.int .i64 0) := z2.cell 3 rfl; have u4 : W3.cell? ⟨g + 2, 4, none⟩ = some (.slice none 0 0) := z2.cell 4 rfl; have u5 : W3.cell? ⟨g + 2, 5, none⟩ = some (.slice none 0 0) := z2.cell 5 rfl
        have v0 : W3.cell? ⟨g + 3, 0, none⟩ = some (.int .i64 0) := z3.cell 0 rfl; have v1 : W3.cell? ⟨g + 3, 1, none⟩ = some (strV []) := z3.cell 1 rfl; have v2 : W3.cell? ⟨g + 3, 2, none⟩ = some (strV []) := z3.cell 2 rfl; have v3 : W3.cell? ⟨g + 3, 3, none⟩ = some (.int .i64 0) := z3.cell 3 rfl; have v4 : W3.cell? ⟨g + 3, 4, none⟩ = some (.slice none 0 0) := z3.cell 4 rfl; have v5 : W3.cell? ⟨g + 3, 5, none⟩ = some (.slice none 0 0) := z3.cell 5 rfl
        try rw [Exit.noGoto_ret]
        refine bodyPost_ret (v := .tuple #[.agg #[.int .i64 0, strV [], strV [], .int .i64 0, .slice none 0 0, .slice none 0 0], .agg #[.int .i64 0, strV [], strV [], .int .i64 0, .slice none 0 0, .slice none 0 0], .bool false]) (by simp [results, Try.results74, go_sem, u0, v0, u1, v1, u2, v2, u3, v3, u4, v4, u5, v5]) rfl ?_
        have hW : Below w.heap.size w W3 := by rw [HGS.out]; exact hb6
        exact ppEndH_none HO.out HBB.out HN.out hW
    ·
      have u0 : w4.cell? ⟨g + 2, 0, none⟩ = some (.int .i64 0) := HB2w4.out.cell 0 rfl; have u1 : w4.cell? ⟨g + 2, 1, none⟩ = some (strV []) := HB2w4.out.cell 1 rfl; have u2 : w4.cell? ⟨g + 2, 2, none⟩ = some (strV []) := HB2w4.out.cell 2 rfl; have u3 : w4.cell? ⟨g + 2, 3, none⟩ = some (.int .i64 0) := HB2w4.out.cell 3 rfl; have u4 : w4.cell? ⟨g + 2, 4, none⟩ = some (.slice none 0 0) := HB2w4.out.cell 4 rfl; have u5 : w4.cell? ⟨g + 2, 5, none⟩ = some (.slice none 0 0) := HB2w4.out.cell 5 rfl
      have v0 : w4.cell? ⟨g + 3, 0, none⟩ = some (.int .i64 0) := HB3w4.out.cell 0 rfl; have v1 : w4.cell? ⟨g + 3, 1, none⟩ = some (strV []) := HB3w4.out.cell 1 rfl; have v2 : w4.cell? ⟨g + 3, 2, none⟩ = some (strV []) := HB3w4.out.cell 2 rfl; have v3 : w4.cell? ⟨g + 3, 3, none⟩ = some (.int .i64 0) := HB3w4.out.cell 3 rfl; have v4 : w4.cell? ⟨g + 3, 4, none⟩ = some (.slice none 0 0) := HB3w4.out.cell 4 rfl; have v5 : w4.cell? ⟨g + 3, 5, none⟩ = some (.slice none 0 0) := HB3w4.out.cell 5 rfl
      have f0 : w4.frozen? ⟨g + 2, 0, none⟩ = false := HB2w4.out.frozen 0; have f1 : w4.frozen? ⟨g + 2, 1, none⟩ = false := HB2w4.out.frozen 1; have f2 : w4.frozen? ⟨g + 2, 2, none⟩ = false := HB2w4.out.frozen 2; have f3 : w4.frozen? ⟨g + 2, 3, none⟩ = false := HB2w4.out.frozen 3; have f4 : w4.frozen? ⟨g + 2, 4, none⟩ = false := HB2w4.out.frozen 4; have f5 : w4.frozen? ⟨g + 2, 5, none⟩ = false := HB2w4.out.frozen 5
      have h0 : w4.frozen? ⟨g + 3, 0, none⟩ = false := HB3w4.out.frozen 0; have h1 : w4.frozen? ⟨g + 3, 1, none⟩ = false := HB3w4.out.frozen 1; have h2 : w4.frozen? ⟨g + 3, 2, none⟩ = false := HB3w4.out.frozen 2; have h3 : w4.frozen? ⟨g + 3, 3, none⟩ = false := HB3w4.out.frozen 3; have h4 : w4.frozen? ⟨g + 3, 4, none⟩ = false := HB3w4.out.frozen 4; have h5 : w4.frozen? ⟨g + 3, 5, none⟩ = false := HB3w4.out.frozen 5
      go_wp2_with fail
      obtain ⟨z2, z3⟩ := two_set6 HB2w4.out HB3w4.out (by omega) (.int .i64 0) (strV []) (strV []) (.int .i64 0) (.slice none 0 0) (.slice none 0 0) (.int .i64 0) (strV []) (strV []) (.int .i64 0) (.slice none 0 0) (.slice none 0 0)
      have hb6 := below_set12 (b := g + 2) (b' := g + 3) HWw4.out (by omega) (by omega) (.int .i64 0) (strV []) (strV []) (.int .i64 0) (.slice none 0 0) (.slice none 0 0) (.int .i64 0) (strV []) (strV []) (.int .i64 0) (.slice none 0 0) (.slice none 0 0)
      generalize (World.setCell (World.setCell (World.setCell (World.setCell (World.setCell (World.setCell (World.setCell (World.setCell (World.setCell (World.setCell (World.setCell (World.setCell w4 ⟨g + 2, 0, none⟩ (.int .i64 0)) ⟨g + 2, 1, none⟩ (strV [])) ⟨g + 2, 2, none⟩ (strV [])) ⟨g + 2, 3, none⟩ (.int .i64 0)) ⟨g + 2, 4, none⟩ (.slice none 0 0)) ⟨g + 2, 5, none⟩ (.slice none 0 0)) ⟨g + 3, 0, none⟩ (.int .i64 0)) ⟨g + 3, 1, none⟩ (strV [])) ⟨g + 3, 2, none⟩ (strV [])) ⟨g + 3, 3, none⟩ (.int .i64 0)) ⟨g + 3, 4, none⟩ (.slice none 0 0)) ⟨g + 3, 5, none⟩ (.slice none 0 0)) = W3 at *
      clear u0 u1 u2 u3 u4 u5 v0 v1 v2 v3 v4 v5 f0 f1 f2 f3 f4 f5 h0 h1 h2 h3 h4 h5
      have u0 : W3.cell? ⟨g + 2, 0, none⟩ = some (.int .i64 0) := z2.cell 0 rfl; have u1 : W3.cell? ⟨g + 2, 1, none⟩ = some (strV []) := z2.cell 1 rfl; have u2 : W3.cell? ⟨g + 2, 2, none⟩ = some (strV []) := z2.cell 2 rfl; have u3 : W3.cell? ⟨g + 2, 3, none⟩ = some (.int .i64 0) := z2.cell 3 rfl; have u4 : W3.cell? ⟨g + 2, 4, none⟩ = some (.slice none 0 0) := z2.cell 4 rfl; have u5 : W3.cell? ⟨g + 2, 5, none⟩ = some (.slice none 0 0) := z2.cell 5 rfl
      have v0 : W3.cell? ⟨g + 3, 0, none⟩ = some (.int .i64 0) := z3.cell 0 rfl; have v1 : W3.cell? ⟨g + 3, 1, none⟩ = some (strV []) := z3.cell 1 rfl; have v2 : W3.cell? ⟨g + 3, 2, none⟩ = some (strV []) := z3.cell 2 rfl; have v3 : W3.cell? ⟨g + 3, 3, none⟩ = some (.int .i64 0) := z3.cell 3 rfl; have v4 : W3.cell? ⟨g + 3, 4, none⟩ = some (.slice none 0 0) := z3.cell 4 rfl; have v5 : W3.cell? ⟨g + 3, 5, none⟩ = some (.slice none 0 0) := z3.cell 5 rfl
      try rw [Exit.noGoto_ret]
      refine bodyPost_ret (v := .tuple #[.agg #[.int .i64 0, strV [], strV [], .int .i64 0, .slice none 0 0, .slice none 0 0], .agg #[.int .i64 0, strV [], strV [], .int .i64 0, .slice none 0 0, .slice none 0 0], .bool false]) (by simp [results, Try.results74, go_sem, u0, v0, u1, v1, u2, v2, u3, v3, u4, v4, u5, v5]) rfl ?_
      have hW : Below w.heap.size w W3 := by rw [HGS.out]; exact hb6
      exact ppEndH_none HO.out HBB.out HN.out hW
  case rest =>
  obtain ⟨x1, y1, A1, n1, c1, B1, m1, d1, A2, n2, c2, B2, m2, d2, hs, bt, bu, b2, b3, v1, v2, hl, gl, hw⟩ := hcut
  have HS := Lib.hid hs; have CT := Lib.hid bt; have CU := Lib.hid bu; have C2 := Lib.hid b2; have C3 := Lib.hid b3; have V1 := Lib.hid v1; have V2 := Lib.hid v2; have HL2 := Lib.hid hl; have GL2 := Lib.hid gl; have HW := Lib.hid hw
  clear hs bt bu b2 b3 v1 v2 hl gl hw
  clear HBTwc HBUwc HVwc GVwc HWwc HGwc HB0wc HB1wc HB2wc HB3wc
  skip
  have PX : Hid (∀ W, Below wc.heap.size wc W → Calls Try.prog 88 #[prV x1.k x1.nm x1.to x1.h.pos A1 n1 c1 B1 m1 d1] W (fun e u' => ∃ P p1 Q q1, e = .returned (prV x1.k x1.nm x1.to x1.h.pos P n1 p1 Q m1 q1) ∧ PV u' u'.heap.size P n1 p1 Q m1 q1 x1 ∧ (Hi W.heap.size P ∧ Hi W.heap.size Q) ∧ Below W.heap.size W u')) := Lib.hid (fun W hb => OwnC A1 n1 c1 B1 m1 d1 wc.heap.size x1 W hb.size HL2.out.1 HL2.out.2 (V1.out.below hb))
  have PY : Hid (∀ W, Below wc.heap.size wc W → Calls Try.prog 88 #[prV y1.k y1.nm y1.to y1.h.pos A2 n2 c2 B2 m2 d2] W (fun e u' => ∃ P p1 Q q1, e = .returned (prV y1.k y1.nm y1.to y1.h.pos P n2 p1 Q m2 q1) ∧ PV u' u'.heap.size P n2 p1 Q m2 q1 y1 ∧ (Hi W.heap.size P ∧ Hi W.heap.size Q) ∧ Below W.heap.size W u')) := Lib.hid (fun W hb => OwnC A2 n2 c2 B2 m2 d2 wc.heap.size y1 W hb.size GL2.out.1 GL2.out.2 (V2.out.below hb))
  have HSB : Hid (∀ W, Blk W T 54 #[.int .i64 x1.k, strV x1.nm, strV x1.to, .int .i64 x1.h.pos, .slice A1 n1 c1, .slice B1 m1 d1] → Blk W U 54 #[.int .i64 y1.k, strV y1.nm, strV y1.to, .int .i64 y1.h.pos, .slice A2 n2 c2, .slice B2 m2 d2] → W.cell? ⟨T, 0, none⟩ = some (.int .i64 x1.k) ∧ W.cell? ⟨T, 1, none⟩ = some (strV x1.nm) ∧ W.cell? ⟨T, 2, none⟩ = some (strV x1.to) ∧ W.cell? ⟨T, 3, none⟩ = some (.int .i64 x1.h.pos) ∧ W.cell? ⟨T, 4, none⟩ = some (.slice A1 n1 c1) ∧ W.cell? ⟨T, 5, none⟩ = some (.slice B1 m1 d1) ∧ W.cell? ⟨U, 0, none⟩ = some (.int .i64 y1.k) ∧ W.cell? ⟨U, 1, none⟩ = some (strV y1.nm) ∧ W.cell? ⟨U, 2, none⟩ = some (strV y1.to) ∧ W.cell? ⟨U, 3, none⟩ = some (.int .i64 y1.h.pos) ∧ W.cell? ⟨U, 4, none⟩ = some (.slice A2 n2 c2) ∧ W.cell? ⟨U, 5, none⟩ = some (.slice B2 m2 d2)) := Lib.hid (fun W b b' => by
    exact ⟨b.cell 0 rfl, b.cell 1 rfl, b.cell 2 rfl, b.cell 3 rfl, b.cell 4 rfl, b.cell 5 rfl, b'.cell 0 rfl, b'.cell 1 rfl, b'.cell 2 rfl, b'.cell 3 rfl, b'.cell 4 rfl, b'.cell 5 rfl⟩)
  have HC : Hid (∀ W, Below wc.heap.size wc W → W.cell? ⟨T, 0, none⟩ = some (.int .i64 x1.k) ∧ W.cell? ⟨T, 1, none⟩ = some (strV x1.nm) ∧ W.cell? ⟨T, 2, none⟩ = some (strV x1.to) ∧ W.cell? ⟨T, 3, none⟩ = some (.int .i64 x1.h.pos) ∧ W.cell? ⟨T, 4, none⟩ = some (.slice A1 n1 c1) ∧ W.cell? ⟨T, 5, none⟩ = some (.slice B1 m1 d1) ∧ W.cell? ⟨U, 0, none⟩ = some (.int .i64 y1.k) ∧ W.cell? ⟨U, 1, none⟩ = some (strV y1.nm) ∧ W.cell? ⟨U, 2, none⟩ = some (strV y1.to) ∧ W.cell? ⟨U, 3, none⟩ = some (.int .i64 y1.h.pos) ∧ W.cell? ⟨U, 4, none⟩ = some (.slice A2 n2 c2) ∧ W.cell? ⟨U, 5, none⟩ = some (.slice B2 m2 d2)) := Lib.hid (fun W hb => HSB.out W (CT.out.below hb CT.out.lt) (CU.out.below hb CU.out.lt))
  have HNG := Lib.hid (show (T ≠ g + 2 ∧ T ≠ g + 3) ∧ (U ≠ g + 2 ∧ U ≠ g + 3) from by have := HgT.out; omega)
  have HKD := Lib.hid (HC.out wc.drew (below_drewN (Below.refl _ _) 1))
  obtain ⟨x0, xx1, x2, x3, x4, x5, y0, yy1, y2, y3, y4, y5⟩ := HC.out wc (Below.refl _ _)
  go_wp2_with fail
  go_region_held3 (fun W => W.cell? ⟨T, 0, none⟩ = some (.int .i64 x1.k) ∧ W.cell? ⟨T, 1, none⟩ = some (strV x1.nm) ∧ W.cell? ⟨T, 2, none⟩ = some (strV x1.to) ∧ W.cell? ⟨T, 3, none⟩ = some (.int .i64 x1.h.pos) ∧ W.cell? ⟨T, 4, none⟩ = some (.slice A1 n1 c1) ∧ W.cell? ⟨T, 5, none⟩ = some (.slice B1 m1 d1) ∧ W.cell? ⟨U, 0, none⟩ = some (.int .i64 y1.k) ∧ W.cell? ⟨U, 1, none⟩ = some (strV y1.nm) ∧ W.cell? ⟨U, 2, none⟩ = some (strV y1.to) ∧ W.cell? ⟨U, 3, none⟩ = some (.int .i64 y1.h.pos) ∧ W.cell? ⟨U, 4, none⟩ = some (.slice A2 n2 c2) ∧ W.cell? ⟨U, 5, none⟩ = some (.slice B2 m2 d2))
    (first | (with_reducible exact HKD.out) | (with_reducible exact hS5) | (with_reducible exact hS6) | (with_reducible exact HK2.out _ _ _ _ _ _) | (with_reducible exact HK3.out _ _ _ _ _ _ _ _ _ _ _ _))
    (first
      | (go_at_call 88; (with_reducible refine (PX.out wc.drew (below_drewN (Below.refl _ _) 1)).mono ?_); rintro e w5 ⟨P5, p5, Q5, q5, rfl, hv, hh, hb⟩; have HH5 := Lib.hid hh; clear hh; have hbu := (below_drewN (Below.refl wc.heap.size wc) 1).trans hb; have hS5 := HC.out w5 hbu; have HU5 := Lib.hid hbu; have HV5 := Lib.hid hv; clear hb hbu hv)
      | (go_at_call 88; (with_reducible refine (PY.out w5 HU5.out).mono ?_); rintro e w6 ⟨P6, p6, Q6, q6, rfl, hv, hh, hb⟩; have HH6 := Lib.hid hh; clear hh; have hbu := HU5.out.trans (hb.mono HU5.out.size); have hS6 := HC.out w6 hbu; have HU6 := Lib.hid hbu; have HV6 := Lib.hid hv; have HB6 := Lib.hid hb;
          have t6 := CT.out.below hbu CT.out.lt; have u6 := CU.out.below hbu CU.out.lt;
          have HK2 := Lib.hid (fun v0 v1 v2 v3 v4 v5 => HSB.out _ (blk_ne6 t6 HNG.out.1.1 v0 v1 v2 v3 v4 v5) (blk_ne6 u6 HNG.out.2.1 v0 v1 v2 v3 v4 v5));
          have HK3 := Lib.hid (fun v0 v1 v2 v3 v4 v5 u0 u1 u2 u3 u4 u5 => HSB.out _ (blk_ne6 (blk_ne6 t6 HNG.out.1.1 v0 v1 v2 v3 v4 v5) HNG.out.1.2 u0 u1 u2 u3 u4 u5) (blk_ne6 (blk_ne6 u6 HNG.out.2.1 v0 v1 v2 v3 v4 v5) HNG.out.2.2 u0 u1 u2 u3 u4 u5));
          clear t6 u6; have b2 := C2.out.below hbu C2.out.lt; have b3 := C3.out.below hbu C3.out.lt;
          have u0 : w6.cell? ⟨g + 2, 0, none⟩ = some (.int .i64 0) := b2.cell 0 rfl; have u1 : w6.cell? ⟨g + 2, 1, none⟩ = some (strV []) := b2.cell 1 rfl; have u2 : w6.cell? ⟨g + 2, 2, none⟩ = some (strV []) := b2.cell 2 rfl; have u3 : w6.cell? ⟨g + 2, 3, none⟩ = some (.int .i64 0) := b2.cell 3 rfl; have u4 : w6.cell? ⟨g + 2, 4, none⟩ = some (.slice none 0 0) := b2.cell 4 rfl; have u5 : w6.cell? ⟨g + 2, 5, none⟩ = some (.slice none 0 0) := b2.cell 5 rfl;
          have v0 : w6.cell? ⟨g + 3, 0, none⟩ = some (.int .i64 0) := b3.cell 0 rfl; have v1 : w6.cell? ⟨g + 3, 1, none⟩ = some (strV []) := b3.cell 1 rfl; have v2 : w6.cell? ⟨g + 3, 2, none⟩ = some (strV []) := b3.cell 2 rfl; have v3 : w6.cell? ⟨g + 3, 3, none⟩ = some (.int .i64 0) := b3.cell 3 rfl; have v4 : w6.cell? ⟨g + 3, 4, none⟩ = some (.slice none 0 0) := b3.cell 4 rfl; have v5 : w6.cell? ⟨g + 3, 5, none⟩ = some (.slice none 0 0) := b3.cell 5 rfl;
          have f0 : w6.frozen? ⟨g + 2, 0, none⟩ = false := b2.frozen 0; have f1 : w6.frozen? ⟨g + 2, 1, none⟩ = false := b2.frozen 1; have f2 : w6.frozen? ⟨g + 2, 2, none⟩ = false := b2.frozen 2; have f3 : w6.frozen? ⟨g + 2, 3, none⟩ = false := b2.frozen 3; have f4 : w6.frozen? ⟨g + 2, 4, none⟩ = false := b2.frozen 4; have f5 : w6.frozen? ⟨g + 2, 5, none⟩ = false := b2.frozen 5; have h0 : w6.frozen? ⟨g + 3, 0, none⟩ = false := b3.frozen 0; have h1 : w6.frozen? ⟨g + 3, 1, none⟩ = false := b3.frozen 1; have h2 : w6.frozen? ⟨g + 3, 2, none⟩ = false := b3.frozen 2; have h3 : w6.frozen? ⟨g + 3, 3, none⟩ = false := b3.frozen 3; have h4 : w6.frozen? ⟨g + 3, 4, none⟩ = false := b3.frozen 4; have h5 : w6.frozen? ⟨g + 3, 5, none⟩ = false := b3.frozen 5;
          have Z2 := Lib.hid b2; have Z3 := Lib.hid b3; clear hb hbu hv b2 b3))
  go_wp2_with fail
  have l3 := C3.out.lt
  have l5 : wc.heap.size ≤ w5.heap.size := HU5.out.size
  have i5 := HH5.out; have i6 := HH6.out
  have i5a : Hi wc.heap.size P5 := i5.1; have i5b : Hi wc.heap.size Q5 := i5.2
  have i6a := i6.1.mono l5; have i6b := i6.2.mono l5
  have pv5 := (((HV5.out.below HB6.out).up HB6.out.size).hi6 (b := g + 2) i5a i5b (by omega) (.int .i64 x1.k) (strV x1.nm) (strV x1.to) (.int .i64 x1.h.pos) (.slice P5 n1 p5) (.slice Q5 m1 q5)).hi6 (b := g + 3) i5a i5b (by omega) (.int .i64 y1.k) (strV y1.nm) (strV y1.to) (.int .i64 y1.h.pos) (.slice P6 n2 p6) (.slice Q6 m2 q6)
  have pv6 := (HV6.out.hi6 (b := g + 2) i6a i6b (by omega) (.int .i64 x1.k) (strV x1.nm) (strV x1.to) (.int .i64 x1.h.pos) (.slice P5 n1 p5) (.slice Q5 m1 q5)).hi6 (b := g + 3) i6a i6b (by omega) (.int .i64 y1.k) (strV y1.nm) (strV y1.to) (.int .i64 y1.h.pos) (.slice P6 n2 p6) (.slice Q6 m2 q6)
  obtain ⟨z2, z3⟩ := two_set6 Z2.out Z3.out (by omega) (.int .i64 x1.k) (strV x1.nm) (strV x1.to) (.int .i64 x1.h.pos) (.slice P5 n1 p5) (.slice Q5 m1 q5) (.int .i64 y1.k) (strV y1.nm) (strV y1.to) (.int .i64 y1.h.pos) (.slice P6 n2 p6) (.slice Q6 m2 q6)
  have hb6 := below_set12 (b := g + 2) (b' := g + 3) (HW.out.trans (HU6.out.mono (by have := HW.out.size; omega))) (by omega) (by omega) (.int .i64 x1.k) (strV x1.nm) (strV x1.to) (.int .i64 x1.h.pos) (.slice P5 n1 p5) (.slice Q5 m1 q5) (.int .i64 y1.k) (strV y1.nm) (strV y1.to) (.int .i64 y1.h.pos) (.slice P6 n2 p6) (.slice Q6 m2 q6)
  have hsz := (below_set12 (b := g + 2) (b' := g + 3) (Below.refl 0 w6) (by omega) (by omega) (.int .i64 x1.k) (strV x1.nm) (strV x1.to) (.int .i64 x1.h.pos) (.slice P5 n1 p5) (.slice Q5 m1 q5) (.int .i64 y1.k) (strV y1.nm) (strV y1.to) (.int .i64 y1.h.pos) (.slice P6 n2 p6) (.slice Q6 m2 q6)).size
  generalize (World.setCell (World.setCell (World.setCell (World.setCell (World.setCell (World.setCell (World.setCell (World.setCell (World.setCell (World.setCell (World.setCell (World.setCell w6 ⟨g + 2, 0, none⟩ (.int .i64 x1.k)) ⟨g + 2, 1, none⟩ (strV x1.nm)) ⟨g + 2, 2, none⟩ (strV x1.to)) ⟨g + 2, 3, none⟩ (.int .i64 x1.h.pos)) ⟨g + 2, 4, none⟩ (.slice P5 n1 p5)) ⟨g + 2, 5, none⟩ (.slice Q5 m1 q5)) ⟨g + 3, 0, none⟩ (.int .i64 y1.k)) ⟨g + 3, 1, none⟩ (strV y1.nm)) ⟨g + 3, 2, none⟩ (strV y1.to)) ⟨g + 3, 3, none⟩ (.int .i64 y1.h.pos)) ⟨g + 3, 4, none⟩ (.slice P6 n2 p6)) ⟨g + 3, 5, none⟩ (.slice Q6 m2 q6)) = W3 at *
  clear u0 u1 u2 u3 u4 u5 v0 v1 v2 v3 v4 v5 f0 f1 f2 f3 f4 f5 h0 h1 h2 h3 h4 h5
  have u0 : W3.cell? ⟨g + 2, 0, none⟩ = some (.int .i64 x1.k) := z2.cell 0 rfl; have u1 : W3.cell? ⟨g + 2, 1, none⟩ = some (strV x1.nm) := z2.cell 1 rfl; have u2 : W3.cell? ⟨g + 2, 2, none⟩ = some (strV x1.to) := z2.cell 2 rfl; have u3 : W3.cell? ⟨g + 2, 3, none⟩ = some (.int .i64 x1.h.pos) := z2.cell 3 rfl; have u4 : W3.cell? ⟨g + 2, 4, none⟩ = some (.slice P5 n1 p5) := z2.cell 4 rfl; have u5 : W3.cell? ⟨g + 2, 5, none⟩ = some (.slice Q5 m1 q5) := z2.cell 5 rfl
  have v0 : W3.cell? ⟨g + 3, 0, none⟩ = some (.int .i64 y1.k) := z3.cell 0 rfl; have v1 : W3.cell? ⟨g + 3, 1, none⟩ = some (strV y1.nm) := z3.cell 1 rfl; have v2 : W3.cell? ⟨g + 3, 2, none⟩ = some (strV y1.to) := z3.cell 2 rfl; have v3 : W3.cell? ⟨g + 3, 3, none⟩ = some (.int .i64 y1.h.pos) := z3.cell 3 rfl; have v4 : W3.cell? ⟨g + 3, 4, none⟩ = some (.slice P6 n2 p6) := z3.cell 4 rfl; have v5 : W3.cell? ⟨g + 3, 5, none⟩ = some (.slice Q6 m2 q6) := z3.cell 5 rfl
  try rw [Exit.noGoto_ret]
  refine bodyPost_ret (v := .tuple #[.agg #[.int .i64 x1.k, strV x1.nm, strV x1.to, .int .i64 x1.h.pos, .slice P5 n1 p5, .slice Q5 m1 q5], .agg #[.int .i64 y1.k, strV y1.nm, strV y1.to, .int .i64 y1.h.pos, .slice P6 n2 p6, .slice Q6 m2 q6], .bool true]) (by simp [results, Try.results74, go_sem, u0, v0, u1, v1, u2, v2, u3, v3, u4, v4, u5, v5]) rfl ?_
  have hg : w.heap.size ≤ wc.heap.size := by rw [HGS.out]; omega
  exact ppEndH_some HO.out HBB.out HS.out (pv5.up hsz) (pv6.up hsz) HL2.out GL2.out ⟨i5a.mono hg, i5b.mono hg, i6a.mono hg, i6b.mono hg⟩ (by rw [HGS.out]; exact hb6)

end Pr
end Go.Proofs.Ytdnkinajbebkoaa

set_option maxRecDepth 100000
namespace Go.Proofs.Ytdnkinajbebkoaa
open Go.RowKit
set_option linter.unusedVariables false
set_option linter.unusedSimpArgs false
namespace Fl
open Tx Df Sq Hk Tr Pr

theorem doF_at {t u : TR} {l : List Ch} {k : Nat} {x : Ch} (hx : l[k]? = some x) (h : doF t l = doF u (l.drop k)) : doF t l = doF u (x :: l.drop (k + 1)) := by rw [h, drop_at hx]

/-- How a call ends that makes a list of changes. -/
def LPEnd (w : World) (l : List Ch) (e : Ending) (w' : World) : Prop := ∃ A c, e = .returned (.slice A l.length c) ∧ l.length ≤ c ∧ RdP w' (· < w'.heap.size) A l ∧ Below w.heap.size w w'
/-- The cells of one change in a block of their own. -/
theorem one_srcP {W : World} {b : Nat} {A B : Option Addr} {n c m d : Nat} {x : Ch} (h : Blk W b 54 #[.int .i64 x.k, strV x.nm, strV x.to, .int .i64 x.h.pos, .slice A n c, .slice B m d]) :
    ∀ (j : Nat) u, [Value.int .i64 x.k, strV x.nm, strV x.to, .int .i64 x.h.pos, .slice A n c, .slice B m d][j]? = some u → W.cell? ((⟨b, 0, none⟩ : Addr).add j) = some u := fun j u hu => by
  rcases j with _ | _ | _ | _ | _ | _ | j
  · rw [add_zero']; exact h.cell 0 hu
  · exact h.cell 1 hu
  · exact h.cell 2 hu
  · exact h.cell 3 hu
  · exact h.cell 4 hu
  · exact h.cell 5 hu
  · simp at hu

end Fl
end Go.Proofs.Ytdnkinajbebkoaa

set_option maxRecDepth 100000
namespace Go.Proofs.Ytdnkinajbebkoaa
open Go.RowKit
set_option linter.unusedVariables false
set_option linter.unusedSimpArgs false
namespace Fl
open Tx Df Sq Hk Tr Pr

/-- How a copy of lines ends: in memory of its own. -/
def CopyLEnd (w : World) (n : Nat) (ls : List (List UInt8)) (e : Ending) (w' : World) : Prop :=
  ∃ D d, e = .returned (.slice D n d) ∧ n ≤ d ∧ RdS w' w'.heap.size D ls ∧ Hi w.heap.size D ∧ w.grownBy w' none

theorem ownLines (A : Option Addr) (n c B : Nat) (ls : List (List UInt8)) (w : World) (hn : ls.length = n) (hle : n ≤ 100000) (hB : B ≤ w.heap.size) (hR : RdS w B A ls) :
    Calls Try.prog 70 #[.slice A n c] w (CopyLEnd w n ls) := by
  obtain ⟨j0, hj, hy0, hy1, hy2⟩ := info_parts info_str
  have HR := Lib.hid hR; have HN := Lib.hid hn
  clear hR hn
  go_enter Try.func70, Try.ntmps70
  go_wp2_with (at_builtin; refine wpList_nil' rfl (.const (.slice none 0 0)) (.tmp 3) 50 rfl 9 j0 (.string ⟨#[]⟩) 16 Try.underlying50 hj hy0 hy1 hy2 rfl rfl B A n c (ls.map strV) rfl (by rw [List.length_map]; exact HN.out) HR.out (strs_one _) (by unfold maxLen; omega) (by omega) ?_; intro D1 d1 w1 hA hg; have HA := Lib.hid hA; have HG := Lib.hid hg; clear hA hg)
  go_ret
  obtain ⟨A', c', e, hc, hr⟩ := rd_of_own HA.out
  injection e with e1 e2 e3
  subst e1 e3
  exact ⟨D1, d1, rfl, hc, hr, hi_own HA.out, HG.out⟩

/-- One of a row's files. -/
theorem ownT_elem {W : World} {base g n cap k : Nat} {t : TR} {x : FL} (h : OwnT W base (.slice (some ⟨g, 0, none⟩) n cap) t) (hn : t.length = n) (hx : t[k]? = some x) :
    ∃ A m c, W.cell? ⟨g, k * 2, none⟩ = some (strV x.1) ∧ W.cell? ⟨g, k * 2 + 1, none⟩ = some (.slice A m c) ∧ (∀ j, W.frozen? ⟨g, j, none⟩ = false) ∧ x.2.length = m ∧ RdX W (some g) A x.2 := by
  subst hn
  obtain ⟨xs, hr, hF⟩ := h
  obtain ⟨A, c, h0, h1, h2, h3⟩ := hF k x hx
  have hk : k < t.length := (List.getElem?_eq_some_iff.1 hx).1
  exact ⟨A, _, c, by rw [hr.cellAt (k * 2) (by omega)]; exact h0, by rw [hr.cellAt (k * 2 + 1) (by omega)]; exact h1, fun j => hr.frozenAt _, rfl, h3⟩
/-- The lines of one of a row's files are stored anew. -/
theorem ownT_line {W : World} {base g n cap k m d : Nat} {t : TR} {x : FL} {D : Option Addr} (h : OwnT W base (.slice (some ⟨g, 0, none⟩) n cap) t) (hn : t.length = n) (hx : t[k]? = some x) (hm : x.2.length = m) (hd : m ≤ d) (hr : RdX W (some g) D x.2) :
    OwnT (W.setCell ⟨g, k * 2 + 1, none⟩ (.slice D m d)) base (.slice (some ⟨g, 0, none⟩) n cap) t := by
  subst hm hn
  obtain ⟨xs, hrow, hF⟩ := h
  have hk : k < t.length := (List.getElem?_eq_some_iff.1 hx).1
  have hxl := hrow.1
  obtain ⟨h1, g1⟩ := hrow.stored (k * 2 + 1) (.slice D x.2.length d)
  refine ⟨_, h1, ?_⟩
  refine FCells.gr (W := W) (fun j y hy => ?_) g1
  by_cases e : j = k
  · subst e
    rw [hx] at hy
    injection hy with hy
    subst hy
    obtain ⟨A', c', q1, q2, q3, q4⟩ := hF j x hx
    refine ⟨D, d, ?_, ?_, hd, hr⟩
    · rw [List.getElem?_set_ne (by omega)]; exact q1
    · rw [List.getElem?_set_self (by omega)]
  · obtain ⟨A', c', q1, q2, q3, q4⟩ := hF j y hy
    refine ⟨A', c', ?_, ?_, q3, q4⟩
    · rw [List.getElem?_set_ne (by omega)]; exact q1
    · rw [List.getElem?_set_ne (by omega)]; exact q2
theorem ownT_form {W : World} {base : Nat} {v : Value} {t : TR} (h : OwnT W base v t) : t = [] ∧ v = .slice none 0 0 ∨ ∃ g cap, v = .slice (some ⟨g, 0, none⟩) t.length cap ∧ base ≤ g ∧ g < W.heap.size := by
  obtain ⟨xs, hr, hF⟩ := h
  rcases hr.2 with ⟨rfl, h1⟩ | ⟨g, cap, cur, rfl, hbg, hg, hc, _⟩
  · exact .inl ⟨List.eq_nil_of_length_eq_zero h1, rfl⟩
  · exact .inr ⟨g, cap, rfl, hbg, (Array.getElem?_eq_some_iff.1 hg).1⟩

set_option maxHeartbeats 2000000 in
theorem ownTree (A : Option Addr) (n c : Nat) (t : TR) (w : World) (hn : t.length = n) (hle : n ≤ 100000) (hl : ∀ x ∈ t, x.2.length ≤ 100000) (hR : RdT w w.heap.size A t) :
    Calls Try.prog 59 #[.slice A n c] w (TreeEnd w t) := by
  obtain ⟨ys, hy1, hy2, hy3⟩ := flat_cells (row := (Value.slice none 0 0).ownBlock) hR (Nat.le_refl _) (fun g e => by cases e)
  have Y1 := Lib.hid hy1; have Y2 := Lib.hid hy2; have Y3 := Lib.hid hy3; have HN := Lib.hid hn; have HL := Lib.hid hl
  clear hy1 hy2 hy3 hR hn hl
  go_enter Try.func59, Try.ntmps59
  go_wp2_with (at_builtin; refine wpList_ownT rfl (.const (.slice none 0 0)) (.tmp 6) rfl w.heap.size n c (.slice none 0 0) A [] t ys rfl rfl (ownT_nil _ _) Y2.out Y1.out Y3.out HN.out (by simp; omega) (Nat.le_refl _) ?_; intro v w1 ho hg; have HO := Lib.hid ho; have HB := Lib.hid ((Below.refl w.heap.size w).grown hg (Nat.le_refl _) (fun k e => by cases e)); clear ho hg; replace HO := Lib.hid (show OwnT w1 w.heap.size v t from HO.out); obtain ⟨A1, c1, hv1, hc1⟩ : ∃ A1 c1, v = .slice A1 n c1 ∧ n ≤ c1 := (rdT_own HO.out).elim fun A1 h => h.elim fun c1 h => ⟨A1, c1, by rw [← HN.out]; exact h.1, by rw [← HN.out]; exact h.2.1⟩; subst hv1)
  clear Y1 Y2 Y3
  go_loopw [10] (fun i wr => ∃ k : Nat, k ≤ n ∧ i = .int .i64 (k : Int) ∧ OwnT wr w.heap.size (.slice A1 n c1) t ∧ Below w.heap.size w wr) (fun i _ => n - (intOf i).toNat)
  case atStart => exact ⟨0, Nat.zero_le _, rfl, HO.out, HB.out⟩
  case round =>
    clear HO HB
    obtain ⟨k, hk, rfl, ho, hb⟩ := hrel
    have HB := Lib.hid hb
    by_cases hlt : k < n
    · rcases ownT_form ho with ⟨h0, _⟩ | ⟨g, cap, e, hg1, hg2⟩
      · exfalso
        have := HN.out
        rw [h0] at this
        simp at this
        omega
      injection e with e1 e2 e3
      subst e1 e3
      clear e2
      have hki : (k : Int) < (n : Int) := by omega
      obtain ⟨x, hx⟩ : ∃ x, t[k]? = some x := ⟨_, List.getElem?_eq_getElem (by rw [HN.out]; exact hlt)⟩
      obtain ⟨B, m, d, c0, c1', hf, hm, hr⟩ := ownT_elem ho HN.out hx
      have HO := Lib.hid ho; have HX := Lib.hid hx; have HM := Lib.hid hm; have HR := Lib.hid hr
      have hml : m ≤ 100000 := by rw [← HM.out]; exact HL.out x (List.mem_of_getElem? HX.out)
      clear ho hx hm hr hb
      have HBX := Lib.hid (Blk.new wr 72 #[strV x.1, .slice B m d])
      go_wp2_with fail
      refine (ownLines B m d wr.heap.size x.2 _ HM.out hml (by simp) (Rd.below HR.out.1 ((Below.refl _ _).alloc (Nat.le_refl _) _))).mono ?_
      rintro e w2 ⟨D, j, rfl, hj, hrd, hhi, hgr⟩
      have ho2 := (HO.out.below ((Below.refl _ _).alloc (Nat.le_refl _) (.cells #[strV x.1, .slice B m d] 72))).below (below_gr hgr)
      have hrx : RdX w2 (some g) D x.2 := ⟨hrd, by
        cases D with
        | none => exact .inr fun a e => by cases e
        | some a =>
          refine .inr fun a' e hne => ?_
          have := hhi a' e
          rw [World.size_alloc] at this
          injection hne with hne
          omega⟩
      have hb2 : Below w.heap.size w w2 := (HB.out.alloc HB.out.size (.cells #[strV x.1, .slice B m d] 72)).trans ((below_gr hgr).mono (by have := HB.out.size; simp; omega))
      obtain ⟨B', m', d', q0, q1, qf, qm, qr⟩ := ownT_elem ho2 HN.out HX.out
      have f1 := qf (k * 2 + 1)
      have HO2 := Lib.hid ho2; have HRX := Lib.hid hrx; have HB2 := Lib.hid hb2; have HJ := Lib.hid hj; have HG := Lib.hid hg1
      clear ho2 hrx hb2 hrd hhi hgr qr qf qm c0 c1' hf hj hg1 hg2
      go_wp2_with fail
      go_roundw
      case rel => exact ⟨k + 1, by omega, by go_num, ownT_line HO2.out HN.out HX.out HM.out HJ.out HRX.out, HB2.out.setCell (p := ⟨g, k * 2 + 1, none⟩) HG.out _⟩
      case measure => simp [intOf]; omega
    · have HO := Lib.hid ho
      clear ho hb
      go_wp2
      go_ret
      obtain ⟨A2, c2, e, hc2, hr2⟩ := rdT_own HO.out
      exact ⟨A2, c2, by rw [e]; rfl, hc2, hr2, HB.out⟩

set_option maxHeartbeats 4000000 in
theorem ApplyL (K L : Nat) (A0 : Option Addr) (n0 c0 : Nat) (A : Option Addr) (n c : Nat) (t : TR) (l : List Ch) (w : World) (R : Int × TR) (ht : Most t K L) (hK : K + n ≤ 99990) (hL : L + 300 * n ≤ 99000) (hn0 : t.length = n0) (hn : l.length = n) (hl : Lt l) (hR0 : RdT w w.heap.size A0 t) (hR : RdP w (· < w.heap.size) A l) (hD : doF t l = R) :
    Calls Try.prog 42 #[.slice A0 n0 c0, .slice A n c] w (DoEnd w R) := by
  have HR := Lib.hid hR; have HN := Lib.hid hn; have HL := Lib.hid hl; have HD := Lib.hid hD; have HT := Lib.hid ht; have HR0 := Lib.hid hR0; have HN0 := Lib.hid hn0
  clear hR hn hl hD ht hn0 hR0
  go_enter Try.func42, Try.ntmps42
  go_wp2_with fail
  refine (ownTree A0 n0 c0 t w HN0.out (by rw [← HN0.out]; exact HT.out.s.len) (fun x hx => (HT.out.s.all x hx).l) HR0.out).mono ?_
  rintro e w0 ⟨B0, d0, rfl, hd0, hr0, hb0⟩
  have HT0 := Lib.hid (show ∃ u : TR, u.length = n0 ∧ n0 ≤ d0 ∧ Most u (K + 0) (L + 300 * 0) ∧ RdT w0 w0.heap.size B0 u ∧ doF t l = doF u (l.drop 0) from ⟨t, HN0.out, by rw [← HN0.out]; exact hd0, HT.out, hr0, rfl⟩)
  have hz : t.length = n0 := HN0.out
  rw [hz]
  have HB0 := Lib.hid hb0
  clear HT HR0 HN0 hd0 hr0 hb0 hz
  go_wp2
  go_loopw [6, 15] (fun v0 i wr => ∃ (k : Nat) (B : Option Addr) (m d : Nat) (u : TR), k ≤ n ∧ i = .int .i64 (k : Int) ∧ v0 = .slice B m d ∧ u.length = m ∧ m ≤ d ∧ Most u (K + k) (L + 300 * k) ∧ RdT wr wr.heap.size B u ∧ doF t l = doF u (l.drop k) ∧ Below w.heap.size w wr) (fun _ i _ => n - (intOf i).toNat)
  case atStart =>
    obtain ⟨u, h1, h2, h3, h4, h5⟩ := HT0.out
    exact ⟨0, B0, n0, d0, u, Nat.zero_le _, rfl, rfl, h1, h2, h3, h4, h5, HB0.out⟩
  case round =>
    clear HT0 HB0
    obtain ⟨k, B, m, d, u, hk, rfl, rfl, hm, hmd, hM, hT, hF, hbw⟩ := hrel
    have HBW := Lib.hid hbw; have HM := Lib.hid hm; have HMM := Lib.hid hM; have HT := Lib.hid hT; have HF := Lib.hid hF; have HMD := Lib.hid hmd
    clear hbw hm hM hT hF hmd
    by_cases hlt : k < n
    · have hki : (k : Int) < (n : Int) := by omega
      obtain ⟨a, x, B1, i, j, D, m1, d1, rfl, hS, hx, c0, c1, c2, c3, c4, c5, c6⟩ := ((HR.out.mv HBW.out).elem (k := k) (by rw [HN.out]; exact hlt))
      have HX := Lib.hid hx; have HP := Lib.hid c6.pv; clear hx c6 hS
      have HLX := Lib.hid (HL.out x (List.mem_of_getElem? HX.out))
      have hba : Below wr.heap.size wr (wr.alloc (.cells #[.int .i64 x.k, strV x.nm, strV x.to, .int .i64 x.h.pos, .slice B1 i j, .slice D m1 d1] 54)) := (Below.refl _ _).alloc (Nat.le_refl _) _
      have HBA := Lib.hid hba; clear hba
      go_wp2_with fail
      refine (ApplyP B m d B1 i j D m1 d1 u x _ HMM.out.s.wide HM.out (HT.out.mv HBA.out) (HP.out.mv HBA.out)).mono ?_
      rintro e w2 hde
      obtain ⟨r, hr⟩ : ∃ r, doP u x = r := ⟨_, rfl⟩
      rw [hr] at hde
      obtain ⟨r, v⟩ := r
      obtain ⟨B2, m2, d2, rfl, hd2, hl2, hT2, hb2⟩ := hde
      dsimp only at hl2 hT2
      have hF := doF_at HX.out HF.out
      have HM2 := Lib.hid (HMM.out.do (by omega) (by omega) HLX.out hr)
      have hbw2 := below_mv HBW.out (below_mv HBA.out hb2)
      have HBW2 := Lib.hid hbw2; have HT2 := Lib.hid hT2; have HL2 := Lib.hid hl2; have HD2 := Lib.hid hd2; have HF2 := Lib.hid hF; have HRR := Lib.hid hr
      clear hbw2 c0 c1 c2 c3 c4 c5 hb2 hT2 hl2 hd2 hF hr
      by_cases h0 : r = 0
      · subst h0
        go_wp2_with fail
        refine ⟨⟨k + 1, B2, m2, d2, v, by omega, by go_num, rfl, HL2.out, HD2.out, ?_, HT2.out, ?_, HBW2.out⟩, by simp [intOf]; omega⟩
        · have h1 := HM2.out
          rw [show L + 300 * k + 300 = L + 300 * (k + 1) by omega] at h1
          exact h1
        · rw [HF2.out, doF_cons_ok HRR.out]
      · have e0 : (r != 0) = true := by rw [bne_iff_ne]; exact h0
        have HO : Hid (R = (r, [])) := Lib.hid (by rw [← HD.out, HF2.out, doF_cons_no (by rw [HRR.out]; exact h0), HRR.out])
        clear h0
        go_wp2
        go_ret2
        exact doEnd_err HO.out HBW2.out
    · have HO : Hid (R = (0, u)) := Lib.hid (by rw [← HD.out, HF.out, List.drop_of_length_le (by rw [HN.out]; omega)]; rfl)
      go_wp2
      go_ret2
      obtain ⟨rfl⟩ := HM.out
      exact doEnd_ok HO.out HMD.out HT.out HBW.out

end Fl
end Go.Proofs.Ytdnkinajbebkoaa

set_option maxRecDepth 100000
namespace Go.Proofs.Ytdnkinajbebkoaa
open Go.RowKit
set_option linter.unusedVariables false
set_option linter.unusedSimpArgs false
namespace Pn
open Tx Df Sq Hk Tr Pr Fl
attribute [local go_sem] eq_id

/-- A patch in a block of its own. -/
abbrev nmC (p : Nm) (D : Option Addr) (dn dc : Nat) (A : Option Addr) (n c : Nat) : Array Value := #[.int .i64 p.id.1, .int .i64 p.id.2, .slice D dn dc, strV p.txt, .slice A n c]

end Pn
end Go.Proofs.Ytdnkinajbebkoaa

set_option maxRecDepth 100000
namespace Go.Proofs.Ytdnkinajbebkoaa
open Go.RowKit
set_option linter.unusedVariables false
set_option linter.unusedSimpArgs false
namespace Tg
open Tx Df Sq Hk Tr Pr Fl Pn

/-- Where an id stands first; -1: nowhere. -/
def findI (l : List Id_) (x : Id_) : Int := match l.findIdx? (fun y => decide (x = y)) with
  | some k => k
  | none => -1
theorem findI_at {l : List Id_} {x : Id_} {k : Nat} (hx : l[k]? = some x) (hb : ∀ (j : Nat) (y : Id_), l[j]? = some y → j < k → x ≠ y) : findI l x = (k : Int) := by
  have key : l.findIdx? (fun y => decide (x = y)) = some k := by
    rw [List.findIdx?_eq_some_iff_getElem]
    obtain ⟨hk, e⟩ := List.getElem?_eq_some_iff.1 hx
    refine ⟨hk, by rw [e]; exact decide_eq_true rfl, fun j hj => ?_⟩
    have := hb j _ (List.getElem?_eq_getElem (by omega)) hj
    simpa using this
  unfold findI
  rw [key]
theorem findI_no {l : List Id_} {x : Id_} (h : ∀ (j : Nat) (y : Id_), l[j]? = some y → x ≠ y) : findI l x = -1 := by
  have key : l.findIdx? (fun y => decide (x = y)) = none := by
    rw [List.findIdx?_eq_none_iff]
    intro y hy
    obtain ⟨j, hj⟩ := List.getElem?_of_mem hy
    exact decide_eq_false (h j y hj)
  unfold findI
  rw [key]
theorem findI_mem {l : List Id_} {x : Id_} : 0 ≤ findI l x ↔ x ∈ l := by
  unfold findI
  cases h : l.findIdx? (fun y => decide (x = y)) with
  | none =>
    rw [List.findIdx?_eq_none_iff] at h
    refine ⟨fun h => absurd h (by decide), fun hx => ?_⟩
    have := h x hx
    simp at this
  | some k =>
    rw [List.findIdx?_eq_some_iff_getElem] at h
    obtain ⟨hk, e, _⟩ := h
    have e := of_decide_eq_true e
    exact ⟨fun _ => e ▸ List.getElem_mem hk, fun _ => by dsimp only; omega⟩

attribute [local go_sem] eq_id
set_option maxHeartbeats 1000000 in
theorem IndexI (x : Id_) (A : Option Addr) (n c B : Nat) (l : List Id_) (w : World) (hn : l.length = n) (hln : n ≤ 1000000) (hB : B ≤ w.heap.size) (hR : RdI w B A l) :
    Calls Try.prog 63 #[.slice A n c, .agg #[.int .i64 x.1, .int .i64 x.2]] w (IntEnd w (findI l x)) := by
  obtain ⟨x, u⟩ := x
  have HN := Lib.hid hn; have HR := Lib.hid (Rd.up hR hB : RdI w w.heap.size A l)
  clear hn hR hB
  obtain ⟨iv, hiv⟩ : ∃ iv, findI l (x, u) = iv := ⟨_, rfl⟩
  rw [hiv]
  have HIV := Lib.hid hiv; clear hiv
  have b0 := Blk.new w 42 #[.int .i64 x, .int .i64 u]
  have hba : Below w.heap.size w (w.alloc (.cells #[.int .i64 x, .int .i64 u] 42)) := (Below.refl _ _).alloc (Nat.le_refl _) _
  have HB0 := Lib.hid b0; have HBA := Lib.hid hba
  clear b0 hba
  dsimp only
  go_enter Try.func63, Try.ntmps63
  go_wp2_with fail
  obtain ⟨w0, hw0⟩ : ∃ W, w.alloc (.cells #[.int .i64 x, .int .i64 u] 42) = W := ⟨_, rfl⟩
  obtain ⟨z, hz⟩ : ∃ z, w.heap.size = z := ⟨_, rfl⟩
  rw [hw0] at HB0 HBA ⊢
  rw [hz] at HB0 ⊢
  have HZ := Lib.hid hz
  clear hw0 hz
  have HR0 := Lib.hid (RdI.mv HR.out HBA.out)
  go_loopw [8] (fun i wr => ∃ k : Nat, k ≤ n ∧ i = .int .i64 (k : Int) ∧ (∀ (j : Nat) (y : Id_), l[j]? = some y → j < k → (x, u) ≠ y) ∧ Below w0.heap.size w0 wr) (fun i _ => n - (intOf i).toNat)
  case atStart => exact ⟨0, Nat.zero_le _, rfl, fun j _ _ hj => by omega, Below.refl _ _⟩
  case round =>
    obtain ⟨k, hk, rfl, hall, hbw⟩ := hrel
    have HA := Lib.hid hall; have HBW := Lib.hid hbw; clear hall hbw
    have HBE := Lib.hid (below_mv HBA.out HBW.out)
    by_cases hlt : k < n
    · have hki : (k : Int) < (n : Int) := by omega
      obtain ⟨a, y, rfl, hS, hy, c0, c1⟩ := ((RdI.mv HR0.out HBW.out).elem (k := k) (by rw [HN.out]; exact hlt))
      obtain ⟨y, v⟩ := y
      have HX := Lib.hid hy
      have bz := HB0.out.below HBW.out HB0.out.lt
      have z0 := bz.cell 0 rfl; have z1 := bz.cell 1 rfl; have hzl := bz.lt
      clear hy hS bz
      dsimp only at c0 c1
      by_cases e1 : x = y
      · subst e1
        by_cases e2 : u = v
        · subst e2
          have HE : Hid (iv = (k : Int)) := Lib.hid (by rw [← HIV.out]; exact findI_at HX.out HA.out)
          go_wp2
          go_quiet (fail)
          go_wp2
          go_ret
          exact ⟨by rw [HE.out]; rfl, below_drewN HBE.out _⟩
        · have e3 : (u == v) = false := by rw [beq_eq_false_iff_ne]; exact e2
          go_wp2
          go_quiet (fail)
          go_wp2
          refine ⟨⟨k + 1, by omega, by go_num, fun j y hy hj => ?_, below_drewN HBW.out _⟩, by simp [intOf]; omega⟩
          by_cases e : j = k
          · subst e
            have h1 := HX.out
            rw [h1] at hy
            injection hy with hy
            subst hy
            intro e; injection e with _ e; exact e2 e
          · exact HA.out j y hy (by omega)
      · have e3 : (x == y) = false := by rw [beq_eq_false_iff_ne]; exact e1
        go_wp2
        go_quiet (fail)
        go_wp2
        refine ⟨⟨k + 1, by omega, by go_num, fun j y hy hj => ?_, below_drewN HBW.out _⟩, by simp [intOf]; omega⟩
        by_cases e : j = k
        · subst e
          have h1 := HX.out
          rw [h1] at hy
          injection hy with hy
          subst hy
          intro e; injection e with e _; exact e1 e
        · exact HA.out j y hy (by omega)
    · have HE : Hid (iv = -1) := Lib.hid (by
        rw [← HIV.out]
        exact findI_no fun j y hy => HA.out j y hy (by have := (List.getElem?_eq_some_iff.1 hy).1; have := HN.out; omega))
      go_wp2
      go_ret
      exact ⟨by rw [HE.out]; rfl, HBE.out⟩
theorem ContainsI (x : Id_) (A : Option Addr) (n c B : Nat) (l : List Id_) (w : World) (b : Bool) (hn : l.length = n) (hln : n ≤ 1000000) (hB : B ≤ w.heap.size) (hR : RdI w B A l) (hb : decide (x ∈ l) = b) :
    Calls Try.prog 49 #[.slice A n c, .agg #[.int .i64 x.1, .int .i64 x.2]] w (BoolEnd w b) := by
  have HN := Lib.hid hn; have HR := Lib.hid hR; have HB := Lib.hid hb
  clear hn hR hb
  go_enter Try.func49, Try.ntmps49
  have hba : Below w.heap.size w (w.alloc (.cells #[.int .i64 x.1, .int .i64 x.2] 42)) := (Below.refl _ _).alloc (Nat.le_refl _) _
  go_wp2_with fail
  refine (IndexI x A n c B l _ HN.out hln (Nat.le_trans hB hba.size) (Rd.below HR.out (hba.mono hB))).mono ?_
  rintro e w1 ⟨rfl, hb1⟩
  have HB1 := Lib.hid (below_mv hba hb1); clear hb1 hba
  obtain ⟨i, hi⟩ : ∃ i, findI l x = i := ⟨_, rfl⟩
  have HI : Hid (decide (0 ≤ i) = b) := Lib.hid (by rw [← HB.out, ← hi]; exact decide_eq_decide.2 findI_mem)
  rw [hi]
  clear hi
  go_wp2
  go_ret
  exact ⟨ret_bool (by rw [← HI.out]), HB1.out⟩

end Tg
end Go.Proofs.Ytdnkinajbebkoaa

set_option maxRecDepth 100000
namespace Go.Proofs.Ytdnkinajbebkoaa
open Go.RowKit
set_option linter.unusedVariables false
set_option linter.unusedSimpArgs false
namespace Tg
open Tx Df Sq Hk Tr Pr Fl Pn

/-- A row of ids of one's own that is new is read as ids. -/
theorem rdI_own_hi {W : World} {base : Nat} {v : Value} {l : List Id_} (h : OwnI W base v l) : ∃ A c, v = .slice A l.length c ∧ l.length ≤ c ∧ RdG W (fun b => base ≤ b ∧ b < W.heap.size) A (idsV l) := by
  obtain ⟨A, c, rfl, hc, hr⟩ := rdI_own h
  refine ⟨A, c, rfl, hc, ?_⟩
  rcases hr with h0 | ⟨a, rfl, hlt, hcell⟩
  · exact .inl h0
  · rcases h.2 with ⟨e, _⟩ | ⟨g, cap, cur, e, hbg, _⟩
    · injection e with e; cases e
    · injection e with e
      injection e with e
      subst e
      exact .inr ⟨_, rfl, ⟨hbg, hlt⟩, hcell⟩

/-- How with ends. -/
def WithEnd (w : World) (p : Nm) (dn : Nat) (A : Option Addr) (n c : Nat) (e : Ending) (w' : World) : Prop :=
  ∃ D dc, e = .returned (nmV p.id D dn dc p.txt A n c) ∧ dn ≤ dc ∧ RdG w' (Since w w') D (idsV p.deps) ∧ Below w.heap.size w w'

set_option maxHeartbeats 1000000 in
theorem With (D : Option Addr) (dn dc : Nat) (A : Option Addr) (n c : Nat) (p : Nm) (A' : Option Addr) (n' c' : Nat) (w : World) (hd : dn ≤ 100000) (hdl : p.deps.length = dn) (hr : RdI w w.heap.size D p.deps) :
    Calls Try.prog 48 #[nmV p.id D dn dc p.txt A n c, .slice A' n' c'] w (WithEnd w p dn A' n' c') := by
  have HR := Lib.hid hr; have HN := Lib.hid hdl
  clear hr hdl
  have b0 := (Blk.new w 83 #[.int .i64 p.id.1, .int .i64 p.id.2, .slice D dn dc, strV p.txt, .slice A n c]).alloc (.cells #[.int .i64 0, .int .i64 0, .slice none 0 0, .string ⟨#[]⟩, .slice none 0 0] 45)
  have b1 := Blk.new (w.alloc (.cells #[.int .i64 p.id.1, .int .i64 p.id.2, .slice D dn dc, strV p.txt, .slice A n c] 83)) 45 #[.int .i64 0, .int .i64 0, .slice none 0 0, .string ⟨#[]⟩, .slice none 0 0]
  have hba := two_box w (.cells #[.int .i64 p.id.1, .int .i64 p.id.2, .slice D dn dc, strV p.txt, .slice A n c] 83) (.cells #[.int .i64 0, .int .i64 0, .slice none 0 0, .string ⟨#[]⟩, .slice none 0 0] 45)
  simp only [World.size_alloc] at b1
  go_enter Try.func48, Try.ntmps48
  go_upto_region 1 with fail
  generalize ((w.alloc (.cells #[.int .i64 p.id.1, .int .i64 p.id.2, .slice D dn dc, strV p.txt, .slice A n c] 83)).alloc (.cells #[.int .i64 0, .int .i64 0, .slice none 0 0, .string ⟨#[]⟩, .slice none 0 0] 45)) = w1 at b0 b1 hba ⊢
  obtain ⟨z, hz⟩ : ∃ z, w.heap.size = z := ⟨_, rfl⟩
  have HR1 := Lib.hid (RdI.mv HR.out hba)
  rw [hz] at b0 b1 ⊢
  have HB0 := Lib.hid b0; have HB1 := Lib.hid b1; have HBA := Lib.hid hba; have HZ := Lib.hid hz
  have x2 := b0.cell 2 rfl; have x4 := b0.cell 4 rfl
  clear b0 b1 hba hz HR
  go_upto_region 2 with (at_builtin; refine wpList_ownI rfl (.const (.slice none 0 0)) (.tmp 6) rfl w1.heap.size dn dc (.slice none 0 0) D [] p.deps rfl rfl (ownI_nil _ _) HR1.out HN.out (by simp; omega) (Nat.le_refl _) ?_; intro v w2 ho hg; have HO := Lib.hid (show OwnI w2 w1.heap.size v p.deps from ho); have hb2 : Below w1.heap.size w1 w2 := (Below.refl _ _).grown hg (Nat.le_refl _) (fun k e => by cases e); have b02 := HB0.out.below hb2 HB0.out.lt; have b12 := HB1.out.below hb2 HB1.out.lt; have HB2 := Lib.hid hb2; have HB02 := Lib.hid b02; have HB12 := Lib.hid b12; obtain ⟨A2, c2, hv, hc2, hr2⟩ := rdI_own_hi HO.out; rw [HN.out] at hv hc2; subst hv; have HR2 := Lib.hid hr2; clear ho hg hb2 hr2 x2 x4; have x0 := b02.cell 0 rfl; have x1 := b02.cell 1 rfl; have x2 := b02.cell 2 rfl; have x3 := b02.cell 3 rfl; have x4 := b02.cell 4 rfl; have f2 := b02.frozen 2; have f4 := b02.frozen 4; have l0 := b02.lt; clear b02 b12)
  have b03 : Blk ((w2.setCell ⟨z, 2, none⟩ (.slice A2 dn c2)).setCell ⟨z, 4, none⟩ (.slice A' n' c')) z 83 #[.int .i64 p.id.1, .int .i64 p.id.2, .slice A2 dn c2, strV p.txt, .slice A' n' c'] := (HB02.out.set 2 _).set 4 _
  have b13 : Blk ((w2.setCell ⟨z, 2, none⟩ (.slice A2 dn c2)).setCell ⟨z, 4, none⟩ (.slice A' n' c')) (z + 1) 45 #[.int .i64 0, .int .i64 0, .slice none 0 0, .string ⟨#[]⟩, .slice none 0 0] := (HB12.out.set_ne (by omega) 2 _).set_ne (by omega) 4 _
  have hb3 : Below w.heap.size w ((w2.setCell ⟨z, 2, none⟩ (.slice A2 dn c2)).setCell ⟨z, 4, none⟩ (.slice A' n' c')) := ((below_mv HBA.out HB2.out).setCell (p := ⟨z, 2, none⟩) (Nat.le_of_eq HZ.out) _).setCell (p := ⟨z, 4, none⟩) (Nat.le_of_eq HZ.out) _
  have hz1 : z + 1 < w1.heap.size := HB1.out.lt
  have hzw := HZ.out
  have hr3 : RdG ((w2.setCell ⟨z, 2, none⟩ (.slice A2 dn c2)).setCell ⟨z, 4, none⟩ (.slice A' n' c')) (fun b => z + 2 ≤ b ∧ b < w2.heap.size) A2 (idsV p.deps) := (HR2.out.mono fun b hb => ⟨by have := hb.1; omega, hb.2⟩).to (((alike_set w2 z 2 (.slice A2 dn c2)).trans_ (alike_set _ z 4 (.slice A' n' c')) (by simp)).mono fun b hb => by omega)
  have hs3 : ((w2.setCell ⟨z, 2, none⟩ (.slice A2 dn c2)).setCell ⟨z, 4, none⟩ (.slice A' n' c')).heap.size = w2.heap.size := by simp
  clear x0 x1 x2 x3 x4 f2 f4 l0
  generalize ((w2.setCell ⟨z, 2, none⟩ (.slice A2 dn c2)).setCell ⟨z, 4, none⟩ (.slice A' n' c')) = w3 at b03 b13 hb3 hr3 hs3 ⊢
  have x0 := b03.cell 0 rfl; have x1 := b03.cell 1 rfl; have x2 := b03.cell 2 rfl; have x3 := b03.cell 3 rfl; have x4 := b03.cell 4 rfl
  have y0 := b13.cell 0 rfl; have y1 := b13.cell 1 rfl; have y2 := b13.cell 2 rfl; have y3 := b13.cell 3 rfl; have y4 := b13.cell 4 rfl
  have g0 := b13.frozen 0; have g1 := b13.frozen 1; have g2 := b13.frozen 2; have g3 := b13.frozen 3; have g4 := b13.frozen 4
  have hl0 := b03.lt; have hl1 := b13.lt
  have b14 := blk5 b13 (.int .i64 p.id.1) (.int .i64 p.id.2) (.slice A2 dn c2) (strV p.txt) (.slice A' n' c')
  have hb4 := below_set5 hb3 (show w.heap.size ≤ z + 1 by omega) (.int .i64 p.id.1) (.int .i64 p.id.2) (.slice A2 dn c2) (strV p.txt) (.slice A' n' c')
  have hr4 := hr3.to ((alike_set5 w3 (z + 1) (.int .i64 p.id.1) (.int .i64 p.id.2) (.slice A2 dn c2) (strV p.txt) (.slice A' n' c')).mono fun b hb => by omega)
  have hs4 : (World.setCell (World.setCell (World.setCell (World.setCell (World.setCell w3 ⟨z + 1, 0, none⟩ (.int .i64 p.id.1)) ⟨z + 1, 1, none⟩ (.int .i64 p.id.2)) ⟨z + 1, 2, none⟩ (.slice A2 dn c2)) ⟨z + 1, 3, none⟩ (strV p.txt)) ⟨z + 1, 4, none⟩ (.slice A' n' c')).heap.size = w3.heap.size := by simp
  have HB4 := Lib.hid hb4; have HR4 := Lib.hid hr4; have HS4 := Lib.hid (hs4.trans hs3); have B14 := Lib.hid b14; have HC2 := Lib.hid hc2
  clear b03 b13 hb3 hr3 hs3 hb4 hr4 hs4 b14 hz1 hzw hc2 HB2 HB02 HB12 HR2 HO HB0 HB1 HBA HR1
  go_wp2_with fail
  generalize (World.setCell (World.setCell (World.setCell (World.setCell (World.setCell w3 ⟨z + 1, 0, none⟩ (.int .i64 p.id.1)) ⟨z + 1, 1, none⟩ (.int .i64 p.id.2)) ⟨z + 1, 2, none⟩ (.slice A2 dn c2)) ⟨z + 1, 3, none⟩ (strV p.txt)) ⟨z + 1, 4, none⟩ (.slice A' n' c')) = w4 at *
  have u0 := B14.out.cell 0 rfl; have u1 := B14.out.cell 1 rfl; have u2 := B14.out.cell 2 rfl; have u3 := B14.out.cell 3 rfl; have u4 := B14.out.cell 4 rfl
  refine bodyPost_ret (v := .agg #[.int .i64 p.id.1, .int .i64 p.id.2, .slice A2 dn c2, strV p.txt, .slice A' n' c']) (by simp [results, Try.results48, go_sem, u0, u1, u2, u3, u4]) rfl ?_
  exact ⟨A2, c2, rfl, HC2.out, HR4.out.mono fun b hb => ⟨by have := HZ.out; omega, by have := HS4.out; omega⟩, HB4.out⟩

end Tg
end Go.Proofs.Ytdnkinajbebkoaa

set_option maxRecDepth 100000
namespace Go.Proofs.Ytdnkinajbebkoaa
open Go.RowKit Go.Shelf
set_option linter.unusedVariables false
namespace Fl
open Tx Rg
attribute [local go_sem] Oper.semAt_some

/-- Places from the last one on. -/
def dn (m : Nat) : List Nat := (List.range m).reverse
theorem dn_zero : dn 0 = [] := rfl
theorem dn_succ (k : Nat) : dn (k + 1) = k :: dn k := by unfold dn; rw [List.range_succ, List.reverse_append]; rfl
theorem dn_length (m : Nat) : (dn m).length = m := by unfold dn; simp
theorem dn_split : ∀ {m : Nat} {pre post : List Nat} {x : Nat}, dn m = pre ++ x :: post → pre.length + x + 1 = m
  | 0, pre, post, x, h => by simp [dn_zero] at h
  | m + 1, [], post, x, h => by
    rw [dn_succ] at h
    injection h with h1 h2
    simp; omega
  | m + 1, y :: pre, post, x, h => by
    rw [dn_succ, List.cons_append] at h
    injection h with h1 h2
    have := dn_split h2
    simp; omega

/-- What a round must keep: the box in which the slice lies, and that its changes can be read. -/
def KpL (Bs : Nat) (A : Option Addr) (m : Nat) (W W' : World) : Prop := (∀ v, Boxed W Bs 43 v → Boxed W' Bs 43 v) ∧ (Cells6 W A m → Cells6 W' A m)
section
variable {Bs m : Nat} {A : Option Addr}
theorem kpL_t {W W1 W2 : World} (h : KpL Bs A m W W1) (k : KpL Bs A m W1 W2) : KpL Bs A m W W2 := ⟨fun v hv => k.1 v (h.1 v hv), fun hv => k.2 (h.2 hv)⟩
theorem kpL_b {l : Nat} (hB : Bs ≠ l) (W : World) (o o' : Obj) (h : W.heap[l]? = some o) (ho : o.isCells = false) : KpL Bs A m W (W.putObj l o') :=
  ⟨fun v hv => hv.kept (grownBy_putObj' W l o') (by simpa using hB), fun hv => hv.kc (keepC_plain (grownBy_putObj' W l o') (fun r e => by cases e; exact ⟨o, h, ho⟩))⟩
theorem kpL_new {W W' : World} (hg : W.grownBy W' none) : KpL Bs A m W W' := ⟨fun v hv => hv.kept hg (by simp), fun hv => hv.kc (keepC_plain hg (fun r e => by cases e))⟩
end

/-- What is handed over. -/
def EL (m : Nat) (A : Option Addr) (i : Nat) (vals : Array Value) (W : World) : Prop := i < m ∧ ∃ a v0 v1 v2 v3 v4 v5, A = some a ∧ vals = #[.int .i64 (i : Int), .agg #[v0, v1, v2, v3, v4, v5]] ∧
  W.cell? (a.add (i * 6)) = some v0 ∧ W.cell? ⟨(a.add (i * 6)).block, (a.add (i * 6)).off + 1, none⟩ = some v1 ∧ W.cell? ⟨(a.add (i * 6)).block, (a.add (i * 6)).off + 2, none⟩ = some v2 ∧
  W.cell? ⟨(a.add (i * 6)).block, (a.add (i * 6)).off + 3, none⟩ = some v3 ∧ W.cell? ⟨(a.add (i * 6)).block, (a.add (i * 6)).off + 4, none⟩ = some v4 ∧ W.cell? ⟨(a.add (i * 6)).block, (a.add (i * 6)).off + 5, none⟩ = some v5

theorem backL_in (n : Nat) (A : Option Addr) (l c : Nat) (w : World) :
    CallsIn Fence.wide n Try.prog 73 #[.slice A l c] w fun e w' => e = .returned (.func (.func 85) #[] #[.pointer (some ⟨w.heap.size, 0, none⟩)]) ∧ w' = w.alloc (.cells #[.slice A l c] 43) := by
  refine callsIn_of_wp Try.func73 rfl trivial ?_ rfl
  simp only [Try.ntmps73, List.size_toArray, List.length_cons, List.length_nil, Nat.reduceAdd, Nat.reduceSub, Array.replicate_succ, Array.replicate_zero, List.push_toArray, List.append_toArray, List.nil_append, List.cons_append]
  gi_wp2
  go_ret
  exact ⟨rfl, rfl⟩

set_option maxRecDepth 100000 in
set_option maxHeartbeats 2000000 in
theorem backL1_in (n l Bs cap m : Nat) (A : Option Addr) (hle : m ≤ 1000000) (J Jx : List Nat → World → Prop)
    (hY : ∀ pre x post vals W1, dn m = pre ++ x :: post → J pre W1 → EL m A x vals W1 → YieldAt Fence.wide (n - 1) Try.prog l vals W1 fun e W' =>
      (e = .returned (.bool true) ∧ J (pre ++ [x]) W' ∧ KpL Bs A m W1 W') ∨ (e = .returned (.bool false) ∧ Jx (pre ++ [x]) W'))
    (W : World) (hBs : Boxed W Bs 43 (.slice A m cap)) (hR : Cells6 W A m) (h0 : J [] W) :
    CallsIn Fence.wide n Try.prog 85 #[.func (.yield l) #[] #[], .pointer (some ⟨Bs, 0, none⟩)] W fun e W' => (∃ v, e = .returned v) ∧ (J (dn m) W' ∨ ∃ pre post, dn m = pre ++ post ∧ Jx pre W') := by
  have hc := hBs.cell
  refine callsIn_of_wp Try.func85 rfl trivial ?_ rfl
  simp only [Try.ntmps85, List.size_toArray, List.length_cons, List.length_nil, Nat.reduceAdd, Nat.reduceSub, Array.replicate_succ, Array.replicate_zero, List.push_toArray, List.append_toArray, List.nil_append, List.cons_append]
  gi_wp2
  gi_loopw [3] (fun i wr => ∃ k pre, k ≤ m ∧ i = .int .i64 ((k : Int) - 1) ∧ dn m = pre ++ dn k ∧ J pre wr ∧ Boxed wr Bs 43 (.slice A m cap) ∧ Cells6 wr A m) (fun i _ => (intOf i + 1).toNat)
  case atStart => exact ⟨m, [], Nat.le_refl _, rfl, rfl, h0, hBs, hR⟩
  case round =>
    clear hc
    obtain ⟨k, pre, hk, rfl, hb, hJs, hBs', hR'⟩ := hrel
    have HB := Lib.hid hb; clear hb
    have HR := Lib.hid hR'; clear hR'
    have hc := hBs'.cell
    cases k with
    | zero =>
      have e : (((0 : Nat) : Int) - 1) = -1 := rfl
      rw [e]; clear e
      gi_wp2
      go_end0
      exact ⟨⟨_, rfl⟩, .inl (by have := HB.out; rw [dn_zero, List.append_nil] at this; rw [this]; exact hJs)⟩
    | succ k =>
      have e : (((k + 1 : Nat) : Int) - 1) = (k : Int) := by omega
      rw [e]; clear e
      have HB2 : Hid (dn m = pre ++ k :: dn k) := Lib.hid (by rw [HB.out, dn_succ])
      clear HB
      obtain ⟨a, v0, v1, v2, v3, v4, v5, rfl, c0, c1, c2, c3, c4, c5⟩ := HR.out k (by omega)
      obtain ⟨fn, tmps, assign, body, hy, hRR⟩ := hY pre k _ #[.int .i64 (k : Int), .agg #[v0, v1, v2, v3, v4, v5]] wr HB2.out hJs ⟨by omega, a, v0, v1, v2, v3, v4, v5, rfl, rfl, c0, c1, c2, c3, c4, c5⟩
      gi_wp2
      refine ⟨(fun h => by cases h), ?_⟩
      refine hRR.mono ?_
      rintro e W3 (⟨rfl, hJ3, hk3⟩ | ⟨rfl, hJx3⟩)
      · have hc3 := (hk3.1 _ hBs').cell
        clear c0 c1 c2 c3 c4 c5
        gi_wp2
        go_roundw
        case rel => exact ⟨k, pre ++ [k], by omega, rfl, by rw [HB2.out]; simp, hJ3, hk3.1 _ hBs', hk3.2 HR.out⟩
        case measure => simp [intOf]
      · gi_wp2
        refine bodyPost_ret (results_none rfl _ _ _) rfl ?_
        exact ⟨⟨_, rfl⟩, .inr ⟨pre ++ [k], dn k, by rw [HB2.out]; simp, hJx3⟩⟩

theorem backL_gives (n Bs cap m : Nat) (A : Option Addr) (hle : m ≤ 1000000) (w : World) (hBs : Boxed w Bs 43 (.slice A m cap)) (hR : Cells6 w A m) :
    GivesE Try.prog Plain n 85 #[.pointer (some ⟨Bs, 0, none⟩)] (EL m A) (dn m) (KpL Bs A m) w := fun J Jx W hW hs _ _ hY h0 =>
  backL1_in n _ Bs cap m A hle J Jx (fun pre x post vals W1 h1 h2 h3 => yield_less (hY pre x post vals W1 h1 h2 h3)) W ((hW.block Bs hBs.lt).trans hBs) (cells6_below hR hW) h0

end Fl
end Go.Proofs.Ytdnkinajbebkoaa

set_option maxRecDepth 100000
namespace Go.Proofs.Ytdnkinajbebkoaa
open Go.RowKit
set_option linter.unusedVariables false
set_option linter.unusedSimpArgs false
namespace Fl
open Tx Df Sq Hk Tr Pr

/-- The cells of one change within a row's. -/
def CellsAt (W : World) (S : Nat → Prop) (xs : List Value) (k : Nat) (x : Ch) : Prop :=
  ∃ A n c B m d, xs[k * 6]? = some (.int .i64 x.k) ∧ xs[k * 6 + 1]? = some (strV x.nm) ∧ xs[k * 6 + 2]? = some (strV x.to) ∧ xs[k * 6 + 3]? = some (.int .i64 x.h.pos) ∧ xs[k * 6 + 4]? = some (.slice A n c) ∧ xs[k * 6 + 5]? = some (.slice B m d) ∧ PG W S A n c B m d x
section
variable {W : World} {S T : Nat → Prop} {xs : List Value} {k p : Nat} {x y : Ch}
theorem cellsAt_set (h : CellsAt W S xs p y) (hp : p ≠ k) (u u' : Value) : CellsAt W S ((xs.set (k * 6 + 4) u).set (k * 6 + 5) u') p y := by
  obtain ⟨A, n, c, B, m, d, h0, h1, h2, h3, h4, h5, h6⟩ := h
  have key : ∀ b, b < 6 → ((xs.set (k * 6 + 4) u).set (k * 6 + 5) u')[p * 6 + b]? = xs[p * 6 + b]? := fun b hb => by
    rw [List.getElem?_set_ne (by omega), List.getElem?_set_ne (by omega)]
  exact ⟨A, n, c, B, m, d, (key 0 (by decide)).trans h0, (key 1 (by decide)).trans h1, (key 2 (by decide)).trans h2, (key 3 (by decide)).trans h3, (key 4 (by decide)).trans h4, (key 5 (by decide)).trans h5, h6⟩
theorem cellsAt_new {A B : Option Addr} {n c m d : Nat} (h : CellsAt W T xs k x) (hl : k * 6 + 5 < xs.length) (hy : PG W S A n c B m d x) : CellsAt W S ((xs.set (k * 6 + 4) (.slice A n c)).set (k * 6 + 5) (.slice B m d)) k x := by
  obtain ⟨_, _, _, _, _, _, h0, h1, h2, h3, _, _, _⟩ := h
  refine ⟨A, n, c, B, m, d, ?_, ?_, ?_, ?_, ?_, ?_, hy⟩
  · rw [List.getElem?_set_ne (by omega), List.getElem?_set_ne (by omega)]; exact h0
  · rw [List.getElem?_set_ne (by omega), List.getElem?_set_ne (by omega)]; exact h1
  · rw [List.getElem?_set_ne (by omega), List.getElem?_set_ne (by omega)]; exact h2
  · rw [List.getElem?_set_ne (by omega), List.getElem?_set_ne (by omega)]; exact h3
  · rw [List.getElem?_set_ne (by omega), List.getElem?_set_self (by omega)]
  · rw [List.getElem?_set_self (by rw [List.length_set]; exact hl)]
end

/-- Blocks made behind w that are not the row. -/
def Fresh (w W : World) (row : Option Nat) : Nat → Prop := fun b => w.heap.size ≤ b ∧ b < W.heap.size ∧ some b ≠ row
theorem fresh_up {w W W' : World} {row : Option Nat} (hs : W.heap.size ≤ W'.heap.size) : ∀ b, Fresh w W row b → Fresh w W' row b := fun b h => ⟨h.1, Nat.lt_of_lt_of_le h.2.1 hs, h.2.2⟩
theorem fresh_out {w W : World} {row : Option Nat} : ∀ b, Fresh w W row b → Out W row b := fun b h => ⟨h.2.1, h.2.2⟩

/-- A row of changes, the first k of them with lines of their own. -/
def OwnK (w W : World) (v : Value) (l : List Ch) (k : Nat) : Prop := ∃ xs, W.ownsRow w.heap.size 54 6 v l.length xs ∧ PCells W (Fresh w W v.ownBlock) (l.take k) xs ∧ PCells W (Out W v.ownBlock) l xs
section
variable {w W W' : World} {v : Value} {l : List Ch} {k : Nat}
theorem ownK_start (h : OwnP W w.heap.size v l) : OwnK w W v l 0 := by
  obtain ⟨xs, h1, h2⟩ := h
  exact ⟨xs, h1, by rw [List.take_zero]; exact PCells.nil _ _ _, h2⟩
theorem OwnK.own (h : OwnK w W v l k) : OwnP W w.heap.size v l := by
  obtain ⟨xs, h1, h2, h3⟩ := h
  exact ⟨xs, h1, h3⟩
theorem OwnK.done (h : OwnK w W v l k) (hk : l.length ≤ k) : OwnS W (Fresh w W v.ownBlock) w.heap.size v l := by
  obtain ⟨xs, h1, h2, h3⟩ := h
  rw [List.take_of_length_le hk] at h2
  exact ⟨xs, h1, h2⟩
theorem OwnK.below (h : OwnK w W v l k) (hb : Below W.heap.size W W') : OwnK w W' v l k := by
  obtain ⟨xs, h1, h2, h3⟩ := h
  exact ⟨xs, own_gr h1 (below_gr_row hb), (h2.to (fun b _ hl => hb.block b hl)).mono (fresh_up hb.size), (h3.to (fun b _ hl => hb.block b hl)).mono (out_up hb.size)⟩
theorem OwnK.step {g n cap : Nat} {x : Ch} {D D' : Option Addr} {m d m' d' : Nat} (h : OwnK w W (.slice (some ⟨g, 0, none⟩) n cap) l k) (hx : l[k]? = some x) (hy : PG W (Fresh w W (some g)) D m d D' m' d' x) :
    OwnK w ((W.setCell ⟨g, k * 6 + 4, none⟩ (.slice D m d)).setCell ⟨g, k * 6 + 5, none⟩ (.slice D' m' d')) (.slice (some ⟨g, 0, none⟩) n cap) l (k + 1) := by
  obtain ⟨xs, hr, h2, h3⟩ := h
  have hn : l.length = n := by
    rcases hr.2 with ⟨h0, _⟩ | ⟨g', cap', cur, h0, _⟩
    · cases h0
    · injection h0 with _ h0; exact h0.symm
  subst hn
  have hk : k < l.length := (List.getElem?_eq_some_iff.1 hx).1
  have hxl := hr.1
  obtain ⟨r1, g1⟩ := hr.stored (k * 6 + 4) (.slice D m d)
  obtain ⟨r2, g2⟩ := r1.stored (k * 6 + 5) (.slice D' m' d')
  have al : ∀ (S : Nat → Prop), (∀ b, S b → b ≠ g) → Alike S W ((W.setCell ⟨g, k * 6 + 4, none⟩ (.slice D m d)).setCell ⟨g, k * 6 + 5, none⟩ (.slice D' m' d')) := fun S hS b hb hl =>
    (alike_set _ g _ _ b (hS b hb) (by simp; exact hl)).trans (alike_set W g _ _ b (hS b hb) hl)
  have sz : W.heap.size ≤ ((W.setCell ⟨g, k * 6 + 4, none⟩ (.slice D m d)).setCell ⟨g, k * 6 + 5, none⟩ (.slice D' m' d')).heap.size := by simp
  have c0 : CellsAt W (Out W (some g)) xs k x := h3 k x hx
  refine ⟨_, r2, ?_, ?_⟩
  · refine (PCells.to (W := W) (S := Fresh w W (some g)) ?_ (al _ fun b hb e => hb.2.2 (by rw [e]))).mono (fresh_up sz)
    intro p y hy'
    rw [List.getElem?_take] at hy'
    by_cases e : p = k
    · subst e
      rw [if_pos (by omega)] at hy'
      rw [hx] at hy'
      injection hy' with hy'
      subst hy'
      exact cellsAt_new c0 (by omega) hy
    · have hp : p < k := by
        by_cases hp : p < k + 1
        · omega
        · rw [if_neg hp] at hy'; cases hy'
      rw [if_pos (by omega)] at hy'
      exact cellsAt_set (h2 p y (by rw [List.getElem?_take, if_pos hp]; exact hy')) e _ _
  · refine (PCells.to (W := W) (S := Out W (some g)) ?_ (al _ fun b hb e => hb.2 (by rw [e]))).mono (out_up sz)
    intro p y hy'
    by_cases e : p = k
    · subst e
      rw [hx] at hy'
      injection hy' with hy'
      subst hy'
      exact cellsAt_new c0 (by omega) (hy.mono fresh_out)
    · exact cellsAt_set (h3 p y hy') e _ _
end

/-- How own ends. -/
def MineEnd (w : World) (n : Nat) (l : List Ch) (e : Ending) (w' : World) : Prop :=
  ∃ A c, e = .returned (.slice A n c) ∧ n ≤ c ∧ OwnS w' (Fresh w w' (Value.slice A n c).ownBlock) w.heap.size (.slice A n c) l ∧ Below w.heap.size w w'

set_option maxRecDepth 100000 in
set_option maxHeartbeats 4000000 in
theorem ownL (A : Option Addr) (n c : Nat) (l : List Ch) (w : World) (hn : l.length = n) (hle : n ≤ 1000) (hl : Lt l) (hR : RdP w (· < w.heap.size) A l) :
    Calls Try.prog 64 #[.slice A n c] w (MineEnd w n l) := by
  have HR := Lib.hid hR; have HN := Lib.hid hn; have HL := Lib.hid hl
  clear hR hn hl
  go_enter Try.func64, Try.ntmps64
  go_wp2_with (at_builtin; refine wpList_ownPL rfl (.const (.slice none 0 0)) (.tmp 6) rfl w.heap.size w.heap.size n c (.slice none 0 0) A [] l rfl rfl (ownP_nil _ _) HR.out (Nat.le_refl _) HN.out (by simp; omega) (Nat.le_refl _) ?_; intro v w1 ho hg; have HO := Lib.hid (show OwnP w1 w.heap.size v l from ho); have HB := Lib.hid ((Below.refl w.heap.size w).grown hg (Nat.le_refl _) (fun k e => by cases e)); clear ho hg; obtain ⟨A1, c1, hv1, hc1⟩ : ∃ A1 c1, v = .slice A1 n c1 ∧ n ≤ c1 := (rdP_own HO.out).elim fun A1 h => h.elim fun c1 h => ⟨A1, c1, by rw [← HN.out]; exact h.1, by rw [← HN.out]; exact h.2.1⟩; subst hv1)
  clear HR
  go_loopw [10] (fun i wr => ∃ k : Nat, k ≤ n ∧ i = .int .i64 (k : Int) ∧ OwnK w wr (.slice A1 n c1) l k ∧ Below w.heap.size w wr) (fun i _ => n - (intOf i).toNat)
  case atStart => exact ⟨0, Nat.zero_le _, rfl, ownK_start HO.out, HB.out⟩
  case round =>
    clear HO HB
    obtain ⟨k, hk, rfl, ho, hb⟩ := hrel
    have HB := Lib.hid hb; have HO := Lib.hid ho
    clear hb ho
    by_cases hlt : k < n
    · obtain ⟨g, cap, e, hg1, hg2⟩ : ∃ g cap, Value.slice A1 n c1 = .slice (some ⟨g, 0, none⟩) n cap ∧ w.heap.size ≤ g ∧ g < wr.heap.size := by
        obtain ⟨xs, hr, _⟩ := HO.out
        rcases hr.2 with ⟨_, h1⟩ | ⟨g, cap, cur, e, hbg, hgb, hc, _⟩
        · have := HN.out; omega
        · injection e with e1 e2 e3
          subst e1 e3
          exact ⟨g, c1, rfl, hbg, (Array.getElem?_eq_some_iff.1 hgb).1⟩
      injection e with e1 e2 e3
      subst e1 e3
      clear e2
      have hki : (k : Int) < (n : Int) := by omega
      obtain ⟨x, hx⟩ : ∃ x, l[k]? = some x := ⟨_, List.getElem?_eq_getElem (by rw [HN.out]; exact hlt)⟩
      obtain ⟨B, i, j, D, m, d, c0, c1', c2, c3, c4, c5, hf, hp⟩ := OwnS.elem HO.out.own HN.out hx
      have HX := Lib.hid hx
      have HLX := Lib.hid (lt_len hp (HL.out x (List.mem_of_getElem? hx)))
      have HBX := Lib.hid (Blk.new wr 54 #[.int .i64 x.k, strV x.nm, strV x.to, .int .i64 x.h.pos, .slice B i j, .slice D m d])
      have HP := Lib.hid ((hp.mono fun b h => h.1).pv)
      clear hx hf hp
      have hba : Below wr.heap.size wr (wr.alloc (.cells #[.int .i64 x.k, strV x.nm, strV x.to, .int .i64 x.h.pos, .slice B i j, .slice D m d] 54)) := (Below.refl _ _).alloc (Nat.le_refl _) _
      have HPW := Lib.hid (HP.out.below hba); have HOW := Lib.hid (HO.out.below hba); have HBW := Lib.hid (HB.out.trans (hba.mono HB.out.size))
      have hsz : (wr.alloc (.cells #[.int .i64 x.k, strV x.nm, strV x.to, .int .i64 x.h.pos, .slice B i j, .slice D m d] 54)).heap.size = wr.heap.size + 1 := by simp
      have HSZ := Lib.hid hsz
      clear hba hsz HP HO HB
      go_upto_region 5 with fail
      clear c0 c1' c2 c3 c4 c5
      generalize (wr.alloc (.cells #[.int .i64 x.k, strV x.nm, strV x.to, .int .i64 x.h.pos, .slice B i j, .slice D m d] 54)) = W at *
      obtain ⟨z, hz⟩ : ∃ z, wr.heap.size = z := ⟨_, rfl⟩
      rw [hz] at HBX HPW HSZ hg2 ⊢
      clear hz
      have hlx := HLX.out
      have PX : Hid (∀ X, Below W.heap.size W X → Calls Try.prog 70 #[.slice B i j] X (fun e u => ∃ P p, e = .returned (.slice P i p) ∧ i ≤ p ∧ RdS u u.heap.size P x.h.old ∧ Hi X.heap.size P ∧ X.grownBy u none)) := Lib.hid (fun X hb => ownLines B i j z x.h.old X HPW.out.h.l (by omega) (by have := HSZ.out; have := hb.size; omega) (Rd.below HPW.out.h.r (hb.mono (by have := HSZ.out; omega))))
      have PY : Hid (∀ X, Below W.heap.size W X → Calls Try.prog 70 #[.slice D m d] X (fun e u => ∃ P p, e = .returned (.slice P m p) ∧ m ≤ p ∧ RdS u u.heap.size P x.h.new ∧ Hi X.heap.size P ∧ X.grownBy u none)) := Lib.hid (fun X hb => ownLines D m d z x.h.new X HPW.out.h.l' (by omega) (by have := HSZ.out; have := hb.size; omega) (Rd.below HPW.out.h.r' (hb.mono (by have := HSZ.out; omega))))
      have HGZ := Lib.hid (show z ≠ g by omega)
      have HSB : Hid (∀ X, Blk X z 54 #[.int .i64 x.k, strV x.nm, strV x.to, .int .i64 x.h.pos, .slice B i j, .slice D m d] → X.cell? ⟨z, 4, none⟩ = some (.slice B i j) ∧ X.cell? ⟨z, 5, none⟩ = some (.slice D m d)) := Lib.hid (fun X b => ⟨b.cell 4 rfl, b.cell 5 rfl⟩)
      have HC : Hid (∀ X, Below W.heap.size W X → X.cell? ⟨z, 4, none⟩ = some (.slice B i j) ∧ X.cell? ⟨z, 5, none⟩ = some (.slice D m d)) := Lib.hid (fun X hb => HSB.out X (HBX.out.below hb HBX.out.lt))
      have HKD := Lib.hid (HC.out W.drew (below_drewN (Below.refl _ _) 1))
      have hzl := HBX.out.lt
      obtain ⟨z4, z5⟩ := HC.out W (Below.refl _ _)
      go_region_held3 (fun X => X.cell? ⟨z, 4, none⟩ = some (.slice B i j) ∧ X.cell? ⟨z, 5, none⟩ = some (.slice D m d))
        (first | (with_reducible exact HKD.out) | (with_reducible exact hS5) | (with_reducible exact hS6) | (with_reducible exact HK2.out _ _) | (with_reducible exact HK3.out _ _ _ _))
        (first
          | (go_at_call 70; (with_reducible refine (PX.out W.drew (below_drewN (Below.refl _ _) 1)).mono ?_); rintro e w5 ⟨P5, p5, rfl, hk5, hr5, hh5, hg5⟩; have hbu := (below_drewN (Below.refl W.heap.size W) 1).trans (below_gr hg5); have hS5 := HC.out w5 hbu; have HU5 := Lib.hid hbu; have HR5 := Lib.hid hr5; have HH5 := Lib.hid hh5; have HK5 := Lib.hid hk5; clear hg5 hbu hr5 hh5 hk5)
          | (go_at_call 70; (with_reducible refine (PY.out w5 HU5.out).mono ?_); rintro e w6 ⟨P6, p6, rfl, hk6, hr6, hh6, hg6⟩; have hb6 := below_gr hg6; have hbu := HU5.out.trans (hb6.mono HU5.out.size); have hS6 := HC.out w6 hbu; have HU6 := Lib.hid hbu; have HB6 := Lib.hid hb6; have HR6 := Lib.hid hr6; have HH6 := Lib.hid hh6; have HK6 := Lib.hid hk6;
              have bz := HBX.out.below hbu HBX.out.lt;
              have HK2 := Lib.hid (fun (a : Nat) (v : Value) => HSB.out _ (bz.set_ne HGZ.out a v));
              have HK3 := Lib.hid (fun (a : Nat) (v : Value) (a' : Nat) (v' : Value) => HSB.out _ ((bz.set_ne HGZ.out a v).set_ne HGZ.out a' v'));
              have ho6 := HOW.out.below hbu; have HO6 := Lib.hid ho6;
              obtain ⟨_, _, _, _, _, _, q0, q1, q2, q3, q4, q5, qf, _⟩ := OwnS.elem ho6.own HN.out HX.out;
              have f4 := qf (k * 6 + 4); have f5 := qf (k * 6 + 5);
              clear q0 q1 q2 q3 qf ho6 bz hb6 hbu hr6 hh6 hk6 hg6))
      have HGL := Lib.hid (And.intro hg1 hg2)
      clear z4 z5 q4 q5 f4 f5 hS5 hS6 hzl HK2 HK3 HKD HC HSB PX PY
      go_wp2_with fail
      go_roundw
      case rel =>
        have v := HPW.out
        have hsz := HSZ.out
        have hgl := HGL.out
        have e5 : w5.heap.size ≤ w6.heap.size := HB6.out.size
        have u5 : W.heap.size ≤ w5.heap.size := HU5.out.size
        have r5 : RdG w6 (Fresh w w6 (some g)) P5 (x.h.old.map strV) := (rdG_hi (Rd.below HR5.out HB6.out) HH5.out).mono fun b hb => by
          have h1 : W.heap.size ≤ b := hb.1
          have h2 : b < w5.heap.size := hb.2
          exact ⟨by omega, by omega, fun e => by injection e with e; omega⟩
        have r6 : RdG w6 (Fresh w w6 (some g)) P6 (x.h.new.map strV) := (rdG_hi HR6.out HH6.out).mono fun b hb => by
          have h1 : w5.heap.size ≤ b := hb.1
          have h2 : b < w6.heap.size := hb.2
          exact ⟨by omega, by omega, fun e => by injection e with e; omega⟩
        refine ⟨k + 1, by omega, by go_num, OwnK.step HO6.out HX.out ⟨v.h.l, v.h.l', HK5.out, HK6.out, v.h.m, v.h.m', r5, r6, v.h.p, v.k, v.nm, v.to, v.s, v.s'⟩, ?_⟩
        exact ((HBW.out.trans (HU6.out.mono HBW.out.size)).setCell (p := ⟨g, k * 6 + 4, none⟩) hgl.1 _).setCell (p := ⟨g, k * 6 + 5, none⟩) hgl.1 _
      case measure => simp [intOf]; omega
    · have HE : Hid (l.length ≤ k) := Lib.hid (by rw [HN.out]; omega)
      go_wp2
      go_ret
      exact ⟨A1, c1, rfl, hc1, HO.out.done HE.out, HB.out⟩

end Fl
end Go.Proofs.Ytdnkinajbebkoaa

set_option maxRecDepth 100000
namespace Go.Proofs.Ytdnkinajbebkoaa
open Go.RowKit
set_option linter.unusedVariables false
namespace Fl
open Tx Df Sq Hk Tr Pr

theorem set_mid {α : Type} {l post : List α} {k : Nat} {p y : α} (h : l[k]? = some p) : (l.take (k + 1) ++ post).set k y = l.take k ++ y :: post := by
  have hk : k < l.length := (List.getElem?_eq_some_iff.1 h).1
  have hl : (l.take k).length = k := by rw [List.length_take]; omega
  rw [take_at h, List.append_assoc, List.set_append_right _ _ (by omega), hl, Nat.sub_self]
  rfl
theorem at_mid {α : Type} {l post : List α} {k : Nat} {p : α} (h : l[k]? = some p) : (l.take (k + 1) ++ post)[k]? = some p := by
  have hk : k < l.length := (List.getElem?_eq_some_iff.1 h).1
  rw [List.getElem?_append_left (by rw [List.length_take]; omega), List.getElem?_take, if_pos (by omega)]
  exact h
theorem len_mid {α : Type} {l post : List α} {k n : Nat} (h : post.length + k = n) (hl : l.length = n) : (l.take k ++ post).length = n := by
  rw [List.length_append, List.length_take]; omega

/-- How a call of Pass ends that tells x, y and bo. -/
def LPassEnd (w : World) (x y : List Ch) (bo : Bool) (e : Ending) (w' : World) : Prop :=
  ∃ A c B d, e = .returned (.tuple #[.slice A x.length c, .slice B y.length d, .bool bo]) ∧ RdP w' (· < w'.heap.size) A x ∧ RdP w' (· < w'.heap.size) B y ∧ Below w.heap.size w w'
def outF (o : Option (List Ch × List Ch)) : List Ch × List Ch := o.getD ([], [])
section
variable {w w' : World} {x y x' y' : List Ch} {bo : Bool} {o : Option (List Ch × List Ch)}
theorem outF_of (h : outF o = (x, y)) (hb : o.isSome = true) : o = some (x, y) := by
  cases o with
  | none => cases hb
  | some z => exact congrArg some h
end
theorem ownS_lt {W : World} {S : Nat → Prop} {base : Nat} {v : Value} {l : List Ch} (h : OwnS W S base v l) : ∀ g, v.ownBlock = some g → g < W.heap.size := fun g hg => by
  obtain ⟨xs, hr, hF⟩ := h
  rcases hr.2 with ⟨rfl, _⟩ | ⟨g', cap, cur, rfl, hbg, hg', hc, _⟩
  · cases hg
  · injection hg with hg
    subst hg
    exact (Array.getElem?_eq_some_iff.1 hg').1
theorem ownS_ge {W : World} {S : Nat → Prop} {base : Nat} {v : Value} {l : List Ch} (h : OwnS W S base v l) : ∀ g, v.ownBlock = some g → base ≤ g := fun g hg => by
  obtain ⟨xs, hr, hF⟩ := h
  exact own_ge hr g hg
theorem ownS_slice {W : World} {S : Nat → Prop} {base : Nat} {v : Value} {l : List Ch} (h : OwnS W S base v l) : ∃ A c, v = .slice A l.length c ∧ l.length ≤ c := by
  obtain ⟨xs, hr, hF⟩ := h
  rcases hr.2 with ⟨rfl, h1⟩ | ⟨g, cap, cur, rfl, hbg, hg, hc, _⟩
  · exact ⟨none, 0, by rw [h1], by rw [h1]; exact Nat.le_refl _⟩
  · exact ⟨_, cap, rfl, hc⟩
/-- A row of one's own is read as changes. -/
theorem rdP_of_own {W : World} {S : Nat → Prop} {base n c : Nat} {A : Option Addr} {l : List Ch} (h : OwnS W S base (.slice A n c) l) (hS : ∀ b, S b → b < W.heap.size) (hl : l.length = n) : RdP W (· < W.heap.size) A l := by
  by_cases h0 : l = []
  · exact .inl h0
  have hr0 := h
  obtain ⟨xs, hr, _⟩ := hr0
  rcases hr.2 with ⟨_, h1⟩ | ⟨g, cap, cur, e, _, hgb, hc, _⟩
  · exact absurd (List.eq_nil_of_length_eq_zero h1) h0
  · injection e with e1 e2 e3
    subst e1
    refine .inr ⟨_, rfl, (Array.getElem?_eq_some_iff.1 hgb).1, fun k x hx => ?_⟩
    obtain ⟨B, i', j, D, m', d, c0, c1, c2, c3, c4, c5, _, hp⟩ := h.elem hl hx
    have ea : (⟨g, 0, none⟩ : Addr).add (k * 6) = ⟨g, k * 6, none⟩ := by unfold Addr.add; split <;> simp_all
    exact ⟨by rw [ea]; exact c0, by rw [ea]; exact c1, by rw [ea]; exact c2, by rw [ea]; exact c3, B, i', j, D, m', d, by rw [ea]; exact c4, by rw [ea]; exact c5, hp.mono hS⟩

end Fl
end Go.Proofs.Ytdnkinajbebkoaa

set_option maxRecDepth 100000
namespace Go.Proofs.Ytdnkinajbebkoaa
open Go.RowKit Go.Shelf
set_option linter.unusedVariables false
set_option linter.unusedSimpArgs false
namespace Fl
open Tx Df Sq Hk Tr Pr Rg
attribute [local go_sem] Oper.semAt_some

/-- The cells of a change. -/
abbrev cellsV (x : Ch) (A : Option Addr) (n c : Nat) (B : Option Addr) (m d : Nat) : Array Value := #[.int .i64 x.k, strV x.nm, strV x.to, .int .i64 x.h.pos, .slice A n c, .slice B m d]
abbrev zeroV : Array Value := #[.int .i64 0, .string ⟨#[]⟩, .string ⟨#[]⟩, .int .i64 0, .slice none 0 0, .slice none 0 0]

/-- How through ends. -/
def ThruEnd (w : World) (R : Nat → Prop) (base : Nat) (v : Value) (o : Option (Ch × List Ch)) (e : Ending) (w' : World) : Prop :=
  (∀ z, o = some z → ∃ D m k D' m' k', e = .returned (.tuple #[prV z.1.k z.1.nm z.1.to z.1.h.pos D m k D' m' k', .bool true]) ∧ OwnS w' (But w' R) base v z.2 ∧ PG w' (But w' R) D m k D' m' k' z.1) ∧
  (o = none → e = .returned (.tuple #[.agg zeroV, .bool false])) ∧ w.grownBy w' v.ownBlock

/-- The values that are handed over, with the cells they come from. -/
theorem ab_EL {β : Type} {n : Nat} {A : Option Addr} {i : Nat} {vals : Array Value} {B : Nat} : Ab (β := β) Plain B (fun _ W => EL n A i vals W) := fun s W W' row hs hg hr => by
  have hk : KeepC (fun _ => True) W W' := keepC_plain hg (fun r e => (hr r e).2)
  obtain ⟨hi, a, v0, v1, v2, v3, v4, v5, h1, h2, c0, c1, c2, c3, c4, c5⟩ := hs
  exact ⟨hi, a, v0, v1, v2, v3, v4, v5, h1, h2, hk.cell trivial c0, hk.cell trivial c1, hk.cell trivial c2, hk.cell trivial c3, hk.cell trivial c4, hk.cell trivial c5⟩
theorem EL.row {X : World} {S : Nat → Prop} {base n c i : Nat} {A : Option Addr} {L : List Ch} {vals : Array Value} (h : EL n A i vals X) (hr : OwnS X S base (.slice A n c) L) (hL : L.length = n) :
    ∃ p g B r s B' r' s', A = some ⟨g, 0, none⟩ ∧ L[i]? = some p ∧ vals = #[.int .i64 (i : Int), .agg (cellsV p B r s B' r' s')] ∧ PG X S B r s B' r' s' p ∧ base ≤ g ∧ g < X.heap.size := by
  obtain ⟨hi, a, v0, v1, v2, v3, v4, v5, rfl, rfl, c0, c1, c2, c3, c4, c5⟩ := h
  have hr0 := hr
  obtain ⟨xs, hrow, _⟩ := hr0
  rcases hrow.2 with ⟨e, _⟩ | ⟨g, cap, cur, e, hbg, hgb, hc, _⟩
  · cases e
  · injection e with e1 e2 e3
    injection e1 with e1
    subst e1
    obtain ⟨p, hp⟩ : ∃ p, L[i]? = some p := ⟨_, List.getElem?_eq_getElem (by omega)⟩
    obtain ⟨B, r, s, B', r', s', g0, g1, g2, g3, g4, g5, _, hpg⟩ := hr.elem hL hp
    have ea : (⟨g, 0, none⟩ : Addr).add (i * 6) = ⟨g, i * 6, none⟩ := by unfold Addr.add; split <;> simp_all
    rw [ea] at c0 c1 c2 c3 c4 c5
    have e0 := Option.some.inj (c0.symm.trans g0)
    have e1 := Option.some.inj (c1.symm.trans g1)
    have e2 := Option.some.inj (c2.symm.trans g2)
    have e3 := Option.some.inj (c3.symm.trans g3)
    have e4 := Option.some.inj (c4.symm.trans g4)
    have e5 := Option.some.inj (c5.symm.trans g5)
    subst e0 e1 e2 e3 e4 e5
    exact ⟨p, g, B, r, s, B', r', s', rfl, hp, rfl, hpg, hbg, (Array.getElem?_eq_some_iff.1 hgb).1⟩
theorem vals_eq {i : Int} {v0 v1 v2 v3 v4 v5 : Value} {p : Ch} {B B' : Option Addr} {r s r' s' : Nat} (h : #[Value.int .i64 i, .agg #[v0, v1, v2, v3, v4, v5]] = #[.int .i64 i, .agg (cellsV p B r s B' r' s')]) :
    v0 = .int .i64 p.k ∧ v1 = strV p.nm ∧ v2 = strV p.to ∧ v3 = .int .i64 p.h.pos ∧ v4 = .slice B r s ∧ v5 = .slice B' r' s' := by
  simpa using h

/-- Between two rounds. -/
structure ThI (w : World) (R : Nat → Prop) (base : Nat) (v : Value) (l : List Ch) (q : Ch) (j : Nat) (x : Ch) (post : List Ch) (D : Option Addr) (m k : Nat) (D' : Option Addr) (m' k' : Nat) (W : World) : Prop where
  eq : one passP (l.drop j) q = some (x, post)
  lx : lightP x = true
  row : OwnS W (But W R) base v (l.take j ++ post)
  pg : PG W (But W R) D m k D' m' k' x
  bl : Blk W w.heap.size 43 #[v]
  bq : Blk W (w.heap.size + 1) 54 (cellsV x D m k D' m' k')
  br : Blk W (w.heap.size + 1 + 1) 54 zeroV
  bb : Blk W (w.heap.size + 1 + 1 + 1) 4 #[.bool false]
  fr : w.grownBy W v.ownBlock
def ThJ (w : World) (R : Nat → Prop) (base : Nat) (v : Value) (l : List Ch) (q : Ch) (n : Nat) (pre : List Nat) (W : World) : Prop :=
  ∃ x post D m k D' m' k', ThI w R base v l q (n - pre.length) x post D m k D' m' k' W
def ThX (w : World) (v : Value) (l : List Ch) (q : Ch) (c : Code) (_ : List Nat) (W : World) : Prop :=
  c = .ret ∧ one passP l q = none ∧ Blk W (w.heap.size + 1 + 1) 54 zeroV ∧ Blk W (w.heap.size + 1 + 1 + 1) 4 #[.bool false] ∧ w.grownBy W v.ownBlock
section
variable {w : World} {R : Nat → Prop} {base B n : Nat} {v : Value} {l : List Ch} {q : Ch}
theorem thJ_ab (hB : w.heap.size ≤ B) : Ab Plain B (ThJ w R base v l q n) := fun s W W' row hs hg hr => by
  obtain ⟨x, post, D, m, k, D', m', k', h⟩ := hs
  have bl : ∀ {b : Nat} {t : TypeId} {cs : Array Value}, Blk W b t cs → Blk W' b t cs := fun h => ab_blk (β := Unit) (B := B) (fun _ => _) () W W' row h hg hr
  exact ⟨x, post, D, m, k, D', m', k', h.eq, h.lx, ab_ownS (β := Unit) (B := B) (fun _ => _) () W W' row h.row hg hr, ab_pg (β := Unit) (B := B) (fun _ => _) () W W' row h.pg hg hr, bl h.bl, bl h.bq, bl h.br, bl h.bb, ab_grown (β := Unit) (B := B) hB () W W' row h.fr hg hr⟩
theorem thX_ab (hB : w.heap.size ≤ B) (c : Code) : Ab Plain B (ThX w v l q c) := fun s W W' row hs hg hr => by
  obtain ⟨h1, h2, h3, h4, h5⟩ := hs
  have bl : ∀ {b : Nat} {t : TypeId} {cs : Array Value}, Blk W b t cs → Blk W' b t cs := fun h => ab_blk (β := Unit) (B := B) (fun _ => _) () W W' row h hg hr
  exact ⟨h1, h2, bl h3, bl h4, ab_grown (β := Unit) (B := B) hB () W W' row h5 hg hr⟩
end

theorem ThI.mv {w W W' : World} {R : Nat → Prop} {base j m k m' k' : Nat} {v : Value} {l post : List Ch} {q x : Ch} {D D' : Option Addr} (h : ThI w R base v l q j x post D m k D' m' k' W) (hb : Below W.heap.size W W') : ThI w R base v l q j x post D m k D' m' k' W' :=
  ⟨h.eq, h.lx, (h.row.below hb).mono (but_up hb.size), (h.pg.to_ (fun b _ hl => hb.block b hl)).mono (but_up hb.size), h.bl.below hb h.bl.lt, h.bq.below hb h.bq.lt, h.br.below hb h.br.lt, h.bb.below hb h.bb.lt, grow_trans h.fr (below_gr_row hb) (fun i e => by cases e)⟩
theorem ThI.rowlen {w X : World} {R : Nat → Prop} {base j n m k m' k' : Nat} {v : Value} {l post : List Ch} {q x : Ch} {D D' : Option Addr} (h : ThI w R base v l q j x post D m k D' m' k' X) (hl : l.length = n) (hj : j ≤ n) : (l.take j ++ post).length = n := by
  have := one_len passP h.eq
  rw [List.length_drop] at this
  rw [List.length_append, List.length_take, this]; omega
theorem mid_at {α : Type} {l post : List α} {k : Nat} {p : α} (hk : k < l.length) (h : (l.take (k + 1) ++ post)[k]? = some p) : l[k]? = some p := by
  rw [List.getElem?_append_left (by rw [List.length_take]; omega), List.getElem?_take, if_pos (by omega)] at h
  exact h

theorem keepsFrom_below {W W' : World} (B : Nat) (h : Below W.heap.size W W') : KeepsFrom B W W' := ⟨h.size, fun k o _ hk _ => (h.block k (Array.getElem?_eq_some_iff.1 hk).1).trans hk⟩

/-- What through needs of the memory that it is handed. -/
structure ThN (w : World) (R : Nat → Prop) (base n c : Nat) (A : Option Addr) (l : List Ch) (D : Option Addr) (m k : Nat) (D' : Option Addr) (m' k' : Nat) (q : Ch) : Prop where
  len : l.length = n
  lt : Lt l
  lq : lightP q = true
  r : ∀ g, (Value.slice A n c).ownBlock = some g → R g
  rl : ∀ b, R b → b < w.heap.size
  row : OwnS w (But w R) base (.slice A n c) l
  pg : PG w (But w R) D m k D' m' k' q

/-- R, and the boxes that through makes. -/
def RB (w : World) (R : Nat → Prop) : Nat → Prop := fun b => R b ∨ (w.heap.size ≤ b ∧ b < w.heap.size + 4)
section
variable {w W W' : World} {r : Option Nat} {b : Nat}
theorem grow_set (h : w.grownBy W r) (hb : w.heap.size ≤ b) (j : Nat) (v : Value) : w.grownBy (W.setCell ⟨b, j, none⟩ v) r := grow_trans h (grownBy_set W b j v) (fun i e => .inl (by injection e with e; omega))
theorem grow_own (h : w.grownBy W (some b)) (j : Nat) (v : Value) : w.grownBy (W.setCell ⟨b, j, none⟩ v) (some b) := grow_trans h (grownBy_set W b j v) (fun i e => .inr (by injection e with e; rw [e]))
theorem grow_below (h : w.grownBy W r) (hb : Below W.heap.size W W') : w.grownBy W' r := grow_trans h (below_gr_row hb) (fun i e => by cases e)
theorem grow_set6 (h : w.grownBy W r) (hb : w.heap.size ≤ b) (v0 v1 v2 v3 v4 v5 : Value) : w.grownBy (World.setCell (World.setCell (World.setCell (World.setCell (World.setCell (World.setCell W ⟨b, 0, none⟩ (v0)) ⟨b, 1, none⟩ (v1)) ⟨b, 2, none⟩ (v2)) ⟨b, 3, none⟩ (v3)) ⟨b, 4, none⟩ (v4)) ⟨b, 5, none⟩ (v5)) r :=
  grow_set (grow_set (grow_set (grow_set (grow_set (grow_set h hb 0 v0) hb 1 v1) hb 2 v2) hb 3 v3) hb 4 v4) hb 5 v5
theorem grow_own6 (h : w.grownBy W (some b)) (k : Nat) (v0 v1 v2 v3 v4 v5 : Value) : w.grownBy (World.setCell (World.setCell (World.setCell (World.setCell (World.setCell (World.setCell W ⟨b, k * 6, none⟩ (v0)) ⟨b, k * 6 + 1, none⟩ (v1)) ⟨b, k * 6 + 2, none⟩ (v2)) ⟨b, k * 6 + 3, none⟩ (v3)) ⟨b, k * 6 + 4, none⟩ (v4)) ⟨b, k * 6 + 5, none⟩ (v5)) (some b) :=
  grow_own (grow_own (grow_own (grow_own (grow_own (grow_own h (k * 6) v0) (k * 6 + 1) v1) (k * 6 + 2) v2) (k * 6 + 3) v3) (k * 6 + 4) v4) (k * 6 + 5) v5
theorem keeps_set6 (W : World) (B b : Nat) (v0 v1 v2 v3 v4 v5 : Value) : KeepsFrom B W (World.setCell (World.setCell (World.setCell (World.setCell (World.setCell (World.setCell W ⟨b, 0, none⟩ (v0)) ⟨b, 1, none⟩ (v1)) ⟨b, 2, none⟩ (v2)) ⟨b, 3, none⟩ (v3)) ⟨b, 4, none⟩ (v4)) ⟨b, 5, none⟩ (v5)) :=
  ((((((KeepsOthers.setCell _ _ _).from B).trans ((KeepsOthers.setCell _ _ _).from B)).trans ((KeepsOthers.setCell _ _ _).from B)).trans ((KeepsOthers.setCell _ _ _).from B)).trans ((KeepsOthers.setCell _ _ _).from B)).trans ((KeepsOthers.setCell _ _ _).from B)
theorem keeps_row6 (W : World) (B b k : Nat) (v0 v1 v2 v3 v4 v5 : Value) : KeepsFrom B W (World.setCell (World.setCell (World.setCell (World.setCell (World.setCell (World.setCell W ⟨b, k * 6, none⟩ (v0)) ⟨b, k * 6 + 1, none⟩ (v1)) ⟨b, k * 6 + 2, none⟩ (v2)) ⟨b, k * 6 + 3, none⟩ (v3)) ⟨b, k * 6 + 4, none⟩ (v4)) ⟨b, k * 6 + 5, none⟩ (v5)) :=
  ((((((KeepsOthers.setCell _ _ _).from B).trans ((KeepsOthers.setCell _ _ _).from B)).trans ((KeepsOthers.setCell _ _ _).from B)).trans ((KeepsOthers.setCell _ _ _).from B)).trans ((KeepsOthers.setCell _ _ _).from B)).trans ((KeepsOthers.setCell _ _ _).from B)
end

/-- A round that tells that the change can't pass. -/
theorem thru_no {w X w2 : World} {R : Nat → Prop} {base i : Nat} {v : Value} {l : List Ch} {q x p : Ch} {post : List Ch} {D1 D2 : Option Addr} {m1 k1 m2 k2 B : Nat} {pre : List Nat} (hI : ThI w R base v l q (i + 1) x post D1 m1 k1 D2 m2 k2 X) (hb2 : Below X.heap.size X w2) (hx : l[i]? = some p) (hn : passP p x = none) (o o' : Obj) :
    KeepsFrom B X ((((World.setCell (World.setCell (World.setCell (World.setCell (World.setCell (World.setCell w2 ⟨w.heap.size + 1 + 1, 0, none⟩ (.int .i64 0)) ⟨w.heap.size + 1 + 1, 1, none⟩ (.string ⟨#[]⟩)) ⟨w.heap.size + 1 + 1, 2, none⟩ (.string ⟨#[]⟩)) ⟨w.heap.size + 1 + 1, 3, none⟩ (.int .i64 0)) ⟨w.heap.size + 1 + 1, 4, none⟩ (.slice none 0 0)) ⟨w.heap.size + 1 + 1, 5, none⟩ (.slice none 0 0)).setCell ⟨w.heap.size + 1 + 1 + 1, 0, none⟩ (.bool false)).alloc o).alloc o') ∧
    ThX w v l q .ret pre ((((World.setCell (World.setCell (World.setCell (World.setCell (World.setCell (World.setCell w2 ⟨w.heap.size + 1 + 1, 0, none⟩ (.int .i64 0)) ⟨w.heap.size + 1 + 1, 1, none⟩ (.string ⟨#[]⟩)) ⟨w.heap.size + 1 + 1, 2, none⟩ (.string ⟨#[]⟩)) ⟨w.heap.size + 1 + 1, 3, none⟩ (.int .i64 0)) ⟨w.heap.size + 1 + 1, 4, none⟩ (.slice none 0 0)) ⟨w.heap.size + 1 + 1, 5, none⟩ (.slice none 0 0)).setCell ⟨w.heap.size + 1 + 1 + 1, 0, none⟩ (.bool false)).alloc o).alloc o') := by
  have hbr := hI.br.below hb2 hI.br.lt
  have hbb := hI.bb.below hb2 hI.bb.lt
  refine ⟨(((((keepsFrom_below B hb2).trans (keeps_set6 w2 B (w.heap.size + 1 + 1) _ _ _ _ _ _)).trans ((KeepsOthers.setCell _ _ _).from B)).trans ((KeepsOthers.alloc _ o).from B)).trans ((KeepsOthers.alloc _ o').from B)), rfl, one_step_none passP hx hI.eq hn, ?_, ?_, ?_⟩
  · exact (((blk6 hbr (.int .i64 0) (.string ⟨#[]⟩) (.string ⟨#[]⟩) (.int .i64 0) (.slice none 0 0) (.slice none 0 0)).set_ne (by omega) 0 (.bool false)).alloc o).alloc o'
  · exact (((blk_set6 hbb (g := w.heap.size + 1 + 1) (by omega) (.int .i64 0) (.string ⟨#[]⟩) (.string ⟨#[]⟩) (.int .i64 0) (.slice none 0 0) (.slice none 0 0)).set 0 (.bool false)).alloc o).alloc o'
  · exact grow_trans (grow_trans (grow_set (grow_set6 (grow_below hI.fr hb2) (by omega) _ _ _ _ _ _) (by omega) 0 _) (World.grownBy_alloc _ o none) (by simp)) (World.grownBy_alloc _ o' none) (by simp)

/-- A round in which both pass: first the change is stored, then the one of the list. -/
theorem thru_mid {w X w2 w4 : World} {R : Nat → Prop} {base i g n c : Nat} {l : List Ch} {q x x1 y1 : Ch} {post : List Ch} {D1 D2 : Option Addr} {m1 k1 m2 k2 : Nat} {E1 E2 E3 E4 : Option Addr} {n1 c1 n2 c2 n3 c3 n4 c4 : Nat}
    (hI : ThI w (RB w R) base (.slice (some ⟨g, 0, none⟩) n c) l q (i + 1) x post D1 m1 k1 D2 m2 k2 X) (hR : R g) (hrl : ∀ b, R b → b < w.heap.size) (hb2 : Below X.heap.size X w2) (hb4 : Below w2.heap.size w2 w4)
    (hv : PV w2 w2.heap.size E1 n1 c1 E2 n2 c2 x1) (gv : PV w2 w2.heap.size E3 n3 c3 E4 n4 c4 y1) (hh : Hi X.heap.size E1 ∧ Hi X.heap.size E2 ∧ Hi X.heap.size E3 ∧ Hi X.heap.size E4) :
    let w6 := (World.setCell (World.setCell (World.setCell (World.setCell (World.setCell (World.setCell w4 ⟨w.heap.size + 1, 0, none⟩ (.int .i64 x1.k)) ⟨w.heap.size + 1, 1, none⟩ (strV x1.nm)) ⟨w.heap.size + 1, 2, none⟩ (strV x1.to)) ⟨w.heap.size + 1, 3, none⟩ (.int .i64 x1.h.pos)) ⟨w.heap.size + 1, 4, none⟩ (.slice E1 n1 c1)) ⟨w.heap.size + 1, 5, none⟩ (.slice E2 n2 c2))
    OwnS w6 (But w6 (RB w R)) base (.slice (some ⟨g, 0, none⟩) n c) (l.take (i + 1) ++ post) ∧ PG w6 (But w6 (RB w R)) E1 n1 c1 E2 n2 c2 x1 ∧ PG w6 (But w6 (RB w R)) E3 n3 c3 E4 n4 c4 y1 ∧
    Blk w6 w.heap.size 43 #[.slice (some ⟨g, 0, none⟩) n c] ∧ Blk w6 (w.heap.size + 1) 54 (cellsV x1 E1 n1 c1 E2 n2 c2) ∧ Blk w6 (w.heap.size + 1 + 1) 54 zeroV ∧ Blk w6 (w.heap.size + 1 + 1 + 1) 4 #[.bool false] ∧ w.grownBy w6 (some g) ∧
    (∀ B, KeepsFrom B X w6) ∧ (∀ Bs v, w.heap.size + 1 < Bs → Boxed X Bs 43 v → Boxed w6 Bs 43 v) := by
  intro w6
  have hX : w.heap.size + 4 ≤ X.heap.size := by have := hI.bb.lt; omega
  have hb : Below X.heap.size X w4 := hb2.trans (hb4.mono hb2.size)
  have hs4 : w4.heap.size = w6.heap.size := by simp [w6]
  have h2 : w2.heap.size ≤ w4.heap.size := hb4.size
  have hS : ∀ b, (X.heap.size ≤ b ∧ b < w2.heap.size) → But w4 (RB w R) b := fun b h => ⟨by omega, fun e => e.elim (fun e => by have := hrl b e; omega) (fun e => by omega)⟩
  have hq : RB w R (w.heap.size + 1) := .inr ⟨by omega, by omega⟩
  have hne : ∀ b, But w4 (RB w R) b → b ≠ w.heap.size + 1 := fun b h e => h.2 (e ▸ hq)
  have hgl := hrl g hR
  have al := (alike_set6 w4 (w.heap.size + 1) (.int .i64 x1.k) (strV x1.nm) (strV x1.to) (.int .i64 x1.h.pos) (.slice E1 n1 c1) (.slice E2 n2 c2)).mono hne
  have up := but_up (R := RB w R) (Nat.le_of_eq hs4)
  have l0 := hI.bl.lt; have l1 := hI.bq.lt; have l2 := hI.br.lt; have l3 := hI.bb.lt
  refine ⟨?_, ?_, ?_, ?_, ?_, ?_, ?_, ?_, ?_, ?_⟩
  · exact (((hI.row.below hb).mono (but_up hb.size)).set6 (b := w.heap.size + 1) (fun e => by injection e with e; have e : w.heap.size + 1 = g := e; omega) (fun h => hne _ h rfl) _ _ _ _ _ _).mono up
  · exact (((((pg_hi hv hh.1 hh.2.1).to_ (fun b h hl => hb4.block b hl)).mono hS).to_ al).mono up)
  · exact (((((pg_hi gv hh.2.2.1 hh.2.2.2).to_ (fun b h hl => hb4.block b hl)).mono hS).to_ al).mono up)
  · exact blk_set6 (hI.bl.below hb l0) (by omega) _ _ _ _ _ _
  · exact blk6 (hI.bq.below hb l1) _ _ _ _ _ _
  · exact blk_set6 (hI.br.below hb l2) (by omega) _ _ _ _ _ _
  · exact blk_set6 (hI.bb.below hb l3) (by omega) _ _ _ _ _ _
  · exact grow_set6 (grow_below hI.fr hb) (by omega) _ _ _ _ _ _
  · exact fun B => (keepsFrom_below B hb).trans (keeps_set6 _ _ _ _ _ _ _ _ _)
  · exact fun Bs v hB hv => blk_set6 (Blk.below (show Blk X Bs 43 #[v] from hv) hb hv.lt) (by omega) _ _ _ _ _ _

theorem thru_fin {w X w6 : World} {R : Nat → Prop} {base i g n c : Nat} {l : List Ch} {q x p x1 y1 : Ch} {post : List Ch} {D1 D2 : Option Addr} {m1 k1 m2 k2 : Nat} {E1 E2 E3 E4 : Option Addr} {n1 c1 n2 c2 n3 c3 n4 c4 : Nat}
    (hI : ThI w (RB w R) base (.slice (some ⟨g, 0, none⟩) n c) l q (i + 1) x post D1 m1 k1 D2 m2 k2 X) (hR : R g) (hgl : g < w.heap.size) (hx : l[i]? = some p) (hlp : lightP p = true) (hL : (l.take (i + 1) ++ post).length = n) (hs : passP p x = some (x1, y1))
    (h1 : OwnS w6 (But w6 (RB w R)) base (.slice (some ⟨g, 0, none⟩) n c) (l.take (i + 1) ++ post)) (h2 : PG w6 (But w6 (RB w R)) E1 n1 c1 E2 n2 c2 x1) (h3 : PG w6 (But w6 (RB w R)) E3 n3 c3 E4 n4 c4 y1)
    (h4 : Blk w6 w.heap.size 43 #[.slice (some ⟨g, 0, none⟩) n c]) (h5 : Blk w6 (w.heap.size + 1) 54 (cellsV x1 E1 n1 c1 E2 n2 c2)) (h6 : Blk w6 (w.heap.size + 1 + 1) 54 zeroV) (h7 : Blk w6 (w.heap.size + 1 + 1 + 1) 4 #[.bool false]) (h8 : w.grownBy w6 (some g)) :
    let w9 := (World.setCell (World.setCell (World.setCell (World.setCell (World.setCell (World.setCell w6 ⟨g, i * 6, none⟩ (.int .i64 y1.k)) ⟨g, i * 6 + 1, none⟩ (strV y1.nm)) ⟨g, i * 6 + 2, none⟩ (strV y1.to)) ⟨g, i * 6 + 3, none⟩ (.int .i64 y1.h.pos)) ⟨g, i * 6 + 4, none⟩ (.slice E3 n3 c3)) ⟨g, i * 6 + 5, none⟩ (.slice E4 n4 c4))
    ThI w (RB w R) base (.slice (some ⟨g, 0, none⟩) n c) l q i x1 (y1 :: post) E1 n1 c1 E2 n2 c2 w9 ∧ (∀ B, KeepsFrom B w6 w9) ∧ (∀ Bs v, Bs ≠ g → Boxed w6 Bs 43 v → Boxed w9 Bs 43 v) ∧ Cells6 w9 (some ⟨g, 0, none⟩) n := by
  intro w9
  have hs9 : w6.heap.size = w9.heap.size := by simp [w9]
  have hne : ∀ b, But w6 (RB w R) b → b ≠ g := fun b h e => h.2 (.inl (e ▸ hR))
  have up := but_up (R := RB w R) (Nat.le_of_eq hs9)
  have hrow : OwnS w9 (But w9 (RB w R)) base (.slice (some ⟨g, 0, none⟩) n c) (l.take i ++ y1 :: post) := by
    have := (h1.store (k := i) hL (fun h => hne _ h rfl) h3).mono up
    rw [set_mid hx] at this
    exact this
  refine ⟨⟨one_step passP hx hI.eq hs, (passP_lt hs hlp hI.lx).1, hrow, ?_, ?_, ?_, ?_, ?_, ?_⟩, fun B => keeps_row6 _ _ _ _ _ _ _ _ _ _, fun Bs v hB hv => ?_, cells6_own hrow ?_⟩
  · exact (h2.to_ ((alike_row6 w6 g i _ _ _ _ _ _).mono hne)).mono up
  · exact blk_row6 h4 (by omega) i _ _ _ _ _ _
  · exact blk_row6 h5 (by omega) i _ _ _ _ _ _
  · exact blk_row6 h6 (by omega) i _ _ _ _ _ _
  · exact blk_row6 h7 (by omega) i _ _ _ _ _ _
  · exact grow_own6 h8 i _ _ _ _ _ _
  · exact blk_row6 (show Blk w6 Bs 43 #[v] from hv) hB i _ _ _ _ _ _
  · rw [← hL, ← set_mid (y := y1) hx, List.length_set]

theorem thru_put {w W : World} {r : Option Nat} {E : Nat} (hE : w.heap.size + 4 ≤ E) (hK : W.heap[E]? = some (.deferred (some []))) (hg : w.grownBy W r) : w.grownBy (W.putObj E (.deferred none)) r ∧ (∀ b t cs, b < w.heap.size + 4 → Blk W b t cs → Blk (W.putObj E (.deferred none)) b t cs) ∧
    (∀ S base v l, OwnS W S base v l → OwnS (W.putObj E (.deferred none)) S base v l) ∧ (∀ S A n c B m d x, PG W S A n c B m d x → PG (W.putObj E (.deferred none)) S A n c B m d x) ∧ W.heap.size = (W.putObj E (.deferred none)).heap.size := by
  have hp := grownBy_putObj' W E (.deferred none)
  have hr : ∀ r, some E = some r → ∃ o : Obj, W.heap[r]? = some o ∧ o.isCells = false := fun r e => by injection e with e; subst e; exact ⟨_, hK, rfl⟩
  exact ⟨grow_trans hg hp (fun j e => .inl (by injection e with e; omega)), fun b t cs hb h => h.gr hp (fun e => by injection e with e; omega), fun S base v l h => h.plain hp hr, fun S A n c B m d x h => h.kc (keepC_plain hp hr), by simp⟩

theorem thru_done {w W : World} {R : Nat → Prop} {base n c E : Nat} {A : Option Addr} {l : List Ch} {q x : Ch} {post : List Ch} {D1 D2 : Option Addr} {m1 k1 m2 k2 : Nat}
    (hI : ThI w (RB w R) base (.slice A n c) l q 0 x post D1 m1 k1 D2 m2 k2 W) (hr : ∀ g, (Value.slice A n c).ownBlock = some g → R g) (hrl : ∀ b, R b → b < w.heap.size) (hE : w.heap.size + 4 ≤ E) (hK : W.heap[E]? = some (.deferred (some []))) :
    let W9 := (World.setCell (World.setCell (World.setCell (World.setCell (World.setCell (World.setCell W ⟨w.heap.size + 1 + 1, 0, none⟩ (.int .i64 x.k)) ⟨w.heap.size + 1 + 1, 1, none⟩ (strV x.nm)) ⟨w.heap.size + 1 + 1, 2, none⟩ (strV x.to)) ⟨w.heap.size + 1 + 1, 3, none⟩ (.int .i64 x.h.pos)) ⟨w.heap.size + 1 + 1, 4, none⟩ (.slice D1 m1 k1)) ⟨w.heap.size + 1 + 1, 5, none⟩ (.slice D2 m2 k2)).setCell ⟨w.heap.size + 1 + 1 + 1, 0, none⟩ (.bool true)
    W9.heap[E]? = some (.deferred (some [])) ∧ Blk (W9.putObj E (.deferred none)) (w.heap.size + 1 + 1) 54 (cellsV x D1 m1 k1 D2 m2 k2) ∧ Blk (W9.putObj E (.deferred none)) (w.heap.size + 1 + 1 + 1) 4 #[.bool true] ∧
      OwnS (W9.putObj E (.deferred none)) (But (W9.putObj E (.deferred none)) R) base (.slice A n c) post ∧ PG (W9.putObj E (.deferred none)) (But (W9.putObj E (.deferred none)) R) D1 m1 k1 D2 m2 k2 x ∧ w.grownBy (W9.putObj E (.deferred none)) (Value.slice A n c).ownBlock := by
  intro W9
  have hsz : W.heap.size = W9.heap.size := by simp [W9]
  have hne : ∀ b, But W (RB w R) b → b ≠ w.heap.size + 1 + 1 := fun b h e => h.2 (.inr (by omega))
  have hne' : ∀ b, But W (RB w R) b → b ≠ w.heap.size + 1 + 1 + 1 := fun b h e => h.2 (.inr (by omega))
  have hv : ∀ b, w.heap.size ≤ b → some b ≠ (Value.slice A n c).ownBlock := fun b hb e => by have := hrl b (hr b e.symm); omega
  have k9 : W9.heap[E]? = some (.deferred (some [])) := ((keeps_set6 W E (w.heap.size + 1 + 1) _ _ _ _ _ _).trans ((KeepsOthers.setCell _ _ _).from E)).same E _ (Nat.le_refl _) hK rfl
  have g9 : w.grownBy W9 (Value.slice A n c).ownBlock := grow_set (grow_set6 hI.fr (by omega) _ _ _ _ _ _) (by omega) 0 _
  obtain ⟨p1, p2, p3, p4, p5⟩ := thru_put hE k9 g9
  have up : ∀ b, But W (RB w R) b → But (W9.putObj E (.deferred none)) R b := fun b h => ⟨by have := h.1; omega, fun e => h.2 (.inl e)⟩
  have hrow := hI.row
  rw [List.take_zero, List.nil_append] at hrow
  refine ⟨k9, p2 _ _ _ (by omega) ?_, p2 _ _ _ (by omega) ?_, (p3 _ _ _ _ ?_).mono up, (p4 _ _ _ _ _ _ _ _ ?_).mono up, p1⟩
  · exact (blk6 hI.br _ _ _ _ _ _).set_ne (by omega) 0 _
  · exact (blk_set6 hI.bb (g := w.heap.size + 1 + 1) (by omega) _ _ _ _ _ _).set 0 (.bool true)
  · exact (hrow.set6 (hv _ (by omega)) (fun h => hne _ h rfl) _ _ _ _ _ _).set (hv _ (by omega)) (fun h => hne' _ h rfl) 0 _
  · exact (hI.pg.to_ ((alike_set6 W _ _ _ _ _ _ _).mono hne)).to_ ((alike_set _ _ _ _).mono hne')

/-- The memory in which the range begins. -/
theorem thru_start {w : World} {R : Nat → Prop} {base n c : Nat} {A : Option Addr} {l : List Ch} {D : Option Addr} {m k : Nat} {D' : Option Addr} {m' k' : Nat} {q : Ch} (h : ThN w R base n c A l D m k D' m' k' q) :
    let w5 := ((((w.alloc (.cells #[.slice A n c] 43)).alloc (.cells (cellsV q D m k D' m' k') 54)).alloc (.cells zeroV 54)).alloc (.cells #[.bool false] 4)).alloc (.cells #[.slice A n c] 43)
    ThJ w (RB w R) base (.slice A n c) l q n [] w5 ∧ Boxed w5 (w.heap.size + 1 + 1 + 1 + 1) 43 (.slice A n c) ∧ w5.heap.size = w.heap.size + 5 ∧ Cells6 w5 A n := by
  intro w5
  have hw : Below w.heap.size w w5 := (((((Below.refl _ _).alloc (Nat.le_refl _) _).alloc (by simp) _).alloc (by simp; omega) _).alloc (by simp; omega) _).alloc (by simp; omega) _
  have hsz : w5.heap.size = w.heap.size + 5 := by simp [w5]
  have hg : w.grownBy w5 none := grow_trans (grow_trans (grow_trans (grow_trans (World.grownBy_alloc w _ none) (World.grownBy_alloc _ _ none) (by simp)) (World.grownBy_alloc _ _ none) (by simp)) (World.grownBy_alloc _ _ none) (by simp)) (World.grownBy_alloc _ _ none) (by simp)
  have b0 := ((((Blk.new w 43 #[.slice A n c]).alloc (.cells (cellsV q D m k D' m' k') 54)).alloc (.cells zeroV 54)).alloc (.cells #[.bool false] 4)).alloc (.cells #[.slice A n c] 43)
  have b1 := (((Blk.new (w.alloc (.cells #[.slice A n c] 43)) 54 (cellsV q D m k D' m' k')).alloc (.cells zeroV 54)).alloc (.cells #[.bool false] 4)).alloc (.cells #[.slice A n c] 43)
  have b2 := ((Blk.new ((w.alloc (.cells #[.slice A n c] 43)).alloc (.cells (cellsV q D m k D' m' k') 54)) 54 zeroV).alloc (.cells #[.bool false] 4)).alloc (.cells #[.slice A n c] 43)
  have b3 := (Blk.new (((w.alloc (.cells #[.slice A n c] 43)).alloc (.cells (cellsV q D m k D' m' k') 54)).alloc (.cells zeroV 54)) 4 #[.bool false]).alloc (.cells #[.slice A n c] 43)
  have b4 := Boxed.new ((((w.alloc (.cells #[.slice A n c] 43)).alloc (.cells (cellsV q D m k D' m' k') 54)).alloc (.cells zeroV 54)).alloc (.cells #[.bool false] 4)) 43 (.slice A n c)
  simp only [World.size_alloc] at b1 b2 b3 b4
  have hs : ∀ b, But w R b → But w5 (RB w R) b := fun b hb => ⟨by have := hb.1; omega, fun e => e.elim hb.2 fun e => by have := hb.1; omega⟩
  have hrow : OwnS w5 (But w5 (RB w R)) base (.slice A n c) l := (h.row.below hw).mono hs
  refine ⟨⟨q, [], D, m, k, D', m', k', ?_, h.lq, ?_, (h.pg.to_ (fun b hb hl => hw.block b hl)).mono hs, b0, b1, b2, b3, ?_⟩, b4, hsz, cells6_own hrow h.len⟩
  · rw [List.length_nil, Nat.sub_zero, List.drop_of_length_le (by rw [h.len]; exact Nat.le_refl _)]; rfl
  · rw [List.length_nil, Nat.sub_zero, List.take_of_length_le (by rw [h.len]; exact Nat.le_refl _), List.append_nil]; exact hrow
  · exact ⟨hg.os, hg.tape, hg.output, hg.size, fun k hk _ => hg.block k hk (by simp)⟩

set_option maxRecDepth 100000 in
set_option maxHeartbeats 4000000 in
theorem throughL (R : Nat → Prop) (base n c : Nat) (A : Option Addr) (l : List Ch) (D : Option Addr) (m k : Nat) (D' : Option Addr) (m' k' : Nat) (q : Ch) (w : World) (hle : n ≤ 1000) (h : ThN w R base n c A l D m k D' m' k' q) :
    Calls Try.prog 65 #[.slice A n c, prV q.k q.nm q.to q.h.pos D m k D' m' k'] w (ThruEnd w R base (.slice A n c) (one passP l q)) := by
  have H := Lib.hid h
  clear h
  refine (callsIn_wide (n := 4)).1 ?_
  refine callsIn_of_wp_marks Try.func65 rfl trivial ?_ rfl
  simp only [Try.ntmps65, List.size_toArray, List.length_cons, List.length_nil, Nat.reduceAdd, Nat.reduceSub, Array.replicate_succ, Array.replicate_zero, List.push_toArray, List.append_toArray, List.nil_append, List.cons_append]
  gi_wp2_with fail
  refine ⟨trivial, ?_⟩
  refine (backL_in 3 A n c _).mono ?_
  rintro e w' ⟨rfl, rfl⟩
  gi_wp2
  have hst := thru_start H.out
  dsimp only [cellsV, zeroV] at hst
  generalize (((((w.alloc (.cells #[.slice A n c] 43)).alloc (.cells #[.int .i64 q.k, strV q.nm, strV q.to, .int .i64 q.h.pos, .slice D m k, .slice D' m' k'] 54)).alloc (.cells #[.int .i64 0, .string ⟨#[]⟩, .string ⟨#[]⟩, .int .i64 0, .slice none 0 0, .slice none 0 0] 54)).alloc (.cells #[.bool false] 4)).alloc (.cells #[.slice A n c] 43)) = w5 at hst ⊢
  obtain ⟨hst, hbs, hsz, hc6⟩ := hst
  refine range_law (n := 4) (gf := 85) (lb := #[.pointer (some ⟨w.heap.size + 1 + 1 + 1 + 1, 0, none⟩)]) rfl (enters_of Try.func85 (by kernel_rfl) rfl) (Free := Plain) (fun _ h => h)
    (backL_gives 3 (w.heap.size + 1 + 1 + 1 + 1) c n A (by omega) w5 hbs hc6) kpL_t (kpL_b (by rw [hsz]; omega)) (fun x vals W h => by obtain ⟨_, _, _, _, _, _, _, _, _, rfl, _⟩ := h; rfl)
    (ThJ w (RB w R) base (.slice A n c) l q n) (ThX w (.slice A n c) l q) (thJ_ab (by rw [hsz]; omega)) (thX_ab (by rw [hsz]; omega)) hst
    (fun i a' X => ∃ b v0 v1 v2 v3 v4 v5, a' = { tmps := #[.slice A n c, prV q.k q.nm q.to q.h.pos D m k D' m' k', .pointer (some ⟨w.heap.size, 0, none⟩), .pointer (some ⟨w.heap.size + 1, 0, none⟩), .pointer (some ⟨w.heap.size + 1 + 1, 0, none⟩), .pointer (some ⟨w.heap.size + 1 + 1 + 1, 0, none⟩), .int .i64 (i : Int), .pointer (some ⟨b, 0, none⟩), undef, undef, undef, .slice A n c, .func (.func 85) #[] #[.pointer (some ⟨w.heap.size + 1 + 1 + 1 + 1, 0, none⟩)], .int .i64 (i : Int), .agg #[v0, v1, v2, v3, v4, v5], undef, undef, undef, undef, undef, undef, undef, undef, undef, undef, undef, undef, undef, undef, undef, undef], defers := [] } ∧ EL n A i #[.int .i64 (i : Int), .agg #[v0, v1, v2, v3, v4, v5]] X ∧ Blk X b 54 #[v0, v1, v2, v3, v4, v5])
    (fun i a' => ab_ex fun b => ab_ex fun v0 => ab_ex fun v1 => ab_ex fun v2 => ab_ex fun v3 => ab_ex fun v4 => ab_ex fun v5 => Ab.and (ab_pure _ _ _) (Ab.and ab_EL (ab_blk fun _ => _))) ?assign ?body ?done ?stop
  case assign =>
    rintro y pre i vals X K hi hEL hK
    obtain ⟨x, post, D1, m1, k1, D2, m2, k2, hI⟩ := id hi
    obtain ⟨p, g, B, r, s, B', r', s', rfl, hp, rfl, hpg, hbg, hgl⟩ := hEL.row hI.row (hI.rowlen H.out.len (by omega))
    clear hI hp hpg hbg hgl
    gi_wp2
    exact hK _ _ ((KeepsOthers.alloc X _).from _) (kpL_new (World.grownBy_alloc X _ none)) ((thJ_ab (Nat.le_refl _)).alloc _ hi) ⟨_, _, _, _, _, _, _, rfl, ab_EL.alloc (s := ()) (B := 0) _ hEL, Blk.new _ _ _⟩
  case body =>
    rintro y pre pst i a' X hfull hI ⟨b, v0, v1, v2, v3, v4, v5, rfl, hEL, hb⟩
    have hi := dn_split hfull
    clear hfull
    obtain ⟨x, post, D1, m1, k1, D2, m2, k2, hI⟩ := hI
    rw [show n - pre.length = i + 1 by omega] at hI
    have hL := hI.rowlen H.out.len (by omega)
    obtain ⟨p, g, B, r, s, B', r', s', rfl, hp, hv, hpg, hbg, hgl⟩ := hEL.row hI.row hL
    obtain ⟨rfl, rfl, rfl, rfl, rfl, rfl⟩ := vals_eq hv
    have hpl := mid_at (by rw [H.out.len]; omega) hp
    have HLP := Lib.hid (H.out.lt p (List.mem_of_getElem? hpl))
    have HPL := Lib.hid hpl; have HI := Lib.hid hI; have HL := Lib.hid hL; have HPG := Lib.hid hpg; have HG := Lib.hid (And.intro hbg hgl); have HB := Lib.hid hb
    clear hpl hL hpg hp hv hEL hbg
    obtain ⟨x1, y1, ho⟩ : ∃ x1 y1, outP (passP p x) = (x1, y1) := ⟨_, _, rfl⟩
    obtain ⟨bo, hbo⟩ : ∃ bo, (passP p x).isSome = bo := ⟨_, rfl⟩
    have HO := Lib.hid ho; have HBO := Lib.hid hbo
    clear ho hbo
    have PC := Lib.hid (PassPH B r s B' r' s' D1 m1 k1 D2 m2 k2 p x x1 y1 X bo (lt_len HPG.out HLP.out) (lt_len HI.out.pg HI.out.lx) (HPG.out.mono but_lt).pv (HI.out.pg.mono but_lt).pv HO.out HBO.out)
    have x0 := hb.cell 0 rfl; have x1' := hb.cell 1 rfl; have x2 := hb.cell 2 rfl; have x3 := hb.cell 3 rfl; have x4 := hb.cell 4 rfl; have x5 := hb.cell 5 rfl
    have hbq := hI.bq
    have q0 := hbq.cell 0 (u := .int .i64 x.k) rfl; have q1 := hbq.cell 1 (u := strV x.nm) rfl; have q2 := hbq.cell 2 (u := strV x.to) rfl; have q3 := hbq.cell 3 (u := .int .i64 x.h.pos) rfl; have q4 := hbq.cell 4 (u := .slice D1 m1 k1) rfl; have q5 := hbq.cell 5 (u := .slice D2 m2 k2) rfl
    clear hI hb hbq
    gi_wp2_with fail
    refine ⟨trivial, CallsIn.inRound y (callsIn_wide.2 (PC.out.mono ?_))⟩
    rintro e w2 ⟨E1, n1, c1, E2, n2, c2, E3, n3, c3, E4, n4, c4, rfl, pv1, pv2, hl1, hl2, hh, hb2⟩
    clear x0 x1' x2 x3 x4 x5 q0 q1 q2 q3 q4 q5 PC
    have hbl := HI.out.bl; have hbq := HI.out.bq; have hbr := HI.out.br; have hbb := HI.out.bb
    replace hbl := hbl.below hb2 hbl.lt; replace hbq := hbq.below hb2 hbq.lt; replace hbr := hbr.below hb2 hbr.lt; replace hbb := hbb.below hb2 hbb.lt
    have HBL := Lib.hid hbl; have HBQ := Lib.hid hbq; have HBR := Lib.hid hbr; have HBB := Lib.hid hbb; have HB2 := Lib.hid hb2
    have HPV1 := Lib.hid pv1; have HPV2 := Lib.hid pv2; have HH := Lib.hid hh; have HL1 := Lib.hid hl1
    clear pv1 pv2 hh hl1 hl2 hb2
    cases bo with
    | false =>
      have r0 := hbr.cell 0 (u := .int .i64 0) rfl; have r1 := hbr.cell 1 (u := .string ⟨#[]⟩) rfl; have r2 := hbr.cell 2 (u := .string ⟨#[]⟩) rfl; have r3 := hbr.cell 3 (u := .int .i64 0) rfl; have r4 := hbr.cell 4 (u := .slice none 0 0) rfl; have r5 := hbr.cell 5 (u := .slice none 0 0) rfl
      have f0 := hbr.frozen 0; have f1 := hbr.frozen 1; have f2 := hbr.frozen 2; have f3 := hbr.frozen 3; have f4 := hbr.frozen 4; have f5 := hbr.frozen 5
      have s0 := hbb.cell 0 (u := .bool false) rfl; have g0 := hbb.frozen 0
      have hlt0 := hbl.lt; have hlt1 := hbq.lt; have hlt := hbr.lt; have hlt2 := hbb.lt
      clear hbl hbq hbr hbb
      gi_wp2_with fail
      have HNN := Lib.hid (none_ofP HBO.out)
      clear r0 r1 r2 r3 r4 r5 f0 f1 f2 f3 f4 f5 s0 g0 hlt0 hlt1 hlt hlt2
      exact thru_no HI.out HB2.out HPL.out HNN.out _ _
    | true =>
      clear hbl hbq hbr hbb
      gi_wp2_with fail
      have HSM := Lib.hid (outP_of HO.out HBO.out)
      have b3 := (Blk.new w2 54 (cellsV x1 E1 n1 c1 E2 n2 c2)).alloc (.cells (cellsV y1 E3 n3 c3 E4 n4 c4) 54)
      have b4 := Blk.new (w2.alloc (.cells (cellsV x1 E1 n1 c1 E2 n2 c2) 54)) 54 (cellsV y1 E3 n3 c3 E4 n4 c4)
      have hb4 : Below w2.heap.size w2 ((w2.alloc (.cells (cellsV x1 E1 n1 c1 E2 n2 c2) 54)).alloc (.cells (cellsV y1 E3 n3 c3 E4 n4 c4) 54)) := two_box _ _ _
      simp only [World.size_alloc] at b4
      dsimp only [cellsV] at b3 b4 hb4
      generalize ((w2.alloc (.cells #[.int .i64 x1.k, strV x1.nm, strV x1.to, .int .i64 x1.h.pos, .slice E1 n1 c1, .slice E2 n2 c2] 54)).alloc (.cells #[.int .i64 y1.k, strV y1.nm, strV y1.to, .int .i64 y1.h.pos, .slice E3 n3 c3, .slice E4 n4 c4] 54)) = w4 at b3 b4 hb4 ⊢
      have hw4 := hb4.size
      generalize hz2 : w2.heap.size = z2 at b3 b4 hw4 ⊢
      have hz0 : w.heap.size + 1 < z2 := by rw [← hz2]; exact HBQ.out.lt
      have HB4 := Lib.hid hb4
      have k4 := HBL.out.below hb4 HBL.out.lt; have qb := HBQ.out.below hb4 HBQ.out.lt
      have HSB : Hid (∀ Y, Blk Y w.heap.size 43 #[.slice (some ⟨g, 0, none⟩) n c] → Blk Y z2 54 (cellsV x1 E1 n1 c1 E2 n2 c2) → Blk Y (z2 + 1) 54 (cellsV y1 E3 n3 c3 E4 n4 c4) → Y.cell? ⟨w.heap.size, 0, none⟩ = some (.slice (some ⟨g, 0, none⟩) n c) ∧ Y.cell? ⟨z2, 0, none⟩ = some (.int .i64 x1.k) ∧ Y.cell? ⟨z2, 1, none⟩ = some (strV x1.nm) ∧ Y.cell? ⟨z2, 2, none⟩ = some (strV x1.to) ∧ Y.cell? ⟨z2, 3, none⟩ = some (.int .i64 x1.h.pos) ∧ Y.cell? ⟨z2, 4, none⟩ = some (.slice E1 n1 c1) ∧ Y.cell? ⟨z2, 5, none⟩ = some (.slice E2 n2 c2) ∧ Y.cell? ⟨z2 + 1, 0, none⟩ = some (.int .i64 y1.k) ∧ Y.cell? ⟨z2 + 1, 1, none⟩ = some (strV y1.nm) ∧ Y.cell? ⟨z2 + 1, 2, none⟩ = some (strV y1.to) ∧ Y.cell? ⟨z2 + 1, 3, none⟩ = some (.int .i64 y1.h.pos) ∧ Y.cell? ⟨z2 + 1, 4, none⟩ = some (.slice E3 n3 c3) ∧ Y.cell? ⟨z2 + 1, 5, none⟩ = some (.slice E4 n4 c4)) := Lib.hid (fun Y h1 h2 h3 => ⟨h1.cell 0 rfl, h2.cell 0 rfl, h2.cell 1 rfl, h2.cell 2 rfl, h2.cell 3 rfl, h2.cell 4 rfl, h2.cell 5 rfl, h3.cell 0 rfl, h3.cell 1 rfl, h3.cell 2 rfl, h3.cell 3 rfl, h3.cell 4 rfl, h3.cell 5 rfl⟩)
      have MID := Lib.hid (thru_mid (w4 := w4) HI.out (H.out.r g rfl) H.out.rl HB2.out hb4 HPV1.out HPV2.out HH.out)
      have HK6 := Lib.hid (blk_set6 k4 (g := w.heap.size + 1) (by omega) (.int .i64 x1.k) (strV x1.nm) (strV x1.to) (.int .i64 x1.h.pos) (.slice E1 n1 c1) (.slice E2 n2 c2))
      have HX6 := Lib.hid (blk_set6 b3 (g := w.heap.size + 1) (by omega) (.int .i64 x1.k) (strV x1.nm) (strV x1.to) (.int .i64 x1.h.pos) (.slice E1 n1 c1) (.slice E2 n2 c2))
      have HY6 := Lib.hid (blk_set6 b4 (g := w.heap.size + 1) (by omega) (.int .i64 x1.k) (strV x1.nm) (strV x1.to) (.int .i64 x1.h.pos) (.slice E1 n1 c1) (.slice E2 n2 c2))
      obtain ⟨k0, e0, e1, e2, e3, e4, e5, yy0, yy1, yy2, yy3, yy4, yy5⟩ := HSB.out w4 k4 b3 b4
      have q0 := qb.cell 0 (u := .int .i64 x.k) rfl; have q1 := qb.cell 1 (u := strV x.nm) rfl; have q2 := qb.cell 2 (u := strV x.to) rfl; have q3 := qb.cell 3 (u := .int .i64 x.h.pos) rfl; have q4 := qb.cell 4 (u := .slice D1 m1 k1) rfl; have q5 := qb.cell 5 (u := .slice D2 m2 k2) rfl
      have f0 := qb.frozen 0; have f1 := qb.frozen 1; have f2 := qb.frozen 2; have f3 := qb.frozen 3; have f4 := qb.frozen 4; have f5 := qb.frozen 5
      have hgz : g < w.heap.size := H.out.rl g (H.out.r g rfl)
      have HGZ := Lib.hid hgz
      have hin : (i : Int) < (n : Int) := by omega
      clear k4 b3 b4 hb4 qb
      refine round_held (S := fun Y : World => Y.cell? ⟨w.heap.size, 0, none⟩ = some (.slice (some ⟨g, 0, none⟩) n c) ∧ Y.cell? ⟨z2, 0, none⟩ = some (.int .i64 x1.k) ∧ Y.cell? ⟨z2, 1, none⟩ = some (strV x1.nm) ∧ Y.cell? ⟨z2, 2, none⟩ = some (strV x1.to) ∧ Y.cell? ⟨z2, 3, none⟩ = some (.int .i64 x1.h.pos) ∧ Y.cell? ⟨z2, 4, none⟩ = some (.slice E1 n1 c1) ∧ Y.cell? ⟨z2, 5, none⟩ = some (.slice E2 n2 c2) ∧ Y.cell? ⟨z2 + 1, 0, none⟩ = some (.int .i64 y1.k) ∧ Y.cell? ⟨z2 + 1, 1, none⟩ = some (strV y1.nm) ∧ Y.cell? ⟨z2 + 1, 2, none⟩ = some (strV y1.to) ∧ Y.cell? ⟨z2 + 1, 3, none⟩ = some (.int .i64 y1.h.pos) ∧ Y.cell? ⟨z2 + 1, 4, none⟩ = some (.slice E3 n3 c3) ∧ Y.cell? ⟨z2 + 1, 5, none⟩ = some (.slice E4 n4 c4)) (by kernel_rfl) (by kernel_rfl) ?hq ?hS (fun hS0 => ?_)
      case hq => rintro ⟨_, _, h⟩; exact h
      case hS => exact ⟨k0, e0, e1, e2, e3, e4, e5, yy0, yy1, yy2, yy3, yy4, yy5⟩
      refine wpAnyH_take (i := 0) (v := ?_) rfl (by kernel_rfl) (by kernel_rfl) (by kernel_rfl) (fun _ _ _ h => h) (Or.inl ⟨by rfl, ?_⟩) hS0 ?_
      rotate_left
      · intro Y hY
        obtain ⟨s0, s1, s2, s3, s4, s5, s6, s7, s8, s9, s10, s11, s12⟩ := hY
        go_simp
        try with_reducible rfl
      simp only [Act.put, List.getElem_toArray, List.getElem_cons_succ, List.getElem_cons_zero, List.setIfInBounds_toArray, List.set_cons_succ, List.set_cons_zero]
      refine wpAnyH_take (i := 1) (v := ?_) rfl (by kernel_rfl) (by kernel_rfl) (by kernel_rfl) (fun _ _ _ h => h) (Or.inl ⟨by rfl, ?_⟩) hS0 ?_
      rotate_left
      · intro Y hY
        obtain ⟨s0, s1, s2, s3, s4, s5, s6, s7, s8, s9, s10, s11, s12⟩ := hY
        go_simp
        try with_reducible rfl
      simp only [Act.put, List.getElem_toArray, List.getElem_cons_succ, List.getElem_cons_zero, List.setIfInBounds_toArray, List.set_cons_succ, List.set_cons_zero]
      refine wpAnyH_take (i := 2) (v := ?_) rfl (by kernel_rfl) (by kernel_rfl) (by kernel_rfl) (fun _ _ _ h => h) (Or.inl ⟨by rfl, ?_⟩) hS0 ?_
      rotate_left
      · intro Y hY
        obtain ⟨s0, s1, s2, s3, s4, s5, s6, s7, s8, s9, s10, s11, s12⟩ := hY
        go_simp
        try with_reducible rfl
      simp only [Act.put, List.getElem_toArray, List.getElem_cons_succ, List.getElem_cons_zero, List.setIfInBounds_toArray, List.set_cons_succ, List.set_cons_zero]
      refine wpAnyH_take (i := 3) (v := ?_) rfl (by kernel_rfl) (by kernel_rfl) (by kernel_rfl) (fun _ _ _ h => h) (Or.inl ⟨by rfl, ?_⟩) hS0 ?_
      rotate_left
      · intro Y hY
        obtain ⟨s0, s1, s2, s3, s4, s5, s6, s7, s8, s9, s10, s11, s12⟩ := hY
        go_simp
        try with_reducible rfl
      simp only [Act.put, List.getElem_toArray, List.getElem_cons_succ, List.getElem_cons_zero, List.setIfInBounds_toArray, List.set_cons_succ, List.set_cons_zero]
      refine wpAnyH_ready (rs := [4]) (by kernel_rfl) (by simp) ?_
      refine AllReadyH.cons rfl (fun K1 hK => ?_) AllReadyH.nil
      go_simp
      clear hS0 k0 e0 e1 e2 e3 e4 e5 yy0 yy1 yy2 yy3 yy4 yy5 q0 q1 q2 q3 q4 q5 f0 f1 f2 f3 f4 f5
      obtain ⟨a1, a2, a3, a4, a5, a6, a7, a8, a9, a10⟩ := MID.out
      clear MID
      generalize (World.setCell (World.setCell (World.setCell (World.setCell (World.setCell (World.setCell w4 ⟨w.heap.size + 1, 0, none⟩ (.int .i64 x1.k)) ⟨w.heap.size + 1, 1, none⟩ (strV x1.nm)) ⟨w.heap.size + 1, 2, none⟩ (strV x1.to)) ⟨w.heap.size + 1, 3, none⟩ (.int .i64 x1.h.pos)) ⟨w.heap.size + 1, 4, none⟩ (.slice E1 n1 c1)) ⟨w.heap.size + 1, 5, none⟩ (.slice E2 n2 c2)) = w6 at *
      refine hK.out _ _ (HSB.out w6.drew (HK6.out.drewN 1) (HX6.out.drewN 1) (HY6.out.drewN 1)) (fun hS1 => ?_)
      clear hK K1
      obtain ⟨_, _, _, _, _, _, c0, c1', c2', c3', c4', c5', cf, _⟩ := a1.elem HL.out (at_mid HPL.out)
      have f0 := cf (i * 6); have f1 := cf (i * 6 + 1); have f2 := cf (i * 6 + 2); have f3 := cf (i * 6 + 3); have f4 := cf (i * 6 + 4); have f5 := cf (i * 6 + 5)
      have HF := Lib.hid (thru_fin HI.out (H.out.r g rfl) HGZ.out HPL.out HLP.out HL.out HSM.out a1 a2 a3 a4 a5 a6 a7 a8)
      have HA := Lib.hid (And.intro a9 a10)
      have HZ := Lib.hid hz0
      clear a1 a2 a3 a4 a5 a6 a7 a8 a9 a10 cf
      refine wpAnyH_take (i := 5) (v := ?_) rfl (by kernel_rfl) (by kernel_rfl) (by kernel_rfl) (fun _ _ _ h => h) (Or.inl ⟨by rfl, ?_⟩) hS1 ?_
      rotate_left
      · intro Y hY
        obtain ⟨s0, s1, s2, s3, s4, s5, s6, s7, s8, s9, s10, s11, s12⟩ := hY
        go_simp
        try with_reducible rfl
      simp only [Act.put, List.getElem_toArray, List.getElem_cons_succ, List.getElem_cons_zero, List.setIfInBounds_toArray, List.set_cons_succ, List.set_cons_zero]
      refine wpAnyH_ready (rs := [6]) (by kernel_rfl) (by simp) ?_
      refine AllReadyH.cons rfl (fun K1 hK => ?_) AllReadyH.nil
      go_simp
      obtain ⟨t1, t2, t3, t4⟩ := HF.out
      have hk9 := blk_row6 HK6.out (g := g) (by omega) i (.int .i64 y1.k) (strV y1.nm) (strV y1.to) (.int .i64 y1.h.pos) (.slice E3 n3 c3) (.slice E4 n4 c4)
      have hx9 := blk_row6 HX6.out (g := g) (by omega) i (.int .i64 y1.k) (strV y1.nm) (strV y1.to) (.int .i64 y1.h.pos) (.slice E3 n3 c3) (.slice E4 n4 c4)
      have hy9 := blk_row6 HY6.out (g := g) (by omega) i (.int .i64 y1.k) (strV y1.nm) (strV y1.to) (.int .i64 y1.h.pos) (.slice E3 n3 c3) (.slice E4 n4 c4)
      clear HF c0 c1' c2' c3' c4' c5' f0 f1 f2 f3 f4 f5
      generalize (World.setCell (World.setCell (World.setCell (World.setCell (World.setCell (World.setCell w6 ⟨g, i * 6, none⟩ (.int .i64 y1.k)) ⟨g, i * 6 + 1, none⟩ (strV y1.nm)) ⟨g, i * 6 + 2, none⟩ (strV y1.to)) ⟨g, i * 6 + 3, none⟩ (.int .i64 y1.h.pos)) ⟨g, i * 6 + 4, none⟩ (.slice E3 n3 c3)) ⟨g, i * 6 + 5, none⟩ (.slice E4 n4 c4)) = w9 at *
      refine hK.out _ _ (HSB.out w9.drew (hk9.drewN 1) (hx9.drewN 1) (hy9.drewN 1)) (fun _ => wpAnyH_done (by kernel_rfl) ?_ _)
      clear hK K1 hS1
      have hj : n - (pre ++ [i]).length = i := by rw [List.length_append, List.length_singleton]; omega
      have hd : Below w9.heap.size w9 w9.drew := below_drewN (Below.refl _ _) 1
      refine ⟨((HA.out.1 _).trans (t2 _)).trans (keepsFrom_below _ hd), ⟨fun v hv => t3 _ v (by omega) (HA.out.2 _ v (by omega) hv), fun _ => cells6_below t4 hd⟩, x1, y1 :: post, E1, n1, c1, E2, n2, c2, ?_⟩
      rw [hj]
      exact t1.mv hd
  case done =>
    rintro E W hE hI hK
    obtain ⟨x, post, D1, m1, k1, D2, m2, k2, hI⟩ := hI
    rw [dn_length, Nat.sub_self] at hI
    have q0 := hI.bq.cell 0 (u := .int .i64 x.k) rfl; have q1 := hI.bq.cell 1 (u := strV x.nm) rfl; have q2 := hI.bq.cell 2 (u := strV x.to) rfl; have q3 := hI.bq.cell 3 (u := .int .i64 x.h.pos) rfl; have q4 := hI.bq.cell 4 (u := .slice D1 m1 k1) rfl; have q5 := hI.bq.cell 5 (u := .slice D2 m2 k2) rfl
    have r0 := hI.br.cell 0 (u := .int .i64 0) rfl; have r1 := hI.br.cell 1 (u := .string ⟨#[]⟩) rfl; have r2 := hI.br.cell 2 (u := .string ⟨#[]⟩) rfl; have r3 := hI.br.cell 3 (u := .int .i64 0) rfl; have r4 := hI.br.cell 4 (u := .slice none 0 0) rfl; have r5 := hI.br.cell 5 (u := .slice none 0 0) rfl
    have f0 := hI.br.frozen 0; have f1 := hI.br.frozen 1; have f2 := hI.br.frozen 2; have f3 := hI.br.frozen 3; have f4 := hI.br.frozen 4; have f5 := hI.br.frozen 5
    have s0 := hI.bb.cell 0 (u := .bool false) rfl; have g0 := hI.bb.frozen 0
    have HI := Lib.hid hI
    have HD := Lib.hid (thru_done hI H.out.r H.out.rl (by omega) hK)
    clear hI
    gi_wp2
    obtain ⟨d1, d2, d3, d4, d5, d6⟩ := HD.out
    refine ⟨by simp, .inl ⟨_, _, rfl, run_takeDeferred d1, ?_⟩⟩
    clear d1 hK q0 q1 q2 q3 q4 q5 r0 r1 r2 r3 r4 r5 f0 f1 f2 f3 f4 f5 s0 g0
    generalize (World.putObj ((World.setCell (World.setCell (World.setCell (World.setCell (World.setCell (World.setCell W ⟨w.heap.size + 1 + 1, 0, none⟩ (.int .i64 x.k)) ⟨w.heap.size + 1 + 1, 1, none⟩ (strV x.nm)) ⟨w.heap.size + 1 + 1, 2, none⟩ (strV x.to)) ⟨w.heap.size + 1 + 1, 3, none⟩ (.int .i64 x.h.pos)) ⟨w.heap.size + 1 + 1, 4, none⟩ (.slice D1 m1 k1)) ⟨w.heap.size + 1 + 1, 5, none⟩ (.slice D2 m2 k2)).setCell ⟨w.heap.size + 1 + 1 + 1, 0, none⟩ (.bool true)) E (.deferred none)) = W9 at *
    have z0 := d3.cell 0 (u := .bool true) rfl
    have u0 := d2.cell 0 (u := .int .i64 x.k) rfl; have u1 := d2.cell 1 (u := strV x.nm) rfl; have u2 := d2.cell 2 (u := strV x.to) rfl; have u3 := d2.cell 3 (u := .int .i64 x.h.pos) rfl; have u4 := d2.cell 4 (u := .slice D1 m1 k1) rfl; have u5 := d2.cell 5 (u := .slice D2 m2 k2) rfl
    refine ⟨.tuple #[.agg #[.int .i64 x.k, strV x.nm, strV x.to, .int .i64 x.h.pos, .slice D1 m1 k1, .slice D2 m2 k2], .bool true], by simp [results, Try.results65, go_sem, z0, u0, u1, u2, u3, u4, u5], fun z hz => ?_, fun hn => ?_, d6⟩
    · have he := HI.out.eq
      rw [List.drop_zero] at he
      have hz' := Option.some.inj (hz.symm.trans he)
      subst hz'
      exact ⟨D1, m1, k1, D2, m2, k2, rfl, d4, d5⟩
    · have he := HI.out.eq
      rw [List.drop_zero] at he
      rw [he] at hn
      cases hn
  case stop =>
    rintro E c' pre post W hE hpp ⟨rfl, ho, b2, b3, fr⟩ hK
    gi_wp2
    refine ⟨by simp, .inl ⟨_, _, rfl, run_takeDeferred hK, ?_⟩⟩
    obtain ⟨p1, p2, _, _, _⟩ := thru_put (by omega) hK fr
    have d2 := p2 _ _ _ (by omega) b2
    have d3 := p2 _ _ _ (by omega) b3
    clear hK b2 b3 fr p2
    generalize (World.putObj W E (.deferred none)) = W9 at *
    have z0 := d3.cell 0 (u := .bool false) rfl
    have u0 := d2.cell 0 (u := .int .i64 0) rfl; have u1 := d2.cell 1 (u := .string ⟨#[]⟩) rfl; have u2 := d2.cell 2 (u := .string ⟨#[]⟩) rfl; have u3 := d2.cell 3 (u := .int .i64 0) rfl; have u4 := d2.cell 4 (u := .slice none 0 0) rfl; have u5 := d2.cell 5 (u := .slice none 0 0) rfl
    refine ⟨.tuple #[.agg zeroV, .bool false], by simp [results, Try.results65, go_sem, z0, u0, u1, u2, u3, u4, u5], fun z hz => ?_, fun _ => rfl, p1⟩
    rw [ho] at hz
    cases hz

end Fl
end Go.Proofs.Ytdnkinajbebkoaa

set_option maxRecDepth 100000
namespace Go.Proofs.Ytdnkinajbebkoaa
open Go.RowKit
set_option linter.unusedVariables false
namespace Fl
open Tx Df Sq Hk Tr Pr

/-- How a call ends that makes a list of changes in memory that is new. -/
def LPHi (w : World) (l : List Ch) (e : Ending) (w' : World) : Prop := ∃ A c, e = .returned (.slice A l.length c) ∧ l.length ≤ c ∧ RdP w' (fun b => w.heap.size ≤ b ∧ b < w'.heap.size) A l ∧ Below w.heap.size w w'
theorem LPHi.end_ {w w' : World} {l : List Ch} {e : Ending} (h : LPHi w l e w') : LPEnd w l e w' := by
  obtain ⟨A, c, h1, h2, h3, h4⟩ := h
  exact ⟨A, c, h1, h2, h3.mono fun b hb => hb.2, h4⟩
/-- A row of one's own that is new is read as changes. -/
theorem rdP_of_own_hi {W : World} {S : Nat → Prop} {base n c N : Nat} {A : Option Addr} {l : List Ch} (h : OwnS W S base (.slice A n c) l) (hS : ∀ b, S b → N ≤ b ∧ b < W.heap.size) (hN : N ≤ base) (hl : l.length = n) : RdP W (fun b => N ≤ b ∧ b < W.heap.size) A l := by
  have h1 := rdP_of_own h (fun b hb => (hS b hb).2) hl
  by_cases h0 : l = []
  · exact .inl h0
  have hge := ownS_ge h
  obtain ⟨xs, hr, hF⟩ := h
  rcases hr.2 with ⟨_, h2⟩ | ⟨g, cap, cur, e, hbg, hgb, hc, _⟩
  · exact absurd (List.eq_nil_of_length_eq_zero h2) h0
  · injection e with e1 e2 e3
    subst e1
    rcases h1 with h1 | ⟨a, e, h3, h4⟩
    · exact .inl h1
    · injection e with e
      subst e
      refine .inr ⟨_, rfl, ⟨Nat.le_trans hN hbg, h3⟩, fun k x hx => ?_⟩
      obtain ⟨B, i, j, D, m, d, q0, q1, q2, q3, q4, q5, q6⟩ := hF k x hx
      obtain ⟨c0, c1, c2, c3, A', n', c', B', m', d', c4, c5, c6⟩ := h4 k x hx
      refine ⟨c0, c1, c2, c3, A', n', c', B', m', d', c4, c5, ?_⟩
      have hk : k < l.length := (List.getElem?_eq_some_iff.1 hx).1
      have ea : (⟨g, 0, none⟩ : Addr).add (k * 6) = ⟨g, k * 6, none⟩ := by unfold Addr.add; split <;> simp_all
      have e2' : l.length = n := hl
      subst e2'
      have z4 := c4; have z5 := c5
      rw [ea] at z4 z5
      have z4' : W.cell? ⟨g, k * 6 + 4, none⟩ = some (.slice A' n' c') := z4
      have z5' : W.cell? ⟨g, k * 6 + 5, none⟩ = some (.slice B' m' d') := z5
      rw [World.ownsRow.cellAt hr (k * 6 + 4) (by omega), q4] at z4'
      rw [World.ownsRow.cellAt hr (k * 6 + 5) (by omega), q5] at z5'
      injection z4' with z4'
      injection z5' with z5'
      injection z4' with y1 y2 y3
      injection z5' with y4 y5 y6
      subst y1 y2 y3 y4 y5 y6
      exact q6.mono hS
end Fl
end Go.Proofs.Ytdnkinajbebkoaa

set_option maxRecDepth 100000
namespace Go.Proofs.Ytdnkinajbebkoaa
open Go.RowKit
set_option linter.unusedVariables false
set_option linter.unusedSimpArgs false
namespace Fl
open Tx Df Sq Hk Tr Pr

/-- The rows of both lists, and what there was ahead of the call. -/
def Two (lo : Nat) (v u : Value) : Nat → Prop := fun b => b < lo ∨ some b = v.ownBlock ∨ some b = u.ownBlock

/-- How a call of Pass ends that tells x, y and bo, in memory that is new. -/
def LPassEndH (w : World) (x y : List Ch) (bo : Bool) (e : Ending) (w' : World) : Prop :=
  ∃ A c B d, e = .returned (.tuple #[.slice A x.length c, .slice B y.length d, .bool bo]) ∧ x.length ≤ c ∧ y.length ≤ d ∧ RdP w' (fun b => w.heap.size ≤ b ∧ b < w'.heap.size) A x ∧ RdP w' (fun b => w.heap.size ≤ b ∧ b < w'.heap.size) B y ∧ Below w.heap.size w w'
theorem LPassEndH.end_ {w w' : World} {x y : List Ch} {bo : Bool} {e : Ending} (h : LPassEndH w x y bo e w') : LPassEnd w x y bo e w' := by
  obtain ⟨A, c, B, d, h1, _, _, h2, h3, h4⟩ := h
  exact ⟨A, c, B, d, h1, h2.mono fun b hb => hb.2, h3.mono fun b hb => hb.2, h4⟩
section
variable {w w' : World} {x y x' y' : List Ch} {bo : Bool} {o : Option (List Ch × List Ch)}
theorem lpassH_none (h : o = none) (ho : outF o = (x, y)) (hb : o.isSome = bo) (hw : Below w.heap.size w w') : LPassEndH w x y bo (.returned (.tuple #[.slice none 0 0, .slice none 0 0, .bool false])) w' := by
  subst h
  injection ho with h1 h2
  subst h1 h2 hb
  exact ⟨none, 0, none, 0, rfl, Nat.le_refl _, Nat.le_refl _, .inl rfl, .inl rfl, hw⟩
theorem lpassH_some {A B : Option Addr} {n c m d : Nat} {S T : Nat → Prop} {b1 b2 : Nat} (h : o = some (x', y')) (ho : outF o = (x, y)) (hb : o.isSome = bo) (hn : x'.length = n) (hm : y'.length = m) (hr : OwnS w' S b1 (.slice A n c) x') (hs : OwnS w' T b2 (.slice B m d) y')
    (hS : ∀ b, S b → w.heap.size ≤ b ∧ b < w'.heap.size) (hT : ∀ b, T b → w.heap.size ≤ b ∧ b < w'.heap.size) (h1 : w.heap.size ≤ b1) (h2 : w.heap.size ≤ b2) (hw : Below w.heap.size w w') :
    LPassEndH w x y bo (.returned (.tuple #[.slice A n c, .slice B m d, .bool true])) w' := by
  subst h
  injection ho with e1 e2
  subst e1 e2 hb hn hm
  obtain ⟨_, _, e1, k1⟩ := ownS_slice hr
  obtain ⟨_, _, e2, k2⟩ := ownS_slice hs
  injection e1 with _ _ e1
  injection e2 with _ _ e2
  exact ⟨A, c, B, d, rfl, e1 ▸ k1, e2 ▸ k2, rdP_of_own_hi hr hS h1 rfl, rdP_of_own_hi hs hT h2 rfl, hw⟩
end

theorem OwnS.row6 {W : World} {S : Nat → Prop} {base g : Nat} {v : Value} {l : List Ch} (h : OwnS W S base v l) (hb : some g ≠ v.ownBlock) (hN : ¬ S g) (k : Nat) (v0 v1 v2 v3 v4 v5 : Value) :
    OwnS ((((((W.setCell ⟨g, k * 6, none⟩ v0).setCell ⟨g, k * 6 + 1, none⟩ v1).setCell ⟨g, k * 6 + 2, none⟩ v2).setCell ⟨g, k * 6 + 3, none⟩ v3).setCell ⟨g, k * 6 + 4, none⟩ v4).setCell ⟨g, k * 6 + 5, none⟩ v5) S base v l :=
  (((((h.set hb hN (k * 6) v0).set hb hN (k * 6 + 1) v1).set hb hN (k * 6 + 2) v2).set hb hN (k * 6 + 3) v3).set hb hN (k * 6 + 4) v4).set hb hN (k * 6 + 5) v5

theorem ahead_at {α : Type} {x b : List α} {k : Nat} {q : α} (hx : x.length = k) (h : b[k]? = some q) : (x ++ b.drop k)[k]? = some q := by
  rw [List.getElem?_append_right (by omega), hx, Nat.sub_self, List.getElem?_drop, Nat.add_zero]
  exact h
theorem ahead_set {α : Type} {x b : List α} {k : Nat} {q q1 : α} (hx : x.length = k) (h : b[k]? = some q) : (x ++ b.drop k).set k q1 = (x ++ [q1]) ++ b.drop (k + 1) := by
  rw [drop_at h, List.set_append_right _ _ (by omega), hx, Nat.sub_self, List.append_assoc]
  rfl

/-- Between two rounds of Pass. -/
structure PassI (w W : World) (base : Nat) (Ab Aa : Option Addr) (n n' ca cb : Nat) (a b : List Ch) (k : Nat) (x cur : List Ch) : Prop where
  eq : passF a (b.take k) = some (x, cur)
  lenx : x.length = k
  len : cur.length = n
  lt : Lt cur
  ahead : OwnS W (But W (Two w.heap.size (.slice Ab n' cb) (.slice Aa n ca))) w.heap.size (.slice Ab n' cb) (x ++ b.drop k)
  behind : OwnS W (But W (Two w.heap.size (.slice Ab n' cb) (.slice Aa n ca))) base (.slice Aa n ca) cur
  sep : ∀ g, (Value.slice Ab n' cb).ownBlock = some g → g < base
  bw : Below w.heap.size w W
  hb : w.heap.size ≤ base

theorem PassI.rl {w W : World} {base : Nat} {Ab Aa : Option Addr} {n n' ca cb k : Nat} {a b x cur : List Ch} (h : PassI w W base Ab Aa n n' ca cb a b k x cur) : ∀ g, Two w.heap.size (.slice Ab n' cb) (.slice Aa n ca) g → g < W.heap.size := fun g hg => by
  rcases hg with e | e | e
  · exact Nat.lt_of_lt_of_le e h.bw.size
  · exact ownS_lt h.ahead g e.symm
  · exact ownS_lt h.behind g e.symm
theorem PassI.ne {w W : World} {base : Nat} {Ab Aa : Option Addr} {n n' ca cb k : Nat} {a b x cur : List Ch} (h : PassI w W base Ab Aa n n' ca cb a b k x cur) : ∀ g, (Value.slice Ab n' cb).ownBlock = some g → (Value.slice Aa n ca).ownBlock ≠ some g := fun g hg e => by
  have h1 := h.sep g hg
  have h2 := ownS_ge h.behind g e
  omega

/-- The start: both are one's own. -/
theorem pass_start {w w1 w2 : World} {Ab Aa : Option Addr} {n n' ca cb : Nat} {a b : List Ch} (hn : a.length = n) (ha : Lt a)
    (h1 : OwnS w1 (Fresh w w1 (Value.slice Ab n' cb).ownBlock) w.heap.size (.slice Ab n' cb) b) (hb1 : Below w.heap.size w w1)
    (h2 : OwnS w2 (Fresh w1 w2 (Value.slice Aa n ca).ownBlock) w1.heap.size (.slice Aa n ca) a) (hb2 : Below w1.heap.size w1 w2) :
    PassI w w2 w1.heap.size Ab Aa n n' ca cb a b 0 [] a := by
  refine ⟨by rw [List.take_zero]; exact passL_nil _ _, rfl, hn, ha, ?_, ?_, fun g hg => ownS_lt h1 g hg, hb1.trans (hb2.mono hb1.size), hb1.size⟩
  · rw [List.drop_zero, List.nil_append]
    refine (h1.below hb2).mono fun b hb => ⟨by have := hb.2.1; have := hb2.size; omega, fun e => ?_⟩
    rcases e with e | e | e
    · exact absurd hb.1 (Nat.not_le.2 e)
    · exact hb.2.2 e
    · have h3 := ownS_ge h2 b e.symm
      have := hb.2.1
      omega
  · refine h2.mono fun b hb => ⟨hb.2.1, fun e => ?_⟩
    rcases e with e | e | e
    · have := hb.1
      have := hb1.size
      omega
    · have h3 := ownS_lt h1 b e.symm
      have := hb.1
      omega
    · exact hb.2.2 e

/-- A round: the change passes; what it is then is stored. -/
theorem pass_next {w W w1 w3 w4 : World} {base g : Nat} {Aa : Option Addr} {n n' ca cb k : Nat} {a b x cur a1 : List Ch} {q q1 : Ch} {E1 E2 : Option Addr} {n1 c1 n2 c2 : Nat}
    (h : PassI w W base (some ⟨g, 0, none⟩) Aa n n' ca cb a b k x cur) (hb : Lt b) (hq : b[k]? = some q) (hbl : b.length = n') (hon : one passP cur q = some (q1, a1)) (hb1 : Below W.heap.size W w1) (hg : w1.grownBy w3 (Value.slice Aa n ca).ownBlock) (hb4 : Below w3.heap.size w3 w4)
    (hrow : OwnS w3 (But w3 (Two w.heap.size (.slice (some ⟨g, 0, none⟩) n' cb) (.slice Aa n ca))) base (.slice Aa n ca) a1) (hpg : PG w3 (But w3 (Two w.heap.size (.slice (some ⟨g, 0, none⟩) n' cb) (.slice Aa n ca))) E1 n1 c1 E2 n2 c2 q1) :
    OwnS w4 (But w4 (Two w.heap.size (.slice (some ⟨g, 0, none⟩) n' cb) (.slice Aa n ca))) w.heap.size (.slice (some ⟨g, 0, none⟩) n' cb) (x ++ b.drop k) ∧
    PassI w ((((((w4.setCell ⟨g, k * 6, none⟩ (.int .i64 q1.k)).setCell ⟨g, k * 6 + 1, none⟩ (strV q1.nm)).setCell ⟨g, k * 6 + 2, none⟩ (strV q1.to)).setCell ⟨g, k * 6 + 3, none⟩ (.int .i64 q1.h.pos)).setCell ⟨g, k * 6 + 4, none⟩ (.slice E1 n1 c1)).setCell ⟨g, k * 6 + 5, none⟩ (.slice E2 n2 c2)) base (some ⟨g, 0, none⟩) Aa n n' ca cb a b (k + 1) (x ++ [q1]) a1 := by
  have hl3 : (x ++ b.drop k).length = n' := by
    have hk := (List.getElem?_eq_some_iff.1 hq).1
    rw [List.length_append, List.length_drop, h.lenx, hbl]; omega
  have hgo : (Value.slice (some ⟨g, 0, none⟩) n' cb).ownBlock = some g := rfl
  have hne := h.ne g hgo
  have hgl := h.rl g (.inr (.inl rfl))
  have hG : Two w.heap.size (.slice (some ⟨g, 0, none⟩) n' cb) (.slice Aa n ca) g := .inr (.inl rfl)
  have a3 : OwnS w3 (But w3 (Two w.heap.size (.slice (some ⟨g, 0, none⟩) n' cb) (.slice Aa n ca))) w.heap.size (.slice (some ⟨g, 0, none⟩) n' cb) (x ++ b.drop k) :=
    ((((h.ahead.below hb1).mono (but_up hb1.size)).gr hg (fun i hi => by injection hi with hi; rw [← hi]; exact hne) (fun i hi e => hi.2 (.inr (.inr e.symm))))).mono (but_up hg.size)
  have a4 := (a3.below hb4).mono (but_up hb4.size)
  have hp4 := (hpg.to_ (fun b _ hl => hb4.block b hl)).mono (but_up hb4.size)
  have hr4 := (hrow.below hb4).mono (but_up hb4.size)
  have hN : ¬ But w4 (Two w.heap.size (.slice (some ⟨g, 0, none⟩) n' cb) (.slice Aa n ca)) g := fun e => e.2 hG
  have h5 := a4.store (k := k) hl3 hN hp4
  rw [ahead_set h.lenx hq] at h5
  have h6 := hr4.row6 (g := g) (fun e => hne e.symm) hN k (.int .i64 q1.k) (strV q1.nm) (strV q1.to) (.int .i64 q1.h.pos) (.slice E1 n1 c1) (.slice E2 n2 c2)
  have hbw : Below w.heap.size w w4 := by
    have h1 := h.bw.trans (hb1.mono h.bw.size)
    have h2 := h1.grown hg h1.size (fun i hi => Nat.le_trans h.hb (ownS_ge h.behind i hi))
    exact h2.trans (hb4.mono h2.size)
  have hwg : w.heap.size ≤ g := ownS_ge h.ahead g rfl
  refine ⟨a4, passL_step passP h.eq hq hon, by rw [List.length_append, h.lenx]; rfl, by rw [one_len passP hon]; exact h.len, (one_lt hon h.lt (hb q (List.mem_of_getElem? hq))).2, h5.mono (but_up (by simp)), h6.mono (but_up (by simp)), h.sep, below_row6 hbw hwg k _ _ _ _ _ _, h.hb⟩

set_option maxRecDepth 100000 in
set_option maxHeartbeats 4000000 in
theorem PassLH (A : Option Addr) (n c : Nat) (A' : Option Addr) (n' c' : Nat) (a b x y : List Ch) (w : World) (bo : Bool) (hn : a.length = n) (hn' : b.length = n') (hle : n ≤ 1000) (hle' : n' ≤ 1000) (ha : Lt a) (hb : Lt b)
    (hR : RdP w (· < w.heap.size) A a) (hR' : RdP w (· < w.heap.size) A' b) (ho : outF (passF a b) = (x, y)) (hs : (passF a b).isSome = bo) :
    Calls Try.prog 50 #[.slice A n c, .slice A' n' c'] w (LPassEndH w x y bo) := by
  have HR := Lib.hid hR; have HR' := Lib.hid hR'; have HN := Lib.hid hn; have HN' := Lib.hid hn'; have HA := Lib.hid ha; have HB := Lib.hid hb; have HO := Lib.hid ho; have HS := Lib.hid hs
  clear hR hR' hn hn' ha hb ho hs
  go_enter Try.func50, Try.ntmps50
  go_wp2_with fail
  refine (ownL A' n' c' b w HN'.out hle' HB.out HR'.out).mono ?_
  rintro e w1 ⟨Ab, cb, rfl, hcb, ho1, hb1⟩
  have HO1 := Lib.hid ho1; have HB1 := Lib.hid hb1
  clear ho1 hb1
  go_wp2_with fail
  refine (ownL A n c a w1 HN.out hle HA.out (HR.out.mv HB1.out)).mono ?_
  rintro e w2 ⟨Aa, ca, rfl, hca, ho2, hb2⟩
  have HST := Lib.hid (pass_start HN.out HA.out HO1.out HB1.out ho2 hb2)
  clear ho2 hb2 HO1 HB1
  generalize w1.heap.size = base at HST
  go_wp2
  go_loopw [19] (fun i wr => ∃ (k : Nat) (x1 cur : List Ch), k ≤ n' ∧ i = .int .i64 (k : Int) ∧ PassI w wr base Ab Aa n n' ca cb a b k x1 cur) (fun i _ => n' - (intOf i).toNat)
  case atStart => exact ⟨0, [], a, Nat.zero_le _, rfl, HST.out⟩
  case round =>
    clear HST
    obtain ⟨k, x1, cur, hk, rfl, hI⟩ := hrel
    have HI := Lib.hid hI
    clear hI
    by_cases hlt : k < n'
    · obtain ⟨q, hx⟩ : ∃ q, b[k]? = some q := ⟨_, List.getElem?_eq_getElem (by rw [HN'.out]; exact hlt)⟩
      have hl3 : (x1 ++ b.drop k).length = n' := by rw [List.length_append, List.length_drop, HI.out.lenx, HN'.out]; omega
      obtain ⟨g, hAb⟩ : ∃ g, Ab = some ⟨g, 0, none⟩ := by
        obtain ⟨xs, hr, _⟩ := HI.out.ahead
        rcases hr.2 with ⟨_, h1⟩ | ⟨g, cap, cur, e, _⟩
        · omega
        · injection e with e1; exact ⟨g, e1⟩
      subst hAb
      have hki : (k : Int) < (n' : Int) := by omega
      obtain ⟨D, m, f, D', m', f', c0, c1', c2, c3, c4, c5, _, hpg⟩ := HI.out.ahead.elem hl3 (ahead_at HI.out.lenx hx)
      have HX := Lib.hid hx
      have hba : Below wr.heap.size wr (wr.alloc (.cells (cellsV q D m f D' m' f') 54)) := (Below.refl _ _).alloc (Nat.le_refl _) _
      have HBA := Lib.hid hba
      have HT := Lib.hid (throughL (Two w.heap.size (.slice (some ⟨g, 0, none⟩) n' cb) (.slice Aa n ca)) base n ca Aa cur D m f D' m' f' q (wr.alloc (.cells (cellsV q D m f D' m' f') 54)) hle ⟨HI.out.len, HI.out.lt, HB.out q (List.mem_of_getElem? hx), fun i hi => .inr (.inr hi.symm), fun i hi => Nat.lt_of_lt_of_le (HI.out.rl i hi) hba.size, (HI.out.behind.below hba).mono (but_up hba.size), (hpg.to_ (fun b _ hl => hba.block b hl)).mono (but_up hba.size)⟩)
      clear hx hl3 hpg hba
      go_wp2_with fail
      clear c0 c1' c2 c3 c4 c5
      dsimp only [cellsV] at HT HBA
      refine HT.out.mono ?_
      clear HT
      generalize (wr.alloc (.cells #[.int .i64 q.k, strV q.nm, strV q.to, .int .i64 q.h.pos, .slice D m f, .slice D' m' f'] 54)) = w5 at *
      rintro e w3 ⟨h1, h2, hg⟩
      cases hon : one passP cur q with
      | none =>
        obtain rfl := h2 hon
        have HE := Lib.hid (passL_step_none passP HI.out.eq HX.out hon)
        have HBW : Hid (Below w.heap.size w w3) := Lib.hid (by
          have h3 := HI.out.bw.trans (HBA.out.mono HI.out.bw.size)
          exact h3.grown hg h3.size (fun i hi => Nat.le_trans HI.out.hb (ownS_ge HI.out.behind i hi)))
        clear h1 h2 hon hg
        go_wp2
        go_ret3
        exact lpassH_none HE.out HO.out HS.out (HBW.out.alloc HBW.out.size _)
      | some z =>
        obtain ⟨q1, a1⟩ := z
        obtain ⟨E1, n1, c1, E2, n2, c2, rfl, hrow, hpg⟩ := h1 _ hon
        have hb4 : Below w3.heap.size w3 (w3.alloc (.cells (cellsV q1 E1 n1 c1 E2 n2 c2) 54)) := (Below.refl _ _).alloc (Nat.le_refl _) _
        obtain ⟨hah, hnx⟩ := pass_next HI.out HB.out HX.out HN'.out hon HBA.out hg hb4 hrow hpg
        have HNX := Lib.hid hnx
        have hl3 : (x1 ++ b.drop k).length = n' := by rw [List.length_append, List.length_drop, HI.out.lenx, HN'.out]; omega
        obtain ⟨_, _, _, _, _, _, c0, c1', c2', c3, c4, c5, cf, _⟩ := hah.elem hl3 (ahead_at HI.out.lenx HX.out)
        have f0 := cf (k * 6); have f1 := cf (k * 6 + 1); have f2 := cf (k * 6 + 2); have f3 := cf (k * 6 + 3); have f4 := cf (k * 6 + 4); have f5 := cf (k * 6 + 5)
        clear h1 h2 hon hg hrow hpg hb4 hah hnx hl3 cf
        go_wp2_with fail
        exact ⟨⟨k + 1, x1 ++ [q1], a1, by omega, by go_num, HNX.out⟩, by simp [intOf]; omega⟩
    · have hkn : k = n' := by omega
      subst hkn
      have HE : Hid (passF a b = some (x1, cur)) := Lib.hid (by have := HI.out.eq; rw [List.take_of_length_le (by rw [HN'.out]; exact Nat.le_refl _)] at this; exact this)
      have HX1 : Hid (OwnS wr (But wr (Two w.heap.size (.slice Ab k cb) (.slice Aa n ca))) w.heap.size (.slice Ab k cb) x1) := Lib.hid (by have := HI.out.ahead; rw [List.drop_of_length_le (by rw [HN'.out]; exact Nat.le_refl _), List.append_nil] at this; exact this)
      go_wp2
      go_ret3
      exact lpassH_some HE.out HO.out HS.out HI.out.lenx HI.out.len HX1.out HI.out.behind (fun b hb => ⟨Nat.le_of_not_lt fun e => hb.2 (.inl e), hb.1⟩) (fun b hb => ⟨Nat.le_of_not_lt fun e => hb.2 (.inl e), hb.1⟩) (Nat.le_refl _) HI.out.hb HI.out.bw

end Fl
end Go.Proofs.Ytdnkinajbebkoaa

set_option maxRecDepth 100000
namespace Go.Proofs.Ytdnkinajbebkoaa
open Go.RowKit
set_option linter.unusedVariables false
set_option linter.unusedSimpArgs false
namespace Tg
open Tx Df Sq Hk Tr Pr Fl Pn

def outN (o : Option (Nm × Nm)) : Nm × Nm := o.getD (noN, noN)
/-- How a call of Pass ends that tells x, y and bo, in memory that is new. -/
def NPassEnd (w : World) (x y : Nm) (bo : Bool) (e : Ending) (w' : World) : Prop :=
  ∃ D1 d1 e1 A1 n1 c1 D2 d2 e2 A2 n2 c2, e = .returned (.tuple #[nmV x.id D1 d1 e1 x.txt A1 n1 c1, nmV y.id D2 d2 e2 y.txt A2 n2 c2, .bool bo]) ∧ NG w' (Since w w') D1 d1 e1 A1 n1 c1 x ∧ NG w' (Since w w') D2 d2 e2 A2 n2 c2 y ∧ Below w.heap.size w w'

theorem four_blk (w : World) (t0 t1 t2 t3 : TypeId) (c0 c1 c2 c3 : Array Value) : let W := (((w.alloc (.cells c0 t0)).alloc (.cells c1 t1)).alloc (.cells c2 t2)).alloc (.cells c3 t3)
    Blk W w.heap.size t0 c0 ∧ Blk W (w.heap.size + 1) t1 c1 ∧ Blk W (w.heap.size + 1 + 1) t2 c2 ∧ Blk W (w.heap.size + 1 + 1 + 1) t3 c3 ∧ Below w.heap.size w W := by
  intro W
  have b0 := (((Blk.new w t0 c0).alloc (.cells c1 t1)).alloc (.cells c2 t2)).alloc (.cells c3 t3)
  have b1 := ((Blk.new (w.alloc (.cells c0 t0)) t1 c1).alloc (.cells c2 t2)).alloc (.cells c3 t3)
  have b2 := (Blk.new ((w.alloc (.cells c0 t0)).alloc (.cells c1 t1)) t2 c2).alloc (.cells c3 t3)
  have b3 := Blk.new (((w.alloc (.cells c0 t0)).alloc (.cells c1 t1)).alloc (.cells c2 t2)) t3 c3
  simp only [World.size_alloc] at b1 b2 b3
  exact ⟨b0, b1, b2, b3, (((((Below.refl _ _).alloc (Nat.le_refl _) _).alloc (by simp) _).alloc (by simp; omega) _).alloc (by simp; omega) _)⟩
theorem npass_none {w w' : World} {x y : Nm} {bo : Bool} {o : Option (Nm × Nm)} (h : o = none) (ho : outN o = (x, y)) (hb : o.isSome = bo) (hw : Below w.heap.size w w') : NPassEnd w x y bo (.returned (.tuple #[.agg #[.int .i64 0, .int .i64 0, .slice none 0 0, .string ⟨#[]⟩, .slice none 0 0], .agg #[.int .i64 0, .int .i64 0, .slice none 0 0, .string ⟨#[]⟩, .slice none 0 0], .bool false])) w' := by
  subst h
  injection ho with h1 h2
  subst h1 h2 hb
  exact ⟨none, 0, 0, none, 0, 0, none, 0, 0, none, 0, 0, rfl, ng_no _ _, ng_no _ _, hw⟩

/-- Two boxes of five cells are set. -/
theorem two5 {W w : World} {B g : Nat} {t : TypeId} {a0 a1 a2 a3 a4 b0 b1 b2 b3 b4 : Value} (h1 : Blk W g t #[a0, a1, a2, a3, a4]) (h2 : Blk W (g + 1) t #[b0, b1, b2, b3, b4]) (hb : Below B w W) (hg : B ≤ g) (v0 v1 v2 v3 v4 u0 u1 u2 u3 u4 : Value) :
    let W' := (((((((((W.setCell ⟨g, 0, none⟩ v0).setCell ⟨g, 1, none⟩ v1).setCell ⟨g, 2, none⟩ v2).setCell ⟨g, 3, none⟩ v3).setCell ⟨g, 4, none⟩ v4).setCell ⟨g + 1, 0, none⟩ u0).setCell ⟨g + 1, 1, none⟩ u1).setCell ⟨g + 1, 2, none⟩ u2).setCell ⟨g + 1, 3, none⟩ u3).setCell ⟨g + 1, 4, none⟩ u4
    Blk W' g t #[v0, v1, v2, v3, v4] ∧ Blk W' (g + 1) t #[u0, u1, u2, u3, u4] ∧ Below B w W' ∧ W'.heap.size = W.heap.size ∧ Fl.Alike (fun b => b ≠ g ∧ b ≠ g + 1) W W' := by
  intro W'
  refine ⟨blk_set5 (blk5 h1 _ _ _ _ _) (by omega) _ _ _ _ _, blk5 (blk_set5 h2 (by omega) _ _ _ _ _) _ _ _ _ _, below_set5 (below_set5 hb hg _ _ _ _ _) (by omega) _ _ _ _ _, by simp [W'], ?_⟩
  exact ((alike_set5 W g v0 v1 v2 v3 v4).mono fun b hb => hb.1).trans_ ((alike_set5 _ (g + 1) u0 u1 u2 u3 u4).mono fun b hb => hb.2) (by simp)

set_option maxRecDepth 100000 in
set_option maxHeartbeats 2000000 in
theorem PassN (D : Option Addr) (dn dc : Nat) (A : Option Addr) (n c : Nat) (D' : Option Addr) (dn' dc' : Nat) (A' : Option Addr) (n' c' : Nat) (p q x y : Nm) (w : World) (bo : Bool) (hle : n ≤ 1000) (hle' : n' ≤ 1000) (hd : dn ≤ 100000) (hd' : dn' ≤ 100000) (hl : Lt p.l) (hl' : Lt q.l)
    (hv : NV w w.heap.size D dn dc A n c p) (hv' : NV w w.heap.size D' dn' dc' A' n' c' q) (ho : outN (passN p q) = (x, y)) (hs : (passN p q).isSome = bo) :
    Calls Try.prog 26 #[nmV p.id D dn dc p.txt A n c, nmV q.id D' dn' dc' q.txt A' n' c'] w (NPassEnd w x y bo) := by
  have HV := Lib.hid hv; have HV' := Lib.hid hv'; have HO := Lib.hid ho; have HS := Lib.hid hs; have HL := Lib.hid hl; have HL' := Lib.hid hl'
  clear hv hv' ho hs hl hl'
  go_enter Try.func26, Try.ntmps26
  go_upto_region 1 with fail
  obtain ⟨b0, b1, b2, b3, hba⟩ := four_blk w 45 45 45 45 #[.int .i64 p.id.1, .int .i64 p.id.2, .slice D dn dc, strV p.txt, .slice A n c] #[.int .i64 q.id.1, .int .i64 q.id.2, .slice D' dn' dc', strV q.txt, .slice A' n' c'] #[.int .i64 0, .int .i64 0, .slice none 0 0, .string ⟨#[]⟩, .slice none 0 0] #[.int .i64 0, .int .i64 0, .slice none 0 0, .string ⟨#[]⟩, .slice none 0 0]
  generalize ((((w.alloc (.cells #[.int .i64 p.id.1, .int .i64 p.id.2, .slice D dn dc, strV p.txt, .slice A n c] 45)).alloc (.cells #[.int .i64 q.id.1, .int .i64 q.id.2, .slice D' dn' dc', strV q.txt, .slice A' n' c'] 45)).alloc (.cells #[.int .i64 0, .int .i64 0, .slice none 0 0, .string ⟨#[]⟩, .slice none 0 0] 45)).alloc (.cells #[.int .i64 0, .int .i64 0, .slice none 0 0, .string ⟨#[]⟩, .slice none 0 0] 45)) = w1 at b0 b1 b2 b3 hba ⊢
  obtain ⟨z, hz⟩ : ∃ z, w.heap.size = z := ⟨_, rfl⟩
  rw [hz] at b0 b1 b2 b3 ⊢
  have HZ := Lib.hid hz
  have HB0 := Lib.hid b0; have HB1 := Lib.hid b1; have HB2 := Lib.hid b2; have HB3 := Lib.hid b3; have HBW := Lib.hid hba
  replace HV := Lib.hid (HV.out.mv hba); replace HV' := Lib.hid (HV'.out.mv hba)
  clear b0 b1 b2 b3 hba hz
  have x0 := HB0.out.cell 0 rfl; have x1 := HB0.out.cell 1 rfl; have y2 := HB1.out.cell 2 rfl
  have l0 := HB0.out.lt; have l1 := HB1.out.lt
  go_wp2_with fail
  obtain ⟨bm, hbm⟩ : ∃ b, decide (p.id ∈ q.deps) = b := ⟨_, rfl⟩
  refine (ContainsI p.id D' dn' dc' w1.heap.size q.deps w1 bm HV'.out.dl (by omega) (Nat.le_refl _) HV'.out.dr hbm).mono ?_
  rintro e w2 ⟨rfl, hb⟩
  have HM := Lib.hid hbm
  clear hbm x0 x1 y2 l0 l1
  replace HB0 := Lib.hid (HB0.out.below hb HB0.out.lt); replace HB1 := Lib.hid (HB1.out.below hb HB1.out.lt); replace HB2 := Lib.hid (HB2.out.below hb HB2.out.lt); replace HB3 := Lib.hid (HB3.out.below hb HB3.out.lt)
  replace HV := Lib.hid (HV.out.mv hb); replace HV' := Lib.hid (HV'.out.mv hb); replace HBW := Lib.hid (below_mv HBW.out hb)
  clear hb
  have r0 := HB2.out.cell 0 rfl; have r1 := HB2.out.cell 1 rfl; have r2 := HB2.out.cell 2 rfl; have r3 := HB2.out.cell 3 rfl; have r4 := HB2.out.cell 4 rfl
  have s0 := HB3.out.cell 0 rfl; have s1 := HB3.out.cell 1 rfl; have s2 := HB3.out.cell 2 rfl; have s3 := HB3.out.cell 3 rfl; have s4 := HB3.out.cell 4 rfl
  have f0 := HB2.out.frozen 0; have f1 := HB2.out.frozen 1; have f2 := HB2.out.frozen 2; have f3 := HB2.out.frozen 3; have f4 := HB2.out.frozen 4
  have g0 := HB3.out.frozen 0; have g1 := HB3.out.frozen 1; have g2 := HB3.out.frozen 2; have g3 := HB3.out.frozen 3; have g4 := HB3.out.frozen 4
  have x4 := HB0.out.cell 4 rfl; have y4 := HB1.out.cell 4 rfl
  have l0 := HB0.out.lt; have l1 := HB1.out.lt; have l2 := HB2.out.lt; have l3 := HB3.out.lt
  cases bm with
  | true =>
    have HE : Hid (passN p q = none) := Lib.hid (by unfold passN; rw [if_pos (of_decide_eq_true HM.out)])
    go_wp2_with fail
    have hT := two5 HB2.out HB3.out HBW.out (show w.heap.size ≤ z + 1 + 1 by have := HZ.out; omega) (.int .i64 0) (.int .i64 0) (.slice none 0 0) (.string ⟨#[]⟩) (.slice none 0 0) (.int .i64 0) (.int .i64 0) (.slice none 0 0) (.string ⟨#[]⟩) (.slice none 0 0)
    clear r0 r1 r2 r3 r4 s0 s1 s2 s3 s4 f0 f1 f2 f3 f4 g0 g1 g2 g3 g4 x4 y4 l0 l1 l2 l3
    generalize (World.setCell (World.setCell (World.setCell (World.setCell (World.setCell (World.setCell (World.setCell (World.setCell (World.setCell (World.setCell w2 ⟨z + 1 + 1, 0, none⟩ (.int .i64 0)) ⟨z + 1 + 1, 1, none⟩ (.int .i64 0)) ⟨z + 1 + 1, 2, none⟩ (.slice none 0 0)) ⟨z + 1 + 1, 3, none⟩ (.string ⟨#[]⟩)) ⟨z + 1 + 1, 4, none⟩ (.slice none 0 0)) ⟨z + 1 + 1 + 1, 0, none⟩ (.int .i64 0)) ⟨z + 1 + 1 + 1, 1, none⟩ (.int .i64 0)) ⟨z + 1 + 1 + 1, 2, none⟩ (.slice none 0 0)) ⟨z + 1 + 1 + 1, 3, none⟩ (.string ⟨#[]⟩)) ⟨z + 1 + 1 + 1, 4, none⟩ (.slice none 0 0)) = w9 at *
    obtain ⟨t1, t2, t3, t4, t5⟩ := hT
    have u0 := t1.cell 0 rfl; have u1 := t1.cell 1 rfl; have u2 := t1.cell 2 rfl; have u3 := t1.cell 3 rfl; have u4 := t1.cell 4 rfl
    have v0 := t2.cell 0 rfl; have v1 := t2.cell 1 rfl; have v2 := t2.cell 2 rfl; have v3 := t2.cell 3 rfl; have v4 := t2.cell 4 rfl
    refine bodyPost_ret (v := .tuple #[.agg #[.int .i64 0, .int .i64 0, .slice none 0 0, .string ⟨#[]⟩, .slice none 0 0], .agg #[.int .i64 0, .int .i64 0, .slice none 0 0, .string ⟨#[]⟩, .slice none 0 0], .bool false]) (by simp [results, Try.results26, go_sem, u0, u1, u2, u3, u4, v0, v1, v2, v3, v4]) rfl ?_
    exact npass_none HE.out HO.out HS.out t3
  | false =>
    have HNM : Hid (p.id ∉ q.deps) := Lib.hid (of_decide_eq_false HM.out)
    go_wp2_with fail
    obtain ⟨⟨lx, ly⟩, hol⟩ : ∃ z, outF (passF p.l q.l) = z := ⟨_, rfl⟩
    obtain ⟨bl, hbl⟩ : ∃ b, (passF p.l q.l).isSome = b := ⟨_, rfl⟩
    refine (PassLH A n c A' n' c' p.l q.l lx ly w2 bl HV.out.l HV'.out.l hle hle' HL.out HL'.out HV.out.r HV'.out.r hol hbl).mono ?_
    rintro e w3 ⟨E1, k1, E2, k2, rfl, hk1, hk2, hr1, hr2, hb⟩
    have HOL := Lib.hid hol; have HBL := Lib.hid hbl
    clear hol hbl r0 r1 r2 r3 r4 s0 s1 s2 s3 s4 f0 f1 f2 f3 f4 g0 g1 g2 g3 g4 x4 y4 l0 l1 l2 l3
    have hsw : z + 4 ≤ w2.heap.size := HB3.out.lt
    have HR1 := Lib.hid (hr1.mono fun b hb => (⟨Nat.le_trans hsw hb.1, hb.2⟩ : z + 4 ≤ b ∧ b < w3.heap.size)); have HR2 := Lib.hid (hr2.mono fun b hb => (⟨Nat.le_trans hsw hb.1, hb.2⟩ : z + 4 ≤ b ∧ b < w3.heap.size)); have HK1 := Lib.hid hk1; have HK2 := Lib.hid hk2
    replace HB0 := Lib.hid (HB0.out.below hb HB0.out.lt); replace HB1 := Lib.hid (HB1.out.below hb HB1.out.lt); replace HB2 := Lib.hid (HB2.out.below hb HB2.out.lt); replace HB3 := Lib.hid (HB3.out.below hb HB3.out.lt)
    replace HV := Lib.hid (HV.out.mv hb); replace HV' := Lib.hid (HV'.out.mv hb); replace HBW := Lib.hid (below_mv HBW.out hb)
    clear hb hr1 hr2 hk1 hk2 hsw
    have r0 := HB2.out.cell 0 rfl; have r1 := HB2.out.cell 1 rfl; have r2 := HB2.out.cell 2 rfl; have r3 := HB2.out.cell 3 rfl; have r4 := HB2.out.cell 4 rfl
    have s0 := HB3.out.cell 0 rfl; have s1 := HB3.out.cell 1 rfl; have s2 := HB3.out.cell 2 rfl; have s3 := HB3.out.cell 3 rfl; have s4 := HB3.out.cell 4 rfl
    have f0 := HB2.out.frozen 0; have f1 := HB2.out.frozen 1; have f2 := HB2.out.frozen 2; have f3 := HB2.out.frozen 3; have f4 := HB2.out.frozen 4
    have g0 := HB3.out.frozen 0; have g1 := HB3.out.frozen 1; have g2 := HB3.out.frozen 2; have g3 := HB3.out.frozen 3; have g4 := HB3.out.frozen 4
    have x4 := HB0.out.cell 4 rfl; have y4 := HB1.out.cell 4 rfl
    have l0 := HB0.out.lt; have l1 := HB1.out.lt; have l2 := HB2.out.lt; have l3 := HB3.out.lt
    cases bl with
    | false =>
      have HE : Hid (passN p q = none) := Lib.hid (by
        unfold passN
        rw [if_neg HNM.out]
        have h := HBL.out
        cases hp : passF p.l q.l with
        | none => rfl
        | some z => rw [hp] at h; cases h)
      go_wp2_with fail
      have hT := two5 HB2.out HB3.out HBW.out (show w.heap.size ≤ z + 1 + 1 by have := HZ.out; omega) (.int .i64 0) (.int .i64 0) (.slice none 0 0) (.string ⟨#[]⟩) (.slice none 0 0) (.int .i64 0) (.int .i64 0) (.slice none 0 0) (.string ⟨#[]⟩) (.slice none 0 0)
      clear r0 r1 r2 r3 r4 s0 s1 s2 s3 s4 f0 f1 f2 f3 f4 g0 g1 g2 g3 g4 x4 y4 l0 l1 l2 l3
      generalize (World.setCell (World.setCell (World.setCell (World.setCell (World.setCell (World.setCell (World.setCell (World.setCell (World.setCell (World.setCell w3 ⟨z + 1 + 1, 0, none⟩ (.int .i64 0)) ⟨z + 1 + 1, 1, none⟩ (.int .i64 0)) ⟨z + 1 + 1, 2, none⟩ (.slice none 0 0)) ⟨z + 1 + 1, 3, none⟩ (.string ⟨#[]⟩)) ⟨z + 1 + 1, 4, none⟩ (.slice none 0 0)) ⟨z + 1 + 1 + 1, 0, none⟩ (.int .i64 0)) ⟨z + 1 + 1 + 1, 1, none⟩ (.int .i64 0)) ⟨z + 1 + 1 + 1, 2, none⟩ (.slice none 0 0)) ⟨z + 1 + 1 + 1, 3, none⟩ (.string ⟨#[]⟩)) ⟨z + 1 + 1 + 1, 4, none⟩ (.slice none 0 0)) = w9 at *
      obtain ⟨t1, t2, t3, t4, t5⟩ := hT
      have u0 := t1.cell 0 rfl; have u1 := t1.cell 1 rfl; have u2 := t1.cell 2 rfl; have u3 := t1.cell 3 rfl; have u4 := t1.cell 4 rfl
      have v0 := t2.cell 0 rfl; have v1 := t2.cell 1 rfl; have v2 := t2.cell 2 rfl; have v3 := t2.cell 3 rfl; have v4 := t2.cell 4 rfl
      refine bodyPost_ret (v := .tuple #[.agg #[.int .i64 0, .int .i64 0, .slice none 0 0, .string ⟨#[]⟩, .slice none 0 0], .agg #[.int .i64 0, .int .i64 0, .slice none 0 0, .string ⟨#[]⟩, .slice none 0 0], .bool false]) (by simp [results, Try.results26, go_sem, u0, u1, u2, u3, u4, v0, v1, v2, v3, v4]) rfl ?_
      exact npass_none HE.out HO.out HS.out t3
    | true =>
      have HE : Hid (passN p q = some (⟨q.id, q.deps, q.txt, lx⟩, ⟨p.id, p.deps, p.txt, ly⟩)) := Lib.hid (by
        unfold passN
        rw [if_neg HNM.out, outF_of HOL.out HBL.out]
        rfl)
      have x0 := HB0.out.cell 0 rfl; have x1 := HB0.out.cell 1 rfl; have x2 := HB0.out.cell 2 rfl; have x3 := HB0.out.cell 3 rfl
      have y0 := HB1.out.cell 0 rfl; have y1 := HB1.out.cell 1 rfl; have y2 := HB1.out.cell 2 rfl; have y3 := HB1.out.cell 3 rfl
      go_upto_region 7 with fail
      have HSB : Hid (∀ X : World, Blk X z 45 #[.int .i64 p.id.1, .int .i64 p.id.2, .slice D dn dc, strV p.txt, .slice A n c] → Blk X (z + 1) 45 #[.int .i64 q.id.1, .int .i64 q.id.2, .slice D' dn' dc', strV q.txt, .slice A' n' c'] → X.cell? ⟨z, 0, none⟩ = some (.int .i64 p.id.1) ∧ X.cell? ⟨z, 1, none⟩ = some (.int .i64 p.id.2) ∧ X.cell? ⟨z, 2, none⟩ = some (.slice D dn dc) ∧ X.cell? ⟨z, 3, none⟩ = some (strV p.txt) ∧ X.cell? ⟨z, 4, none⟩ = some (.slice A n c) ∧ X.cell? ⟨z + 1, 0, none⟩ = some (.int .i64 q.id.1) ∧ X.cell? ⟨z + 1, 1, none⟩ = some (.int .i64 q.id.2) ∧ X.cell? ⟨z + 1, 2, none⟩ = some (.slice D' dn' dc') ∧ X.cell? ⟨z + 1, 3, none⟩ = some (strV q.txt) ∧ X.cell? ⟨z + 1, 4, none⟩ = some (.slice A' n' c')) := Lib.hid (fun X h1 h2 => ⟨h1.cell 0 rfl, h1.cell 1 rfl, h1.cell 2 rfl, h1.cell 3 rfl, h1.cell 4 rfl, h2.cell 0 rfl, h2.cell 1 rfl, h2.cell 2 rfl, h2.cell 3 rfl, h2.cell 4 rfl⟩)
      have HC : Hid (∀ X, Below w3.heap.size w3 X → X.cell? ⟨z, 0, none⟩ = some (.int .i64 p.id.1) ∧ X.cell? ⟨z, 1, none⟩ = some (.int .i64 p.id.2) ∧ X.cell? ⟨z, 2, none⟩ = some (.slice D dn dc) ∧ X.cell? ⟨z, 3, none⟩ = some (strV p.txt) ∧ X.cell? ⟨z, 4, none⟩ = some (.slice A n c) ∧ X.cell? ⟨z + 1, 0, none⟩ = some (.int .i64 q.id.1) ∧ X.cell? ⟨z + 1, 1, none⟩ = some (.int .i64 q.id.2) ∧ X.cell? ⟨z + 1, 2, none⟩ = some (.slice D' dn' dc') ∧ X.cell? ⟨z + 1, 3, none⟩ = some (strV q.txt) ∧ X.cell? ⟨z + 1, 4, none⟩ = some (.slice A' n' c')) := Lib.hid (fun X hb => HSB.out X (HB0.out.below hb HB0.out.lt) (HB1.out.below hb HB1.out.lt))
      have HD := Lib.hid (show Below w3.heap.size w3 w3.drew from below_drewN (Below.refl _ _) 1)
      have HKD := Lib.hid (HC.out w3.drew HD.out)
      have PX : Hid (∀ X, Below w3.heap.size w3 X → Calls Try.prog 48 #[nmV q.id D' dn' dc' q.txt A' n' c', .slice E1 lx.length k1] X (WithEnd X q dn' E1 lx.length k1)) := Lib.hid (fun X hb => With D' dn' dc' A' n' c' q E1 lx.length k1 X hd' HV'.out.dl (RdI.mv HV'.out.dr hb))
      have PY : Hid (∀ X, Below w3.heap.size w3 X → Calls Try.prog 48 #[nmV p.id D dn dc p.txt A n c, .slice E2 ly.length k2] X (WithEnd X p dn E2 ly.length k2)) := Lib.hid (fun X hb => With D dn dc A n c p E2 ly.length k2 X hd HV.out.dl (RdI.mv HV.out.dr hb))
      go_region_held3 (fun X => X.cell? ⟨z, 0, none⟩ = some (.int .i64 p.id.1) ∧ X.cell? ⟨z, 1, none⟩ = some (.int .i64 p.id.2) ∧ X.cell? ⟨z, 2, none⟩ = some (.slice D dn dc) ∧ X.cell? ⟨z, 3, none⟩ = some (strV p.txt) ∧ X.cell? ⟨z, 4, none⟩ = some (.slice A n c) ∧ X.cell? ⟨z + 1, 0, none⟩ = some (.int .i64 q.id.1) ∧ X.cell? ⟨z + 1, 1, none⟩ = some (.int .i64 q.id.2) ∧ X.cell? ⟨z + 1, 2, none⟩ = some (.slice D' dn' dc') ∧ X.cell? ⟨z + 1, 3, none⟩ = some (strV q.txt) ∧ X.cell? ⟨z + 1, 4, none⟩ = some (.slice A' n' c'))
        (first | (with_reducible exact HKD.out) | (with_reducible exact hS5) | (with_reducible exact hS6) | (with_reducible exact HKA.out) | (with_reducible exact HKB.out))
        (first
          | (go_at_call 48; (with_reducible refine (PX.out w3.drew HD.out).mono ?_); rintro e w5 ⟨D5, c5, rfl, hk5, hr5, hb5⟩; have hbu := HD.out.trans (hb5.mono HD.out.size); have hS5 := HC.out w5 hbu; have HU5 := Lib.hid hbu; have HR5 := Lib.hid hr5; have HK5 := Lib.hid hk5; clear hb5 hbu hr5 hk5)
          | (go_at_call 48; (with_reducible refine (PY.out w5 HU5.out).mono ?_); rintro e w6 ⟨D6, c6, rfl, hk6, hr6, hb6⟩; have hbu := HU5.out.trans (hb6.mono HU5.out.size); have hS6 := HC.out w6 hbu; have HU6 := Lib.hid hbu; have HB6 := Lib.hid hb6; have HR6 := Lib.hid hr6; have HK6 := Lib.hid hk6;
              have B0 := HB0.out.below hbu HB0.out.lt; have B1 := HB1.out.below hbu HB1.out.lt; have B2 := HB2.out.below hbu HB2.out.lt; have B3 := HB3.out.below hbu HB3.out.lt;
              have HKA := Lib.hid (HSB.out _ (blk_set5 B0 (show z ≠ z + 1 + 1 by omega) (.int .i64 q.id.1) (.int .i64 q.id.2) (.slice D5 dn' c5) (strV q.txt) (.slice E1 lx.length k1)) (blk_set5 B1 (show z + 1 ≠ z + 1 + 1 by omega) (.int .i64 q.id.1) (.int .i64 q.id.2) (.slice D5 dn' c5) (strV q.txt) (.slice E1 lx.length k1)));
              have HKB := Lib.hid (HSB.out _ (blk_set5 (blk_set5 B0 (show z ≠ z + 1 + 1 by omega) (.int .i64 q.id.1) (.int .i64 q.id.2) (.slice D5 dn' c5) (strV q.txt) (.slice E1 lx.length k1)) (show z ≠ z + 1 + 1 + 1 by omega) (.int .i64 p.id.1) (.int .i64 p.id.2) (.slice D6 dn c6) (strV p.txt) (.slice E2 ly.length k2)) (blk_set5 (blk_set5 B1 (show z + 1 ≠ z + 1 + 1 by omega) (.int .i64 q.id.1) (.int .i64 q.id.2) (.slice D5 dn' c5) (strV q.txt) (.slice E1 lx.length k1)) (show z + 1 ≠ z + 1 + 1 + 1 by omega) (.int .i64 p.id.1) (.int .i64 p.id.2) (.slice D6 dn c6) (strV p.txt) (.slice E2 ly.length k2)));
              have HB2' := Lib.hid B2; have HB3' := Lib.hid B3;
              have r0 := B2.cell 0 rfl; have r1 := B2.cell 1 rfl; have r2 := B2.cell 2 rfl; have r3 := B2.cell 3 rfl; have r4 := B2.cell 4 rfl;
              have s0 := B3.cell 0 rfl; have s1 := B3.cell 1 rfl; have s2 := B3.cell 2 rfl; have s3 := B3.cell 3 rfl; have s4 := B3.cell 4 rfl;
              have f0 := B2.frozen 0; have f1 := B2.frozen 1; have f2 := B2.frozen 2; have f3 := B2.frozen 3; have f4 := B2.frozen 4;
              have g0 := B3.frozen 0; have g1 := B3.frozen 1; have g2 := B3.frozen 2; have g3 := B3.frozen 3; have g4 := B3.frozen 4;
              have l2 := B2.lt; have l3 := B3.lt; clear hb6 hbu hr6 hk6 B0 B1 B2 B3))
      have hsz : w.heap.size = z := HZ.out
      have hz3 : z + 4 ≤ w3.heap.size := by have := HB3.out.lt; omega
      have h56 : w5.heap.size ≤ w6.heap.size := HB6.out.size
      have h35 : w3.heap.size ≤ w5.heap.size := HU5.out.size
      have hT := two5 HB2'.out HB3'.out (below_mv HBW.out HU6.out) (show w.heap.size ≤ z + 1 + 1 by omega) (.int .i64 q.id.1) (.int .i64 q.id.2) (.slice D5 dn' c5) (strV q.txt) (.slice E1 lx.length k1) (.int .i64 p.id.1) (.int .i64 p.id.2) (.slice D6 dn c6) (strV p.txt) (.slice E2 ly.length k2)
      clear r0 r1 r2 r3 r4 s0 s1 s2 s3 s4 f0 f1 f2 f3 f4 g0 g1 g2 g3 g4 x4 y4 l0 l1 l2 l3 x0 x1 x2 x3 y0 y1 y2 y3 hS5 hS6 HKA HKB HSB HC HKD PX PY
      go_wp2_with fail
      generalize (World.setCell (World.setCell (World.setCell (World.setCell (World.setCell (World.setCell (World.setCell (World.setCell (World.setCell (World.setCell w6 ⟨z + 1 + 1, 0, none⟩ (.int .i64 q.id.1)) ⟨z + 1 + 1, 1, none⟩ (.int .i64 q.id.2)) ⟨z + 1 + 1, 2, none⟩ (.slice D5 dn' c5)) ⟨z + 1 + 1, 3, none⟩ (strV q.txt)) ⟨z + 1 + 1, 4, none⟩ (.slice E1 lx.length k1)) ⟨z + 1 + 1 + 1, 0, none⟩ (.int .i64 p.id.1)) ⟨z + 1 + 1 + 1, 1, none⟩ (.int .i64 p.id.2)) ⟨z + 1 + 1 + 1, 2, none⟩ (.slice D6 dn c6)) ⟨z + 1 + 1 + 1, 3, none⟩ (strV p.txt)) ⟨z + 1 + 1 + 1, 4, none⟩ (.slice E2 ly.length k2)) = w9 at *
      obtain ⟨t1, t2, t3, t4, t5⟩ := hT
      have u0 := t1.cell 0 rfl; have u1 := t1.cell 1 rfl; have u2 := t1.cell 2 rfl; have u3 := t1.cell 3 rfl; have u4 := t1.cell 4 rfl
      have v0 := t2.cell 0 rfl; have v1 := t2.cell 1 rfl; have v2 := t2.cell 2 rfl; have v3 := t2.cell 3 rfl; have v4 := t2.cell 4 rfl
      have hv := HV.out; have hv' := HV'.out
      obtain ⟨k4, k5⟩ := passL_len passP (outF_of HOL.out HBL.out)
      have hv0 := HV.out.l; have hv1 := HV'.out.l
      have key : ∀ b, (z + 4 ≤ b ∧ b < w6.heap.size) → b ≠ z + 1 + 1 ∧ b ≠ z + 1 + 1 + 1 := fun b hb => by omega
      have up : ∀ b, (z + 4 ≤ b ∧ b < w6.heap.size) → Since w w9 b := fun b hb => ⟨by omega, by omega⟩
      have a3 : Below w3.heap.size w3 w6 := HU6.out
      have l1 := (((HR1.out.to ((alike_below a3).mono fun b hb => hb.2)).mono fun b hb => (⟨hb.1, by have := hb.2; omega⟩ : z + 4 ≤ b ∧ b < w6.heap.size)).to (t5.mono key)).mono up
      have l2 := (((HR2.out.to ((alike_below a3).mono fun b hb => hb.2)).mono fun b hb => (⟨hb.1, by have := hb.2; omega⟩ : z + 4 ≤ b ∧ b < w6.heap.size)).to (t5.mono key)).mono up
      have hd1 : w3.drew.heap.size = w3.heap.size := rfl
      have d5 := (((HR5.out.to ((alike_below HB6.out).mono fun b hb => hb.2)).mono fun b hb => (⟨by have := hb.1; omega, by have := hb.2; omega⟩ : z + 4 ≤ b ∧ b < w6.heap.size)).to (t5.mono key)).mono up
      have d6 := ((HR6.out.mono fun b hb => (⟨by have := hb.1; omega, hb.2⟩ : z + 4 ≤ b ∧ b < w6.heap.size)).to (t5.mono key)).mono up
      refine bodyPost_ret (v := .tuple #[.agg #[.int .i64 q.id.1, .int .i64 q.id.2, .slice D5 dn' c5, strV q.txt, .slice E1 lx.length k1], .agg #[.int .i64 p.id.1, .int .i64 p.id.2, .slice D6 dn c6, strV p.txt, .slice E2 ly.length k2], .bool true]) (by simp [results, Try.results26, go_sem, u0, u1, u2, u3, u4, v0, v1, v2, v3, v4]) rfl ?_
      have ho := HO.out
      have hs := HS.out
      rw [HE.out] at ho hs
      injection ho with e1 e2
      subst e1 e2 hs
      refine ⟨D5, dn', c5, E1, lx.length, k1, D6, dn, c6, E2, ly.length, k2, rfl, ⟨hv'.dl, HK5.out, hv'.dm, d5, hv'.tm, rfl, HK1.out, by unfold maxLen; omega, l1⟩, ⟨hv.dl, HK6.out, hv.dm, d6, hv.tm, rfl, HK2.out, by unfold maxLen; omega, l2⟩, t3⟩

end Tg
end Go.Proofs.Ytdnkinajbebkoaa

set_option maxRecDepth 100000
namespace Go.Proofs.Ytdnkinajbebkoaa
open Go.RowKit
set_option linter.unusedVariables false
namespace Cut2
open Tx Df Sq Hk Tr Pr

/-- Where two changes lie, made since w. -/
def Lay (w W : World) (T U : Nat) (x y : Array Value) : Prop := Blk W T 54 x ∧ Blk W U 54 y ∧ w.heap.size ≤ T ∧ w.heap.size ≤ U ∧ Below w.heap.size w W
section
variable {w u : World} {T U X Y : Nat} {x0 x1 x2 x3 x4 x5 y0 y1 y2 y3 y4 y5 : Value}
theorem Lay.swap {W : World} {x y : Array Value} (h : Lay w W T U x y) : Lay w W U T y x := ⟨h.2.1, h.1, h.2.2.2.1, h.2.2.1, h.2.2.2.2⟩
end

end Cut2
end Go.Proofs.Ytdnkinajbebkoaa

set_option maxRecDepth 100000
namespace Go.Proofs.Ytdnkinajbebkoaa
open Go.RowKit
set_option linter.unusedVariables false
set_option linter.unusedSimpArgs false
namespace Fl
open Tx Df Sq Hk Tr Pr

/-- Changes that are read, wherever their cells are; their lines in blocks that N names. -/
def SrcN (W : World) (N : Nat → Prop) (A : Option Addr) (l : List Ch) : Prop := ∃ ys : List Value, ys.length = l.length * 6 ∧ PCells W N l ys ∧ (ys = [] ∨ ∃ a, A = some a ∧ ∀ (j : Nat) u, ys[j]? = some u → W.cell? (a.add j) = some u)
theorem SrcN.below {W W' : World} {N : Nat → Prop} {A : Option Addr} {l : List Ch} (h : SrcN W N A l) (hb : Below W.heap.size W W') : SrcN W' N A l := by
  obtain ⟨ys, h1, h2, h3⟩ := h
  exact ⟨ys, h1, h2.kc (keepC_below hb), h3.imp id fun ⟨a, e, h⟩ => ⟨a, e, fun j u hu => (keepC_below (S := fun _ => True) hb).cell trivial (h j u hu)⟩⟩
theorem OwnS.base {W : World} {S : Nat → Prop} {base base' : Nat} {v : Value} {l : List Ch} (h : OwnS W S base v l) (hb : base' ≤ base) : OwnS W S base' v l := by
  obtain ⟨xs, h1, h2⟩ := h
  exact ⟨xs, own_mono h1 hb, h2⟩

/-- Between two rounds of one: x is q ahead of those from place j on, which are post. -/
structure OneInv (W : World) (N : Nat → Prop) (gq : Nat) (A1 : Option Addr) (n c1 : Nat) (D : Option Addr) (m k : Nat) (D' : Option Addr) (m' k' : Nat) (a : List Ch) (q : Ch) (j : Nat) (x : Ch) (post : List Ch) : Prop where
  on : one passP (a.drop j) q = some (x, post)
  row : OwnS W N (gq + 2) (.slice A1 n c1) (a.take j ++ post)
  bq : Blk W gq 54 #[.int .i64 x.k, strV x.nm, strV x.to, .int .i64 x.h.pos, .slice D m k, .slice D' m' k']
  br : Blk W (gq + 1) 54 #[.int .i64 0, strV [], strV [], .int .i64 0, .slice none 0 0, .slice none 0 0]
  pg : PG W N D m k D' m' k' x
  lt : lightP x = true
theorem OneInv.len {W : World} {N : Nat → Prop} {gq : Nat} {A1 : Option Addr} {n c1 : Nat} {D : Option Addr} {m k : Nat} {D' : Option Addr} {m' k' : Nat} {a : List Ch} {q : Ch} {j : Nat} {x : Ch} {post : List Ch} (h : OneInv W N gq A1 n c1 D m k D' m' k' a q j x post) (hn : a.length = n) (hj : j ≤ n) : (a.take j ++ post).length = n :=
  len_mid (by rw [one_len passP h.on, List.length_drop]; omega) hn
/-- What S names, and what was made behind w. -/
def Also (S : Nat → Prop) (w W : World) : Nat → Prop := fun b => S b ∨ (w.heap.size ≤ b ∧ b < W.heap.size)
end Fl
end Go.Proofs.Ytdnkinajbebkoaa

set_option maxRecDepth 100000
namespace Go.Proofs.Ytdnkinajbebkoaa
open Go.RowKit Go.Shelf
set_option linter.unusedVariables false
namespace Tg
open Tx Rg Fl Pn
attribute [local go_sem] Oper.semAt_some

/-- What a round must keep: the box in which the slice lies, and that its changes can be read. -/
def KpN (Bs : Nat) (A : Option Addr) (m : Nat) (W W' : World) : Prop := (∀ v, Boxed W Bs 22 v → Boxed W' Bs 22 v) ∧ (Cells5 W A m → Cells5 W' A m)
section
variable {Bs m : Nat} {A : Option Addr}
theorem kpN_t {W W1 W2 : World} (h : KpN Bs A m W W1) (k : KpN Bs A m W1 W2) : KpN Bs A m W W2 := ⟨fun v hv => k.1 v (h.1 v hv), fun hv => k.2 (h.2 hv)⟩
theorem kpN_b {l : Nat} (hB : Bs ≠ l) (W : World) (o o' : Obj) (h : W.heap[l]? = some o) (ho : o.isCells = false) : KpN Bs A m W (W.putObj l o') :=
  ⟨fun v hv => hv.kept (grownBy_putObj' W l o') (by simpa using hB), fun hv => hv.kc (keepC_plain (grownBy_putObj' W l o') (fun r e => by cases e; exact ⟨o, h, ho⟩))⟩
theorem kpN_new {W W' : World} (hg : W.grownBy W' none) : KpN Bs A m W W' := ⟨fun v hv => hv.kept hg (by simp), fun hv => hv.kc (keepC_plain hg (fun r e => by cases e))⟩
end

/-- What is handed over. -/
def EN (m : Nat) (A : Option Addr) (i : Nat) (vals : Array Value) (W : World) : Prop := i < m ∧ ∃ a v0 v1 v2 v3 v4, A = some a ∧ vals = #[.int .i64 (i : Int), .agg #[v0, v1, v2, v3, v4]] ∧
  W.cell? (a.add (i * 5)) = some v0 ∧ W.cell? ⟨(a.add (i * 5)).block, (a.add (i * 5)).off + 1, none⟩ = some v1 ∧ W.cell? ⟨(a.add (i * 5)).block, (a.add (i * 5)).off + 2, none⟩ = some v2 ∧
  W.cell? ⟨(a.add (i * 5)).block, (a.add (i * 5)).off + 3, none⟩ = some v3 ∧ W.cell? ⟨(a.add (i * 5)).block, (a.add (i * 5)).off + 4, none⟩ = some v4

theorem backN_in (n : Nat) (A : Option Addr) (l c : Nat) (w : World) :
    CallsIn Fence.wide n Try.prog 35 #[.slice A l c] w fun e w' => e = .returned (.func (.func 56) #[] #[.pointer (some ⟨w.heap.size, 0, none⟩)]) ∧ w' = w.alloc (.cells #[.slice A l c] 22) := by
  refine callsIn_of_wp Try.func35 rfl trivial ?_ rfl
  simp only [Try.ntmps35, List.size_toArray, List.length_cons, List.length_nil, Nat.reduceAdd, Nat.reduceSub, Array.replicate_succ, Array.replicate_zero, List.push_toArray, List.append_toArray, List.nil_append, List.cons_append]
  gi_wp2
  go_ret
  exact ⟨rfl, rfl⟩

set_option maxRecDepth 100000 in
set_option maxHeartbeats 2000000 in
theorem backN1_in (n l Bs cap m : Nat) (A : Option Addr) (hle : m ≤ 1000000) (J Jx : List Nat → World → Prop)
    (hY : ∀ pre x post vals W1, dn m = pre ++ x :: post → J pre W1 → EN m A x vals W1 → YieldAt Fence.wide (n - 1) Try.prog l vals W1 fun e W' =>
      (e = .returned (.bool true) ∧ J (pre ++ [x]) W' ∧ KpN Bs A m W1 W') ∨ (e = .returned (.bool false) ∧ Jx (pre ++ [x]) W'))
    (W : World) (hBs : Boxed W Bs 22 (.slice A m cap)) (hR : Cells5 W A m) (h0 : J [] W) :
    CallsIn Fence.wide n Try.prog 56 #[.func (.yield l) #[] #[], .pointer (some ⟨Bs, 0, none⟩)] W fun e W' => (∃ v, e = .returned v) ∧ (J (dn m) W' ∨ ∃ pre post, dn m = pre ++ post ∧ Jx pre W') := by
  have hc := hBs.cell
  refine callsIn_of_wp Try.func56 rfl trivial ?_ rfl
  simp only [Try.ntmps56, List.size_toArray, List.length_cons, List.length_nil, Nat.reduceAdd, Nat.reduceSub, Array.replicate_succ, Array.replicate_zero, List.push_toArray, List.append_toArray, List.nil_append, List.cons_append]
  gi_wp2
  gi_loopw [3] (fun i wr => ∃ k pre, k ≤ m ∧ i = .int .i64 ((k : Int) - 1) ∧ dn m = pre ++ dn k ∧ J pre wr ∧ Boxed wr Bs 22 (.slice A m cap) ∧ Cells5 wr A m) (fun i _ => (intOf i + 1).toNat)
  case atStart => exact ⟨m, [], Nat.le_refl _, rfl, rfl, h0, hBs, hR⟩
  case round =>
    clear hc
    obtain ⟨k, pre, hk, rfl, hb, hJs, hBs', hR'⟩ := hrel
    have HB := Lib.hid hb; clear hb
    have HR := Lib.hid hR'; clear hR'
    have hc := hBs'.cell
    cases k with
    | zero =>
      have e : (((0 : Nat) : Int) - 1) = -1 := rfl
      rw [e]; clear e
      gi_wp2
      go_end0
      exact ⟨⟨_, rfl⟩, .inl (by have := HB.out; rw [dn_zero, List.append_nil] at this; rw [this]; exact hJs)⟩
    | succ k =>
      have e : (((k + 1 : Nat) : Int) - 1) = (k : Int) := by omega
      rw [e]; clear e
      have HB2 : Hid (dn m = pre ++ k :: dn k) := Lib.hid (by rw [HB.out, dn_succ])
      clear HB
      obtain ⟨a, v0, v1, v2, v3, v4, rfl, c0, c1, c2, c3, c4⟩ := HR.out k (by omega)
      obtain ⟨fn, tmps, assign, body, hy, hRR⟩ := hY pre k _ #[.int .i64 (k : Int), .agg #[v0, v1, v2, v3, v4]] wr HB2.out hJs ⟨by omega, a, v0, v1, v2, v3, v4, rfl, rfl, c0, c1, c2, c3, c4⟩
      gi_wp2
      refine ⟨(fun h => by cases h), ?_⟩
      refine hRR.mono ?_
      rintro e W3 (⟨rfl, hJ3, hk3⟩ | ⟨rfl, hJx3⟩)
      · have hc3 := (hk3.1 _ hBs').cell
        clear c0 c1 c2 c3 c4
        gi_wp2
        go_roundw
        case rel => exact ⟨k, pre ++ [k], by omega, rfl, by rw [HB2.out]; simp, hJ3, hk3.1 _ hBs', hk3.2 HR.out⟩
        case measure => simp [intOf]
      · gi_wp2
        refine bodyPost_ret (results_none rfl _ _ _) rfl ?_
        exact ⟨⟨_, rfl⟩, .inr ⟨pre ++ [k], dn k, by rw [HB2.out]; simp, hJx3⟩⟩

theorem backN_gives (n Bs cap m : Nat) (A : Option Addr) (hle : m ≤ 1000000) (w : World) (hBs : Boxed w Bs 22 (.slice A m cap)) (hR : Cells5 w A m) :
    GivesE Try.prog Plain n 56 #[.pointer (some ⟨Bs, 0, none⟩)] (EN m A) (dn m) (KpN Bs A m) w := fun J Jx W hW hs _ _ hY h0 =>
  backN1_in n _ Bs cap m A hle J Jx (fun pre x post vals W1 h1 h2 h3 => yield_less (hY pre x post vals W1 h1 h2 h3)) W ((hW.block Bs hBs.lt).trans hBs) (cells5_below hR hW) h0

end Tg
end Go.Proofs.Ytdnkinajbebkoaa
