/-
  What the program's own Pass of layer 9 returns (walk): two changes, the second one ahead, of lines of their own; or nothing.
-/
import Derived.Test.YtbiiabfhngdeiaaGZ
import Derived.Test.YtbiiabfhngdeiaaPsRef
import Derived.Test.YtbiiabfhngdeiaaPrMay
import Derived.Deep.RegionHeld3
import Derived.Deep.Cut
import Derived.WalkMore
set_option maxRecDepth 100000
namespace Go.Proofs.Ytbiiabfhngdeiaa
open Go.RowKit
set_option linter.unusedVariables false
set_option linter.unusedSimpArgs false
namespace Pr
open Tx Df Sq Hk Tr

theorem ppEndH_none {w w' : World} {p q x y : Ch} {b : Bool} (ho : outP (passP p q) = (x, y)) (hb : (passP p q).isSome = b) (h : passP p q = none) (hw : Below w.heap.size w w') :
    PPEndH w x y b (.returned (.tuple #[.agg #[.int .i64 0, strV [], strV [], .int .i64 0, .slice none 0 0, .slice none 0 0], .agg #[.int .i64 0, strV [], strV [], .int .i64 0, .slice none 0 0, .slice none 0 0], .bool false])) w' := by
  rw [h] at ho hb
  subst hb
  injection ho with h1 h2
  subst h1 h2
  exact ⟨none, 0, 0, none, 0, 0, none, 0, 0, none, 0, 0, rfl, zero_PV _ _, zero_PV _ _, ⟨Nat.zero_le _, Nat.zero_le _⟩, ⟨Nat.zero_le _, Nat.zero_le _⟩, ⟨hi_none _, hi_none _, hi_none _, hi_none _⟩, hw⟩
theorem ppEndH_some {w w' : World} {A B D E : Option Addr} {n c m d i j k l : Nat} {p q x y x' y' : Ch} {b : Bool} (ho : outP (passP p q) = (x, y)) (hb : (passP p q).isSome = b) (h : passP p q = some (x', y')) (hv : PV w' w'.heap.size A n c B m d x') (gv : PV w' w'.heap.size D i j E k l y') (hl : n ≤ 1000 ∧ m ≤ 1000) (gl : i ≤ 1000 ∧ k ≤ 1000)
    (hi : Hi w.heap.size A ∧ Hi w.heap.size B ∧ Hi w.heap.size D ∧ Hi w.heap.size E) (hw : Below w.heap.size w w') :
    PPEndH w x y b (.returned (.tuple #[prV x'.k x'.nm x'.to x'.h.pos A n c B m d, prV y'.k y'.nm y'.to y'.h.pos D i j E k l, .bool true])) w' := by
  rw [h] at ho hb
  subst hb
  injection ho with h1 h2
  subst h1 h2
  exact ⟨A, n, c, B, m, d, D, i, j, E, k, l, rfl, hv, gv, hl, gl, hi, hw⟩

/-- Two changes, boxed, the one or the other one first. -/
def Two (c wx : World) (T U : Nat) (x y : Array Value) : Prop := Blk wx T 51 x ∧ Blk wx U 51 y ∧ T ≠ U ∧ c.heap.size ≤ T ∧ c.heap.size ≤ U ∧ Below c.heap.size c wx
theorem two_aa (c : World) (x y : Array Value) : Two c ((c.alloc (.cells x 51)).alloc (.cells y 51)) c.heap.size (c.heap.size + 1) x y := by
  have h2 := Blk.new (c.alloc (.cells x 51)) 51 y
  simp only [World.size_alloc] at h2
  exact ⟨(Blk.new c _ x).alloc _, h2, by omega, Nat.le_refl _, Nat.le_succ _, two_box c _ _⟩
theorem Two.swap {c wx : World} {T U : Nat} {x y : Array Value} (h : Two c wx T U x y) : Two c wx U T y x := ⟨h.2.1, h.1, h.2.2.1.symm, h.2.2.2.2.1, h.2.2.2.1, h.2.2.2.2.2⟩
theorem Two.drew {c wx : World} {T U : Nat} {x y : Array Value} (h : Two c wx T U x y) : Two c wx.drew T U x y := ⟨h.1.drewN 1, h.2.1.drewN 1, h.2.2.1, h.2.2.2.1, h.2.2.2.2.1, below_drewN h.2.2.2.2.2 1⟩

theorem blk_ne6 {W : World} {b b' : Nat} {t : TypeId} {cs : Array Value} (h : Blk W b t cs) (hne : b ≠ b') (v0 v1 v2 v3 v4 v5 : Value) :
    Blk ((((((W.setCell ⟨b', 0, none⟩ v0).setCell ⟨b', 1, none⟩ v1).setCell ⟨b', 2, none⟩ v2).setCell ⟨b', 3, none⟩ v3).setCell ⟨b', 4, none⟩ v4).setCell ⟨b', 5, none⟩ v5) b t cs :=
  (((((h.set_ne hne 0 v0).set_ne hne 1 v1).set_ne hne 2 v2).set_ne hne 3 v3).set_ne hne 4 v4).set_ne hne 5 v5

/-- What lies there behind the switch. -/
def PMid (w wx : World) (g T U : Nat) (p q : Ch) : Prop :=
  ∃ x y A1 n1 c1 B1 m1 d1 A2 n2 c2 B2 m2 d2, passP p q = some (x, y) ∧
    Blk wx T 51 #[.int .i64 x.k, strV x.nm, strV x.to, .int .i64 x.h.pos, .slice A1 n1 c1, .slice B1 m1 d1] ∧
    Blk wx U 51 #[.int .i64 y.k, strV y.nm, strV y.to, .int .i64 y.h.pos, .slice A2 n2 c2, .slice B2 m2 d2] ∧
    Blk wx (g + 2) 51 #[.int .i64 0, strV [], strV [], .int .i64 0, .slice none 0 0, .slice none 0 0] ∧ Blk wx (g + 3) 51 #[.int .i64 0, strV [], strV [], .int .i64 0, .slice none 0 0, .slice none 0 0] ∧
    PV wx wx.heap.size A1 n1 c1 B1 m1 d1 x ∧ PV wx wx.heap.size A2 n2 c2 B2 m2 d2 y ∧ (n1 ≤ 1000 ∧ m1 ≤ 1000) ∧ (n2 ≤ 1000 ∧ m2 ≤ 1000) ∧ Below g w wx

/-- A change that may be, of another kind than a move, has no other name. -/
theorem may_to {p : Ch} (hm : mayP p = true) (hk : p.k = 3 ∨ p.k = 4) : p.to = [] := (may_h hm hk).2.1
theorem name_ne {p q : Ch} (hm : mayP p = true) (hq : mayP q = true) (hk : p.k = 3 ∨ p.k = 4) : (q.nm == p.to) = false := by
  rw [may_to hm hk]
  have h1 := (mayP_cases.1 hq).1
  cases hn : q.nm with
  | nil => rw [hn] at h1; revert h1; decide
  | cons _ _ => rfl

theorem k_absurd {k : Int} (h : (k == 3) = true) (h' : (k == 4) = true) : False := by
  have a : k = 3 := by simpa using h
  have b : k = 4 := by simpa using h'
  omega
theorem k_absurd2 {k : Int} (h : (k == 3) = true) (h' : (k == 2) = true) : False := by
  have a : k = 3 := by simpa using h
  have b : k = 2 := by simpa using h'
  omega
theorem k_absurd3 {k : Int} (h : (k == 4) = true) (h' : (k == 2) = true) : False := by
  have a : k = 4 := by simpa using h
  have b : k = 2 := by simpa using h'
  omega

set_option maxRecDepth 100000 in
set_option maxHeartbeats 16000000 in
theorem PassPH (A : Option Addr) (n c : Nat) (A' : Option Addr) (n' c' : Nat) (D : Option Addr) (m k : Nat) (D' : Option Addr) (m' k' : Nat) (p q x y : Ch) (w : World) (b : Bool) (hl : n ≤ 1000 ∧ n' ≤ 1000) (gl : m ≤ 1000 ∧ m' ≤ 1000)
    (hv : PV w w.heap.size A n c A' n' c' p) (gv : PV w w.heap.size D m k D' m' k' q) (ho : outP (passP p q) = (x, y)) (hb : (passP p q).isSome = b) :
    Calls Try.prog 55 #[prV p.k p.nm p.to p.h.pos A n c A' n' c', prV q.k q.nm q.to q.h.pos D m k D' m' k'] w (PPEndH w x y b) := by
  have HV0 := Lib.hid hv; have GV0 := Lib.hid gv; have HL := Lib.hid hl; have GL := Lib.hid gl; have HO := Lib.hid ho; have HBB := Lib.hid hb
  clear hl gl hv gv ho hb
  go_enter Try.func55, Try.ntmps55
  go_wp2_with fail
  have hw0 : Below w.heap.size w ((((w.alloc (.cells #[.int .i64 p.k, strV p.nm, strV p.to, .int .i64 p.h.pos, .slice A n c, .slice A' n' c'] 51)).alloc (.cells #[.int .i64 q.k, strV q.nm, strV q.to, .int .i64 q.h.pos, .slice D m k, .slice D' m' k'] 51)).alloc (.cells #[.int .i64 0, strV [], strV [], .int .i64 0, .slice none 0 0, .slice none 0 0] 51)).alloc (.cells #[.int .i64 0, strV [], strV [], .int .i64 0, .slice none 0 0, .slice none 0 0] 51)) := ((((Below.refl _ _).alloc (Nat.le_refl _) _).alloc (by simp) _).alloc (by simp; omega) _).alloc (by simp; omega) _
  have b0 := (((Blk.new w 51 #[.int .i64 p.k, strV p.nm, strV p.to, .int .i64 p.h.pos, .slice A n c, .slice A' n' c']).alloc (.cells #[.int .i64 q.k, strV q.nm, strV q.to, .int .i64 q.h.pos, .slice D m k, .slice D' m' k'] 51)).alloc (.cells #[.int .i64 0, strV [], strV [], .int .i64 0, .slice none 0 0, .slice none 0 0] 51)).alloc (.cells #[.int .i64 0, strV [], strV [], .int .i64 0, .slice none 0 0, .slice none 0 0] 51)
  have b1 := ((Blk.new (w.alloc (.cells #[.int .i64 p.k, strV p.nm, strV p.to, .int .i64 p.h.pos, .slice A n c, .slice A' n' c'] 51)) 51 #[.int .i64 q.k, strV q.nm, strV q.to, .int .i64 q.h.pos, .slice D m k, .slice D' m' k']).alloc (.cells #[.int .i64 0, strV [], strV [], .int .i64 0, .slice none 0 0, .slice none 0 0] 51)).alloc (.cells #[.int .i64 0, strV [], strV [], .int .i64 0, .slice none 0 0, .slice none 0 0] 51)
  have b2 := (Blk.new ((w.alloc (.cells #[.int .i64 p.k, strV p.nm, strV p.to, .int .i64 p.h.pos, .slice A n c, .slice A' n' c'] 51)).alloc (.cells #[.int .i64 q.k, strV q.nm, strV q.to, .int .i64 q.h.pos, .slice D m k, .slice D' m' k'] 51)) 51 #[.int .i64 0, strV [], strV [], .int .i64 0, .slice none 0 0, .slice none 0 0]).alloc (.cells #[.int .i64 0, strV [], strV [], .int .i64 0, .slice none 0 0, .slice none 0 0] 51)
  have b3 := Blk.new (((w.alloc (.cells #[.int .i64 p.k, strV p.nm, strV p.to, .int .i64 p.h.pos, .slice A n c, .slice A' n' c'] 51)).alloc (.cells #[.int .i64 q.k, strV q.nm, strV q.to, .int .i64 q.h.pos, .slice D m k, .slice D' m' k'] 51)).alloc (.cells #[.int .i64 0, strV [], strV [], .int .i64 0, .slice none 0 0, .slice none 0 0] 51)) 51 #[.int .i64 0, strV [], strV [], .int .i64 0, .slice none 0 0, .slice none 0 0]
  simp only [World.size_alloc] at b1 b2 b3
  generalize ((((w.alloc (.cells #[.int .i64 p.k, strV p.nm, strV p.to, .int .i64 p.h.pos, .slice A n c, .slice A' n' c'] 51)).alloc (.cells #[.int .i64 q.k, strV q.nm, strV q.to, .int .i64 q.h.pos, .slice D m k, .slice D' m' k'] 51)).alloc (.cells #[.int .i64 0, strV [], strV [], .int .i64 0, .slice none 0 0, .slice none 0 0] 51)).alloc (.cells #[.int .i64 0, strV [], strV [], .int .i64 0, .slice none 0 0, .slice none 0 0] 51)) = w0 at *
  obtain ⟨g, hgs⟩ : ∃ g, w.heap.size = g := ⟨_, rfl⟩
  rw [hgs] at b0 b1 b2 b3 ⊢
  rw [show g + 1 + 1 = g + 2 from rfl] at b2 b3 ⊢
  rw [show g + 2 + 1 = g + 3 from rfl] at b3 ⊢
  have HGS := Lib.hid hgs
  have HVw0 := Lib.hid (HV0.out.mv hw0); have GVw0 := Lib.hid (GV0.out.mv hw0)
  rw [hgs] at hw0
  have HWw0 := Lib.hid hw0
  have HB0w0 := Lib.hid b0; have HB1w0 := Lib.hid b1; have HB2w0 := Lib.hid b2; have HB3w0 := Lib.hid b3
  clear hgs b0 b1 b2 b3 hw0
  obtain ⟨bp, hbp⟩ : ∃ b, mayP p = b := ⟨_, rfl⟩
  obtain ⟨bq, hbq⟩ : ∃ b, mayP q = b := ⟨_, rfl⟩
  obtain ⟨ba, hba⟩ : ∃ b, apartP p q = b := ⟨_, rfl⟩
  have HBP := Lib.hid hbp; have HBQ := Lib.hid hbq; have HBA := Lib.hid hba
  clear hbp hbq hba
  have HGw0 := Lib.hid (show g ≤ w0.heap.size by have := HB3w0.out.lt; omega)
  have x0 : w0.cell? ⟨g, 0, none⟩ = some (.int .i64 p.k) := HB0w0.out.cell 0 rfl; have x1 : w0.cell? ⟨g, 1, none⟩ = some (strV p.nm) := HB0w0.out.cell 1 rfl; have x2 : w0.cell? ⟨g, 2, none⟩ = some (strV p.to) := HB0w0.out.cell 2 rfl; have x3 : w0.cell? ⟨g, 3, none⟩ = some (.int .i64 p.h.pos) := HB0w0.out.cell 3 rfl; have x4 : w0.cell? ⟨g, 4, none⟩ = some (.slice A n c) := HB0w0.out.cell 4 rfl; have x5 : w0.cell? ⟨g, 5, none⟩ = some (.slice A' n' c') := HB0w0.out.cell 5 rfl
  go_step3
  go_wp2_with fail
  clear x0 x1 x2 x3 x4 x5
  refine (MayP A n c A' n' c' p w0 bp HVw0.out HBP.out).mono ?_
  rintro e w1 ⟨rfl, hb⟩
  have HVw1 := Lib.hid (HVw0.out.mv hb); have GVw1 := Lib.hid (GVw0.out.mv hb); clear HVw0 GVw0
  have HWw1 := Lib.hid (HWw0.out.trans (hb.mono HGw0.out)); have HGw1 := Lib.hid (Nat.le_trans HGw0.out hb.size)
  have HB0w1 := Lib.hid (HB0w0.out.below hb HB0w0.out.lt); have HB1w1 := Lib.hid (HB1w0.out.below hb HB1w0.out.lt); have HB2w1 := Lib.hid (HB2w0.out.below hb HB2w0.out.lt); have HB3w1 := Lib.hid (HB3w0.out.below hb HB3w0.out.lt)
  clear hb HWw0 HGw0 HB0w0 HB1w0 HB2w0 HB3w0
  cases bp with
  | false =>
    have u0 : w1.cell? ⟨g + 2, 0, none⟩ = some (.int .i64 0) := HB2w1.out.cell 0 rfl; have u1 : w1.cell? ⟨g + 2, 1, none⟩ = some (strV []) := HB2w1.out.cell 1 rfl; have u2 : w1.cell? ⟨g + 2, 2, none⟩ = some (strV []) := HB2w1.out.cell 2 rfl; have u3 : w1.cell? ⟨g + 2, 3, none⟩ = some (.int .i64 0) := HB2w1.out.cell 3 rfl; have u4 : w1.cell? ⟨g + 2, 4, none⟩ = some (.slice none 0 0) := HB2w1.out.cell 4 rfl; have u5 : w1.cell? ⟨g + 2, 5, none⟩ = some (.slice none 0 0) := HB2w1.out.cell 5 rfl
    have v0 : w1.cell? ⟨g + 3, 0, none⟩ = some (.int .i64 0) := HB3w1.out.cell 0 rfl; have v1 : w1.cell? ⟨g + 3, 1, none⟩ = some (strV []) := HB3w1.out.cell 1 rfl; have v2 : w1.cell? ⟨g + 3, 2, none⟩ = some (strV []) := HB3w1.out.cell 2 rfl; have v3 : w1.cell? ⟨g + 3, 3, none⟩ = some (.int .i64 0) := HB3w1.out.cell 3 rfl; have v4 : w1.cell? ⟨g + 3, 4, none⟩ = some (.slice none 0 0) := HB3w1.out.cell 4 rfl; have v5 : w1.cell? ⟨g + 3, 5, none⟩ = some (.slice none 0 0) := HB3w1.out.cell 5 rfl
    have f0 : w1.frozen? ⟨g + 2, 0, none⟩ = false := HB2w1.out.frozen 0; have f1 : w1.frozen? ⟨g + 2, 1, none⟩ = false := HB2w1.out.frozen 1; have f2 : w1.frozen? ⟨g + 2, 2, none⟩ = false := HB2w1.out.frozen 2; have f3 : w1.frozen? ⟨g + 2, 3, none⟩ = false := HB2w1.out.frozen 3; have f4 : w1.frozen? ⟨g + 2, 4, none⟩ = false := HB2w1.out.frozen 4; have f5 : w1.frozen? ⟨g + 2, 5, none⟩ = false := HB2w1.out.frozen 5
    have h0 : w1.frozen? ⟨g + 3, 0, none⟩ = false := HB3w1.out.frozen 0; have h1 : w1.frozen? ⟨g + 3, 1, none⟩ = false := HB3w1.out.frozen 1; have h2 : w1.frozen? ⟨g + 3, 2, none⟩ = false := HB3w1.out.frozen 2; have h3 : w1.frozen? ⟨g + 3, 3, none⟩ = false := HB3w1.out.frozen 3; have h4 : w1.frozen? ⟨g + 3, 4, none⟩ = false := HB3w1.out.frozen 4; have h5 : w1.frozen? ⟨g + 3, 5, none⟩ = false := HB3w1.out.frozen 5
    go_wp2_with fail
    obtain ⟨z2, z3⟩ := two_set6 HB2w1.out HB3w1.out (by omega) (.int .i64 0) (strV []) (strV []) (.int .i64 0) (.slice none 0 0) (.slice none 0 0) (.int .i64 0) (strV []) (strV []) (.int .i64 0) (.slice none 0 0) (.slice none 0 0)
    have hb6 := below_set12 (b := g + 2) (b' := g + 3) HWw1.out (by omega) (by omega) (.int .i64 0) (strV []) (strV []) (.int .i64 0) (.slice none 0 0) (.slice none 0 0) (.int .i64 0) (strV []) (strV []) (.int .i64 0) (.slice none 0 0) (.slice none 0 0)
    generalize (World.setCell (World.setCell (World.setCell (World.setCell (World.setCell (World.setCell (World.setCell (World.setCell (World.setCell (World.setCell (World.setCell (World.setCell w1 ⟨g + 2, 0, none⟩ (.int .i64 0)) ⟨g + 2, 1, none⟩ (strV [])) ⟨g + 2, 2, none⟩ (strV [])) ⟨g + 2, 3, none⟩ (.int .i64 0)) ⟨g + 2, 4, none⟩ (.slice none 0 0)) ⟨g + 2, 5, none⟩ (.slice none 0 0)) ⟨g + 3, 0, none⟩ (.int .i64 0)) ⟨g + 3, 1, none⟩ (strV [])) ⟨g + 3, 2, none⟩ (strV [])) ⟨g + 3, 3, none⟩ (.int .i64 0)) ⟨g + 3, 4, none⟩ (.slice none 0 0)) ⟨g + 3, 5, none⟩ (.slice none 0 0)) = W3 at *
    clear u0 u1 u2 u3 u4 u5 v0 v1 v2 v3 v4 v5 f0 f1 f2 f3 f4 f5 h0 h1 h2 h3 h4 h5
    have u0 : W3.cell? ⟨g + 2, 0, none⟩ = some (.int .i64 0) := z2.cell 0 rfl; have u1 : W3.cell? ⟨g + 2, 1, none⟩ = some (strV []) := z2.cell 1 rfl; have u2 : W3.cell? ⟨g + 2, 2, none⟩ = some (strV []) := z2.cell 2 rfl; have u3 : W3.cell? ⟨g + 2, 3, none⟩ = some (.int .i64 0) := z2.cell 3 rfl; have u4 : W3.cell? ⟨g + 2, 4, none⟩ = some (.slice none 0 0) := z2.cell 4 rfl; have u5 : W3.cell? ⟨g + 2, 5, none⟩ = some (.slice none 0 0) := z2.cell 5 rfl
    have v0 : W3.cell? ⟨g + 3, 0, none⟩ = some (.int .i64 0) := z3.cell 0 rfl; have v1 : W3.cell? ⟨g + 3, 1, none⟩ = some (strV []) := z3.cell 1 rfl; have v2 : W3.cell? ⟨g + 3, 2, none⟩ = some (strV []) := z3.cell 2 rfl; have v3 : W3.cell? ⟨g + 3, 3, none⟩ = some (.int .i64 0) := z3.cell 3 rfl; have v4 : W3.cell? ⟨g + 3, 4, none⟩ = some (.slice none 0 0) := z3.cell 4 rfl; have v5 : W3.cell? ⟨g + 3, 5, none⟩ = some (.slice none 0 0) := z3.cell 5 rfl
    try rw [Exit.noGoto_ret]
    refine bodyPost_ret (v := .tuple #[.agg #[.int .i64 0, strV [], strV [], .int .i64 0, .slice none 0 0, .slice none 0 0], .agg #[.int .i64 0, strV [], strV [], .int .i64 0, .slice none 0 0, .slice none 0 0], .bool false]) (by simp [results, Try.results55, go_sem, u0, v0, u1, v1, u2, v2, u3, v3, u4, v4, u5, v5]) rfl ?_
    have hW : Below w.heap.size w W3 := by rw [HGS.out]; exact hb6
    exact ppEndH_none HO.out HBB.out (passP_no1 HBP.out) hW
  | true =>
  have y0 : w1.cell? ⟨g + 1, 0, none⟩ = some (.int .i64 q.k) := HB1w1.out.cell 0 rfl; have y1 : w1.cell? ⟨g + 1, 1, none⟩ = some (strV q.nm) := HB1w1.out.cell 1 rfl; have y2 : w1.cell? ⟨g + 1, 2, none⟩ = some (strV q.to) := HB1w1.out.cell 2 rfl; have y3 : w1.cell? ⟨g + 1, 3, none⟩ = some (.int .i64 q.h.pos) := HB1w1.out.cell 3 rfl; have y4 : w1.cell? ⟨g + 1, 4, none⟩ = some (.slice D m k) := HB1w1.out.cell 4 rfl; have y5 : w1.cell? ⟨g + 1, 5, none⟩ = some (.slice D' m' k') := HB1w1.out.cell 5 rfl
  go_wp2_with fail
  clear y0 y1 y2 y3 y4 y5
  refine (MayP D m k D' m' k' q w1 bq GVw1.out HBQ.out).mono ?_
  rintro e w2 ⟨rfl, hb⟩
  have HVw2 := Lib.hid (HVw1.out.mv hb); have GVw2 := Lib.hid (GVw1.out.mv hb); clear HVw1 GVw1
  have HWw2 := Lib.hid (HWw1.out.trans (hb.mono HGw1.out)); have HGw2 := Lib.hid (Nat.le_trans HGw1.out hb.size)
  have HB0w2 := Lib.hid (HB0w1.out.below hb HB0w1.out.lt); have HB1w2 := Lib.hid (HB1w1.out.below hb HB1w1.out.lt); have HB2w2 := Lib.hid (HB2w1.out.below hb HB2w1.out.lt); have HB3w2 := Lib.hid (HB3w1.out.below hb HB3w1.out.lt)
  clear hb HWw1 HGw1 HB0w1 HB1w1 HB2w1 HB3w1
  cases bq with
  | false =>
    have u0 : w2.cell? ⟨g + 2, 0, none⟩ = some (.int .i64 0) := HB2w2.out.cell 0 rfl; have u1 : w2.cell? ⟨g + 2, 1, none⟩ = some (strV []) := HB2w2.out.cell 1 rfl; have u2 : w2.cell? ⟨g + 2, 2, none⟩ = some (strV []) := HB2w2.out.cell 2 rfl; have u3 : w2.cell? ⟨g + 2, 3, none⟩ = some (.int .i64 0) := HB2w2.out.cell 3 rfl; have u4 : w2.cell? ⟨g + 2, 4, none⟩ = some (.slice none 0 0) := HB2w2.out.cell 4 rfl; have u5 : w2.cell? ⟨g + 2, 5, none⟩ = some (.slice none 0 0) := HB2w2.out.cell 5 rfl
    have v0 : w2.cell? ⟨g + 3, 0, none⟩ = some (.int .i64 0) := HB3w2.out.cell 0 rfl; have v1 : w2.cell? ⟨g + 3, 1, none⟩ = some (strV []) := HB3w2.out.cell 1 rfl; have v2 : w2.cell? ⟨g + 3, 2, none⟩ = some (strV []) := HB3w2.out.cell 2 rfl; have v3 : w2.cell? ⟨g + 3, 3, none⟩ = some (.int .i64 0) := HB3w2.out.cell 3 rfl; have v4 : w2.cell? ⟨g + 3, 4, none⟩ = some (.slice none 0 0) := HB3w2.out.cell 4 rfl; have v5 : w2.cell? ⟨g + 3, 5, none⟩ = some (.slice none 0 0) := HB3w2.out.cell 5 rfl
    have f0 : w2.frozen? ⟨g + 2, 0, none⟩ = false := HB2w2.out.frozen 0; have f1 : w2.frozen? ⟨g + 2, 1, none⟩ = false := HB2w2.out.frozen 1; have f2 : w2.frozen? ⟨g + 2, 2, none⟩ = false := HB2w2.out.frozen 2; have f3 : w2.frozen? ⟨g + 2, 3, none⟩ = false := HB2w2.out.frozen 3; have f4 : w2.frozen? ⟨g + 2, 4, none⟩ = false := HB2w2.out.frozen 4; have f5 : w2.frozen? ⟨g + 2, 5, none⟩ = false := HB2w2.out.frozen 5
    have h0 : w2.frozen? ⟨g + 3, 0, none⟩ = false := HB3w2.out.frozen 0; have h1 : w2.frozen? ⟨g + 3, 1, none⟩ = false := HB3w2.out.frozen 1; have h2 : w2.frozen? ⟨g + 3, 2, none⟩ = false := HB3w2.out.frozen 2; have h3 : w2.frozen? ⟨g + 3, 3, none⟩ = false := HB3w2.out.frozen 3; have h4 : w2.frozen? ⟨g + 3, 4, none⟩ = false := HB3w2.out.frozen 4; have h5 : w2.frozen? ⟨g + 3, 5, none⟩ = false := HB3w2.out.frozen 5
    go_wp2_with fail
    obtain ⟨z2, z3⟩ := two_set6 HB2w2.out HB3w2.out (by omega) (.int .i64 0) (strV []) (strV []) (.int .i64 0) (.slice none 0 0) (.slice none 0 0) (.int .i64 0) (strV []) (strV []) (.int .i64 0) (.slice none 0 0) (.slice none 0 0)
    have hb6 := below_set12 (b := g + 2) (b' := g + 3) HWw2.out (by omega) (by omega) (.int .i64 0) (strV []) (strV []) (.int .i64 0) (.slice none 0 0) (.slice none 0 0) (.int .i64 0) (strV []) (strV []) (.int .i64 0) (.slice none 0 0) (.slice none 0 0)
    generalize (World.setCell (World.setCell (World.setCell (World.setCell (World.setCell (World.setCell (World.setCell (World.setCell (World.setCell (World.setCell (World.setCell (World.setCell w2 ⟨g + 2, 0, none⟩ (.int .i64 0)) ⟨g + 2, 1, none⟩ (strV [])) ⟨g + 2, 2, none⟩ (strV [])) ⟨g + 2, 3, none⟩ (.int .i64 0)) ⟨g + 2, 4, none⟩ (.slice none 0 0)) ⟨g + 2, 5, none⟩ (.slice none 0 0)) ⟨g + 3, 0, none⟩ (.int .i64 0)) ⟨g + 3, 1, none⟩ (strV [])) ⟨g + 3, 2, none⟩ (strV [])) ⟨g + 3, 3, none⟩ (.int .i64 0)) ⟨g + 3, 4, none⟩ (.slice none 0 0)) ⟨g + 3, 5, none⟩ (.slice none 0 0)) = W3 at *
    clear u0 u1 u2 u3 u4 u5 v0 v1 v2 v3 v4 v5 f0 f1 f2 f3 f4 f5 h0 h1 h2 h3 h4 h5
    have u0 : W3.cell? ⟨g + 2, 0, none⟩ = some (.int .i64 0) := z2.cell 0 rfl; have u1 : W3.cell? ⟨g + 2, 1, none⟩ = some (strV []) := z2.cell 1 rfl; have u2 : W3.cell? ⟨g + 2, 2, none⟩ = some (strV []) := z2.cell 2 rfl; have u3 : W3.cell? ⟨g + 2, 3, none⟩ = some (.int .i64 0) := z2.cell 3 rfl; have u4 : W3.cell? ⟨g + 2, 4, none⟩ = some (.slice none 0 0) := z2.cell 4 rfl; have u5 : W3.cell? ⟨g + 2, 5, none⟩ = some (.slice none 0 0) := z2.cell 5 rfl
    have v0 : W3.cell? ⟨g + 3, 0, none⟩ = some (.int .i64 0) := z3.cell 0 rfl; have v1 : W3.cell? ⟨g + 3, 1, none⟩ = some (strV []) := z3.cell 1 rfl; have v2 : W3.cell? ⟨g + 3, 2, none⟩ = some (strV []) := z3.cell 2 rfl; have v3 : W3.cell? ⟨g + 3, 3, none⟩ = some (.int .i64 0) := z3.cell 3 rfl; have v4 : W3.cell? ⟨g + 3, 4, none⟩ = some (.slice none 0 0) := z3.cell 4 rfl; have v5 : W3.cell? ⟨g + 3, 5, none⟩ = some (.slice none 0 0) := z3.cell 5 rfl
    try rw [Exit.noGoto_ret]
    refine bodyPost_ret (v := .tuple #[.agg #[.int .i64 0, strV [], strV [], .int .i64 0, .slice none 0 0, .slice none 0 0], .agg #[.int .i64 0, strV [], strV [], .int .i64 0, .slice none 0 0, .slice none 0 0], .bool false]) (by simp [results, Try.results55, go_sem, u0, v0, u1, v1, u2, v2, u3, v3, u4, v4, u5, v5]) rfl ?_
    have hW : Below w.heap.size w W3 := by rw [HGS.out]; exact hb6
    exact ppEndH_none HO.out HBB.out (passP_no2 HBQ.out) hW
  | true =>
  go_upto_region 3 with fail
  go_cut [7, 8] from 9 (fun s7 s8 wx => ∃ (T U : Nat), s7 = .pointer (some ⟨T, 0, none⟩) ∧ s8 = .pointer (some ⟨U, 0, none⟩) ∧ Two w2 wx T U #[.int .i64 q.k, strV q.nm, strV q.to, .int .i64 q.h.pos, .slice D m k, .slice D' m' k'] #[.int .i64 p.k, strV p.nm, strV p.to, .int .i64 p.h.pos, .slice A n c, .slice A' n' c'])
  case first =>
    have x0 : w2.cell? ⟨g, 0, none⟩ = some (.int .i64 p.k) := HB0w2.out.cell 0 rfl; have x1 : w2.cell? ⟨g, 1, none⟩ = some (strV p.nm) := HB0w2.out.cell 1 rfl; have x2 : w2.cell? ⟨g, 2, none⟩ = some (strV p.to) := HB0w2.out.cell 2 rfl; have x3 : w2.cell? ⟨g, 3, none⟩ = some (.int .i64 p.h.pos) := HB0w2.out.cell 3 rfl; have x4 : w2.cell? ⟨g, 4, none⟩ = some (.slice A n c) := HB0w2.out.cell 4 rfl; have x5 : w2.cell? ⟨g, 5, none⟩ = some (.slice A' n' c') := HB0w2.out.cell 5 rfl
    have y0 : w2.cell? ⟨g + 1, 0, none⟩ = some (.int .i64 q.k) := HB1w2.out.cell 0 rfl; have y1 : w2.cell? ⟨g + 1, 1, none⟩ = some (strV q.nm) := HB1w2.out.cell 1 rfl; have y2 : w2.cell? ⟨g + 1, 2, none⟩ = some (strV q.to) := HB1w2.out.cell 2 rfl; have y3 : w2.cell? ⟨g + 1, 3, none⟩ = some (.int .i64 q.h.pos) := HB1w2.out.cell 3 rfl; have y4 : w2.cell? ⟨g + 1, 4, none⟩ = some (.slice D m k) := HB1w2.out.cell 4 rfl; have y5 : w2.cell? ⟨g + 1, 5, none⟩ = some (.slice D' m' k') := HB1w2.out.cell 5 rfl
    have hg0 : g < w2.heap.size := HB0w2.out.lt
    have hg1 : g + 1 < w2.heap.size := HB1w2.out.lt
    go_region
    all_goals (try go_wp2_with fail)
    all_goals go_meet
    all_goals first
      | (with_reducible exact ⟨_, _, rfl, rfl, (two_aa w2 _ _).drew⟩)
      | (with_reducible exact ⟨_, _, rfl, rfl, (two_aa w2 _ _).swap.drew⟩)
      | (exact ⟨_, _, rfl, rfl, (two_aa w2 _ _).drew⟩)
      | (exact ⟨_, _, rfl, rfl, (two_aa w2 _ _).swap.drew⟩)
  case rest =>
  obtain ⟨T, U, rfl, rfl, hbt, hbu, hne, hT, hU, hb⟩ := hcut
  have HBTwc := Lib.hid hbt; have HBUwc := Lib.hid hbu; have HNE := Lib.hid hne
  have HgT : Hid (g + 3 < T ∧ g + 3 < U) := Lib.hid (by have := HB3w2.out.lt; omega)
  have HVwc := Lib.hid (HVw2.out.mv hb); have GVwc := Lib.hid (GVw2.out.mv hb); clear HVw2 GVw2
  clear hbt hbu hne hT hU
  have HWwc := Lib.hid (HWw2.out.trans (hb.mono HGw2.out)); have HGwc := Lib.hid (Nat.le_trans HGw2.out hb.size)
  have HB0wc := Lib.hid (HB0w2.out.below hb HB0w2.out.lt); have HB1wc := Lib.hid (HB1w2.out.below hb HB1w2.out.lt); have HB2wc := Lib.hid (HB2w2.out.below hb HB2w2.out.lt); have HB3wc := Lib.hid (HB3w2.out.below hb HB3w2.out.lt)
  clear hb HWw2 HGw2 HB0w2 HB1w2 HB2w2 HB3w2
  go_wp2_with fail
  go_step3
  go_step
  go_step
  go_step
  go_cut [] from 9 (fun wx => PMid w wx g T U p q)
  case first =>
    have x0 : wc.cell? ⟨g, 0, none⟩ = some (.int .i64 p.k) := HB0wc.out.cell 0 rfl; have x1 : wc.cell? ⟨g, 1, none⟩ = some (strV p.nm) := HB0wc.out.cell 1 rfl; have x2 : wc.cell? ⟨g, 2, none⟩ = some (strV p.to) := HB0wc.out.cell 2 rfl; have x3 : wc.cell? ⟨g, 3, none⟩ = some (.int .i64 p.h.pos) := HB0wc.out.cell 3 rfl; have x4 : wc.cell? ⟨g, 4, none⟩ = some (.slice A n c) := HB0wc.out.cell 4 rfl; have x5 : wc.cell? ⟨g, 5, none⟩ = some (.slice A' n' c') := HB0wc.out.cell 5 rfl
    have y0 : wc.cell? ⟨g + 1, 0, none⟩ = some (.int .i64 q.k) := HB1wc.out.cell 0 rfl; have y1 : wc.cell? ⟨g + 1, 1, none⟩ = some (strV q.nm) := HB1wc.out.cell 1 rfl; have y2 : wc.cell? ⟨g + 1, 2, none⟩ = some (strV q.to) := HB1wc.out.cell 2 rfl; have y3 : wc.cell? ⟨g + 1, 3, none⟩ = some (.int .i64 q.h.pos) := HB1wc.out.cell 3 rfl; have y4 : wc.cell? ⟨g + 1, 4, none⟩ = some (.slice D m k) := HB1wc.out.cell 4 rfl; have y5 : wc.cell? ⟨g + 1, 5, none⟩ = some (.slice D' m' k') := HB1wc.out.cell 5 rfl
    go_wp2_with fail
    clear x0 x1 x2 x3 x4 x5 y0 y1 y2 y3 y4 y5
    refine (Meet A n c A' n' c' D m k D' m' k' p q wc ba HBA.out).mono ?_
    rintro e w4 ⟨rfl, hb⟩
    have HVw4 := Lib.hid (HVwc.out.mv hb); have GVw4 := Lib.hid (GVwc.out.mv hb); clear HVwc GVwc
    have HWw4 := Lib.hid (HWwc.out.trans (hb.mono HGwc.out)); have HGw4 := Lib.hid (Nat.le_trans HGwc.out hb.size)
    have HB0w4 := Lib.hid (HB0wc.out.below hb HB0wc.out.lt); have HB1w4 := Lib.hid (HB1wc.out.below hb HB1wc.out.lt); have HB2w4 := Lib.hid (HB2wc.out.below hb HB2wc.out.lt); have HB3w4 := Lib.hid (HB3wc.out.below hb HB3wc.out.lt); have HBTw4 := Lib.hid (HBTwc.out.below hb HBTwc.out.lt); have HBUw4 := Lib.hid (HBUwc.out.below hb HBUwc.out.lt)
    clear hb HWwc HGwc HB0wc HB1wc HB2wc HB3wc HBTwc HBUwc
    have x0 : w4.cell? ⟨g, 0, none⟩ = some (.int .i64 p.k) := HB0w4.out.cell 0 rfl; have x1 : w4.cell? ⟨g, 1, none⟩ = some (strV p.nm) := HB0w4.out.cell 1 rfl; have x2 : w4.cell? ⟨g, 2, none⟩ = some (strV p.to) := HB0w4.out.cell 2 rfl; have x3 : w4.cell? ⟨g, 3, none⟩ = some (.int .i64 p.h.pos) := HB0w4.out.cell 3 rfl; have x4 : w4.cell? ⟨g, 4, none⟩ = some (.slice A n c) := HB0w4.out.cell 4 rfl; have x5 : w4.cell? ⟨g, 5, none⟩ = some (.slice A' n' c') := HB0w4.out.cell 5 rfl
    have y0 : w4.cell? ⟨g + 1, 0, none⟩ = some (.int .i64 q.k) := HB1w4.out.cell 0 rfl; have y1 : w4.cell? ⟨g + 1, 1, none⟩ = some (strV q.nm) := HB1w4.out.cell 1 rfl; have y2 : w4.cell? ⟨g + 1, 2, none⟩ = some (strV q.to) := HB1w4.out.cell 2 rfl; have y3 : w4.cell? ⟨g + 1, 3, none⟩ = some (.int .i64 q.h.pos) := HB1w4.out.cell 3 rfl; have y4 : w4.cell? ⟨g + 1, 4, none⟩ = some (.slice D m k) := HB1w4.out.cell 4 rfl; have y5 : w4.cell? ⟨g + 1, 5, none⟩ = some (.slice D' m' k') := HB1w4.out.cell 5 rfl
    cases ba with
    | true =>
      go_wp2_with fail
      go_meet
      exact ⟨_, _, D, m, k, D', m', k', A, n, c, A', n', c', (passP_ap HBP.out HBQ.out HBA.out), HBTw4.out, HBUw4.out, HB2w4.out, HB3w4.out, GVw4.out, HVw4.out, GL.out, HL.out, HWw4.out⟩
    | false =>
    by_cases h3 : p.k = 3 ∧ q.k = 3
    · have e1 : (p.k == 3) = true := by simpa using h3.1
      have e2 : (q.k == 3) = true := by simpa using h3.2
      have H3 := Lib.hid h3; clear h3
      go_wp2_with fail
      clear x0 x1 x2 x3 x4 x5 y0 y1 y2 y3 y4 y5
      refine (Sw.PassHi A n c A' n' c' D m k D' m' k' w4.heap.size p.h q.h w4 (Nat.le_refl _) HL.out.1 HL.out.2 GL.out.1 GL.out.2 HVw4.out.h GVw4.out.h).mono ?_
      rintro e w5 hend
      have hb : Below w4.heap.size w4 w5 := by obtain ⟨_, _, _, _, _, _, _, _, _, _, _, _, _, _, _, _, hb⟩ := hend; exact hb
      cases hz : Sw.passH p.h q.h with
      | none =>
        have HN : Hid (passP p q = none) := Lib.hid (by rw [passP_b HBP.out HBQ.out HBA.out H3.out.1 H3.out.2, hz]; rfl)
        have hz0 : Sw.outH (Sw.passH p.h q.h) = (Sw.zeroH, Sw.zeroH) := by rw [hz]; rfl
        obtain ⟨E1, i1, j1, E2, i2, j2, G1, k1, l1, G2, k2, l2, he, v1, v2, hhi, _⟩ := hend
        clear v1 v2 hhi
        rw [hz0, hz] at he
        have he' : e = .returned (.tuple #[Hk.hkV 0 E1 i1 j1 E2 i2 j2, Hk.hkV 0 G1 k1 l1 G2 k2 l2, .bool false]) := he
        clear he
        subst he'
        clear hz hz0
        have HVw5 := Lib.hid (HVw4.out.mv hb); have GVw5 := Lib.hid (GVw4.out.mv hb); clear HVw4 GVw4
        have HWw5 := Lib.hid (HWw4.out.trans (hb.mono HGw4.out)); have HGw5 := Lib.hid (Nat.le_trans HGw4.out hb.size)
        have HB0w5 := Lib.hid (HB0w4.out.below hb HB0w4.out.lt); have HB1w5 := Lib.hid (HB1w4.out.below hb HB1w4.out.lt); have HB2w5 := Lib.hid (HB2w4.out.below hb HB2w4.out.lt); have HB3w5 := Lib.hid (HB3w4.out.below hb HB3w4.out.lt); have HBTw5 := Lib.hid (HBTw4.out.below hb HBTw4.out.lt); have HBUw5 := Lib.hid (HBUw4.out.below hb HBUw4.out.lt)
        clear hb HWw4 HGw4 HB0w4 HB1w4 HB2w4 HB3w4 HBTw4 HBUw4
        go_upto_region 10 with fail
        have hb : Below w5.heap.size w5 ((w5.alloc (.cells #[.int .i64 0, .slice E1 i1 j1, .slice E2 i2 j2] 49)).alloc (.cells #[.int .i64 0, .slice G1 k1 l1, .slice G2 k2 l2] 49)) := two_box _ _ _
        have HBX := Lib.hid ((Blk.new w5 49 #[.int .i64 0, .slice E1 i1 j1, .slice E2 i2 j2]).alloc (.cells #[.int .i64 0, .slice G1 k1 l1, .slice G2 k2 l2] 49))
        have hby := Blk.new (w5.alloc (.cells #[.int .i64 0, .slice E1 i1 j1, .slice E2 i2 j2] 49)) 49 #[.int .i64 0, .slice G1 k1 l1, .slice G2 k2 l2]
        simp only [World.size_alloc] at hby
        have HBY := Lib.hid hby
        clear hby
        have HVw6 := Lib.hid (HVw5.out.mv hb); have GVw6 := Lib.hid (GVw5.out.mv hb); clear HVw5 GVw5
        have HG5 := Lib.hid (show T < w5.heap.size ∧ U < w5.heap.size from ⟨HBTw5.out.lt, HBUw5.out.lt⟩)
        have HWw6 := Lib.hid (HWw5.out.trans (hb.mono HGw5.out)); have HGw6 := Lib.hid (Nat.le_trans HGw5.out hb.size)
        have HB0w6 := Lib.hid (HB0w5.out.below hb HB0w5.out.lt); have HB1w6 := Lib.hid (HB1w5.out.below hb HB1w5.out.lt); have HB2w6 := Lib.hid (HB2w5.out.below hb HB2w5.out.lt); have HB3w6 := Lib.hid (HB3w5.out.below hb HB3w5.out.lt); have HBTw6 := Lib.hid (HBTw5.out.below hb HBTw5.out.lt); have HBUw6 := Lib.hid (HBUw5.out.below hb HBUw5.out.lt)
        clear hb HWw5 HGw5 HB0w5 HB1w5 HB2w5 HB3w5 HBTw5 HBUw5
        generalize ((w5.alloc (.cells #[.int .i64 0, .slice E1 i1 j1, .slice E2 i2 j2] 49)).alloc (.cells #[.int .i64 0, .slice G1 k1 l1, .slice G2 k2 l2] 49)) = w6 at *
        generalize w5.heap.size = g5 at *
        have x0 : w6.cell? ⟨g, 0, none⟩ = some (.int .i64 p.k) := HB0w6.out.cell 0 rfl; have x1 : w6.cell? ⟨g, 1, none⟩ = some (strV p.nm) := HB0w6.out.cell 1 rfl; have x2 : w6.cell? ⟨g, 2, none⟩ = some (strV p.to) := HB0w6.out.cell 2 rfl; have x3 : w6.cell? ⟨g, 3, none⟩ = some (.int .i64 p.h.pos) := HB0w6.out.cell 3 rfl; have x4 : w6.cell? ⟨g, 4, none⟩ = some (.slice A n c) := HB0w6.out.cell 4 rfl; have x5 : w6.cell? ⟨g, 5, none⟩ = some (.slice A' n' c') := HB0w6.out.cell 5 rfl
        have y0 : w6.cell? ⟨g + 1, 0, none⟩ = some (.int .i64 q.k) := HB1w6.out.cell 0 rfl; have y1 : w6.cell? ⟨g + 1, 1, none⟩ = some (strV q.nm) := HB1w6.out.cell 1 rfl; have y2 : w6.cell? ⟨g + 1, 2, none⟩ = some (strV q.to) := HB1w6.out.cell 2 rfl; have y3 : w6.cell? ⟨g + 1, 3, none⟩ = some (.int .i64 q.h.pos) := HB1w6.out.cell 3 rfl; have y4 : w6.cell? ⟨g + 1, 4, none⟩ = some (.slice D m k) := HB1w6.out.cell 4 rfl; have y5 : w6.cell? ⟨g + 1, 5, none⟩ = some (.slice D' m' k') := HB1w6.out.cell 5 rfl
        have e3 := name_ne HBP.out HBQ.out (.inl H3.out.1)
        have e4 : (q.k == 2) = false := by rw [beq_eq_false_iff_ne]; have := H3.out.2; omega
        have u0 : w6.cell? ⟨g + 2, 0, none⟩ = some (.int .i64 0) := HB2w6.out.cell 0 rfl; have u1 : w6.cell? ⟨g + 2, 1, none⟩ = some (strV []) := HB2w6.out.cell 1 rfl; have u2 : w6.cell? ⟨g + 2, 2, none⟩ = some (strV []) := HB2w6.out.cell 2 rfl; have u3 : w6.cell? ⟨g + 2, 3, none⟩ = some (.int .i64 0) := HB2w6.out.cell 3 rfl; have u4 : w6.cell? ⟨g + 2, 4, none⟩ = some (.slice none 0 0) := HB2w6.out.cell 4 rfl; have u5 : w6.cell? ⟨g + 2, 5, none⟩ = some (.slice none 0 0) := HB2w6.out.cell 5 rfl
        have v0 : w6.cell? ⟨g + 3, 0, none⟩ = some (.int .i64 0) := HB3w6.out.cell 0 rfl; have v1 : w6.cell? ⟨g + 3, 1, none⟩ = some (strV []) := HB3w6.out.cell 1 rfl; have v2 : w6.cell? ⟨g + 3, 2, none⟩ = some (strV []) := HB3w6.out.cell 2 rfl; have v3 : w6.cell? ⟨g + 3, 3, none⟩ = some (.int .i64 0) := HB3w6.out.cell 3 rfl; have v4 : w6.cell? ⟨g + 3, 4, none⟩ = some (.slice none 0 0) := HB3w6.out.cell 4 rfl; have v5 : w6.cell? ⟨g + 3, 5, none⟩ = some (.slice none 0 0) := HB3w6.out.cell 5 rfl
        have f0 : w6.frozen? ⟨g + 2, 0, none⟩ = false := HB2w6.out.frozen 0; have f1 : w6.frozen? ⟨g + 2, 1, none⟩ = false := HB2w6.out.frozen 1; have f2 : w6.frozen? ⟨g + 2, 2, none⟩ = false := HB2w6.out.frozen 2; have f3 : w6.frozen? ⟨g + 2, 3, none⟩ = false := HB2w6.out.frozen 3; have f4 : w6.frozen? ⟨g + 2, 4, none⟩ = false := HB2w6.out.frozen 4; have f5 : w6.frozen? ⟨g + 2, 5, none⟩ = false := HB2w6.out.frozen 5
        have h0 : w6.frozen? ⟨g + 3, 0, none⟩ = false := HB3w6.out.frozen 0; have h1 : w6.frozen? ⟨g + 3, 1, none⟩ = false := HB3w6.out.frozen 1; have h2 : w6.frozen? ⟨g + 3, 2, none⟩ = false := HB3w6.out.frozen 2; have h3 : w6.frozen? ⟨g + 3, 3, none⟩ = false := HB3w6.out.frozen 3; have h4 : w6.frozen? ⟨g + 3, 4, none⟩ = false := HB3w6.out.frozen 4; have h5 : w6.frozen? ⟨g + 3, 5, none⟩ = false := HB3w6.out.frozen 5
        go_wp2_with fail
        obtain ⟨z2, z3⟩ := two_set6 HB2w6.out HB3w6.out (by omega) (.int .i64 0) (strV []) (strV []) (.int .i64 0) (.slice none 0 0) (.slice none 0 0) (.int .i64 0) (strV []) (strV []) (.int .i64 0) (.slice none 0 0) (.slice none 0 0)
        have hb6 := below_set12 (b := g + 2) (b' := g + 3) HWw6.out (by omega) (by omega) (.int .i64 0) (strV []) (strV []) (.int .i64 0) (.slice none 0 0) (.slice none 0 0) (.int .i64 0) (strV []) (strV []) (.int .i64 0) (.slice none 0 0) (.slice none 0 0)
        generalize (World.setCell (World.setCell (World.setCell (World.setCell (World.setCell (World.setCell (World.setCell (World.setCell (World.setCell (World.setCell (World.setCell (World.setCell w6 ⟨g + 2, 0, none⟩ (.int .i64 0)) ⟨g + 2, 1, none⟩ (strV [])) ⟨g + 2, 2, none⟩ (strV [])) ⟨g + 2, 3, none⟩ (.int .i64 0)) ⟨g + 2, 4, none⟩ (.slice none 0 0)) ⟨g + 2, 5, none⟩ (.slice none 0 0)) ⟨g + 3, 0, none⟩ (.int .i64 0)) ⟨g + 3, 1, none⟩ (strV [])) ⟨g + 3, 2, none⟩ (strV [])) ⟨g + 3, 3, none⟩ (.int .i64 0)) ⟨g + 3, 4, none⟩ (.slice none 0 0)) ⟨g + 3, 5, none⟩ (.slice none 0 0)) = W3 at *
        clear u0 u1 u2 u3 u4 u5 v0 v1 v2 v3 v4 v5 f0 f1 f2 f3 f4 f5 h0 h1 h2 h3 h4 h5
        have u0 : W3.cell? ⟨g + 2, 0, none⟩ = some (.int .i64 0) := z2.cell 0 rfl; have u1 : W3.cell? ⟨g + 2, 1, none⟩ = some (strV []) := z2.cell 1 rfl; have u2 : W3.cell? ⟨g + 2, 2, none⟩ = some (strV []) := z2.cell 2 rfl; have u3 : W3.cell? ⟨g + 2, 3, none⟩ = some (.int .i64 0) := z2.cell 3 rfl; have u4 : W3.cell? ⟨g + 2, 4, none⟩ = some (.slice none 0 0) := z2.cell 4 rfl; have u5 : W3.cell? ⟨g + 2, 5, none⟩ = some (.slice none 0 0) := z2.cell 5 rfl
        have v0 : W3.cell? ⟨g + 3, 0, none⟩ = some (.int .i64 0) := z3.cell 0 rfl; have v1 : W3.cell? ⟨g + 3, 1, none⟩ = some (strV []) := z3.cell 1 rfl; have v2 : W3.cell? ⟨g + 3, 2, none⟩ = some (strV []) := z3.cell 2 rfl; have v3 : W3.cell? ⟨g + 3, 3, none⟩ = some (.int .i64 0) := z3.cell 3 rfl; have v4 : W3.cell? ⟨g + 3, 4, none⟩ = some (.slice none 0 0) := z3.cell 4 rfl; have v5 : W3.cell? ⟨g + 3, 5, none⟩ = some (.slice none 0 0) := z3.cell 5 rfl
        try rw [Exit.noGoto_ret]
        refine bodyPost_ret (v := .tuple #[.agg #[.int .i64 0, strV [], strV [], .int .i64 0, .slice none 0 0, .slice none 0 0], .agg #[.int .i64 0, strV [], strV [], .int .i64 0, .slice none 0 0, .slice none 0 0], .bool false]) (by simp [results, Try.results55, go_sem, u0, v0, u1, v1, u2, v2, u3, v3, u4, v4, u5, v5]) rfl ?_
        have hW : Below w.heap.size w W3 := by rw [HGS.out]; exact hb6
        exact ppEndH_none HO.out HBB.out HN.out hW
      | some z =>
        obtain ⟨hx, hy⟩ := z
        have HS : Hid (passP p q = some (⟨q.k, q.nm, q.to, hx⟩, ⟨p.k, p.nm, p.to, hy⟩)) := Lib.hid (by rw [passP_b HBP.out HBQ.out HBA.out H3.out.1 H3.out.2, hz]; rfl)
        have hz0 : Sw.outH (Sw.passH p.h q.h) = (hx, hy) := by rw [hz]; rfl
        obtain ⟨E1, i1, j1, E2, i2, j2, G1, k1, l1, G2, k2, l2, he, v1, v2, hhi, _⟩ := hend
        rw [hz0, hz] at he
        rw [hz0] at v1 v2
        have he' : e = .returned (.tuple #[Hk.hkV hx.pos E1 i1 j1 E2 i2 j2, Hk.hkV hy.pos G1 k1 l1 G2 k2 l2, .bool true]) := he
        replace v1 : HV w5 w5.heap.size E1 i1 j1 E2 i2 j2 hx := v1
        replace v2 : HV w5 w5.heap.size G1 k1 l1 G2 k2 l2 hy := v2
        clear he
        subst he'
        obtain ⟨_, r1, r2, r3, r4⟩ := Sw.pass_moves (x := hx) (y := hy) (Sw.passH_may hz).2.2.1
        have gl2 : (i1 ≤ 1000 ∧ i2 ≤ 1000) ∧ (k1 ≤ 1000 ∧ k2 ≤ 1000) := by
          have a1 := v1.l; have a2 := v1.l'; have a3 := v2.l; have a4 := v2.l'
          have b1 := GV0.out.h.l; have b2 := GV0.out.h.l'; have b3 := HV0.out.h.l; have b4 := HV0.out.h.l'
          have c1 := HL.out; have c2 := GL.out
          rw [r1] at a1; rw [r2] at a2; rw [r3] at a3; rw [r4] at a4
          omega
        have GL2 := Lib.hid gl2
        have V1 : Hid (PV w5 w5.heap.size E1 i1 j1 E2 i2 j2 ⟨q.k, q.nm, q.to, hx⟩) := Lib.hid (GV0.out.hunk v1 r1 r2)
        have V2 : Hid (PV w5 w5.heap.size G1 k1 l1 G2 k2 l2 ⟨p.k, p.nm, p.to, hy⟩) := Lib.hid (HV0.out.hunk v2 r3 r4)
        have hhi1 : Hi w4.heap.size E1 ∧ Hi w4.heap.size E2 ∧ Hi w4.heap.size G1 ∧ Hi w4.heap.size G2 := hhi
        have HHI := Lib.hid (And.intro hhi1 (And.intro HBTw4.out.lt HBUw4.out.lt))
        clear hz hz0 r1 r2 r3 r4 v1 v2 gl2 hhi hhi1
        have HVw5 := Lib.hid (HVw4.out.mv hb); have GVw5 := Lib.hid (GVw4.out.mv hb); clear HVw4 GVw4
        have HWw5 := Lib.hid (HWw4.out.trans (hb.mono HGw4.out)); have HGw5 := Lib.hid (Nat.le_trans HGw4.out hb.size)
        have HB0w5 := Lib.hid (HB0w4.out.below hb HB0w4.out.lt); have HB1w5 := Lib.hid (HB1w4.out.below hb HB1w4.out.lt); have HB2w5 := Lib.hid (HB2w4.out.below hb HB2w4.out.lt); have HB3w5 := Lib.hid (HB3w4.out.below hb HB3w4.out.lt); have HBTw5 := Lib.hid (HBTw4.out.below hb HBTw4.out.lt); have HBUw5 := Lib.hid (HBUw4.out.below hb HBUw4.out.lt)
        clear hb HWw4 HGw4 HB0w4 HB1w4 HB2w4 HB3w4 HBTw4 HBUw4
        go_upto_region 10 with fail
        have hb : Below w5.heap.size w5 ((w5.alloc (.cells #[.int .i64 hx.pos, .slice E1 i1 j1, .slice E2 i2 j2] 49)).alloc (.cells #[.int .i64 hy.pos, .slice G1 k1 l1, .slice G2 k2 l2] 49)) := two_box _ _ _
        have HBX := Lib.hid ((Blk.new w5 49 #[.int .i64 hx.pos, .slice E1 i1 j1, .slice E2 i2 j2]).alloc (.cells #[.int .i64 hy.pos, .slice G1 k1 l1, .slice G2 k2 l2] 49))
        have hby := Blk.new (w5.alloc (.cells #[.int .i64 hx.pos, .slice E1 i1 j1, .slice E2 i2 j2] 49)) 49 #[.int .i64 hy.pos, .slice G1 k1 l1, .slice G2 k2 l2]
        simp only [World.size_alloc] at hby
        have HBY := Lib.hid hby
        clear hby
        have HVw6 := Lib.hid (HVw5.out.mv hb); have GVw6 := Lib.hid (GVw5.out.mv hb); clear HVw5 GVw5
        have HG5 := Lib.hid (show T < w5.heap.size ∧ U < w5.heap.size from ⟨HBTw5.out.lt, HBUw5.out.lt⟩)
        have V1w6 := Lib.hid (V1.out.mv hb); have V2w6 := Lib.hid (V2.out.mv hb); clear V1 V2
        have HWw6 := Lib.hid (HWw5.out.trans (hb.mono HGw5.out)); have HGw6 := Lib.hid (Nat.le_trans HGw5.out hb.size)
        have HB0w6 := Lib.hid (HB0w5.out.below hb HB0w5.out.lt); have HB1w6 := Lib.hid (HB1w5.out.below hb HB1w5.out.lt); have HB2w6 := Lib.hid (HB2w5.out.below hb HB2w5.out.lt); have HB3w6 := Lib.hid (HB3w5.out.below hb HB3w5.out.lt); have HBTw6 := Lib.hid (HBTw5.out.below hb HBTw5.out.lt); have HBUw6 := Lib.hid (HBUw5.out.below hb HBUw5.out.lt)
        clear hb HWw5 HGw5 HB0w5 HB1w5 HB2w5 HB3w5 HBTw5 HBUw5
        generalize ((w5.alloc (.cells #[.int .i64 hx.pos, .slice E1 i1 j1, .slice E2 i2 j2] 49)).alloc (.cells #[.int .i64 hy.pos, .slice G1 k1 l1, .slice G2 k2 l2] 49)) = w6 at *
        generalize w5.heap.size = g5 at *
        have a0 : w6.cell? ⟨g5, 0, none⟩ = some (.int .i64 hx.pos) := HBX.out.cell 0 rfl; have a1 : w6.cell? ⟨g5, 1, none⟩ = some (.slice E1 i1 j1) := HBX.out.cell 1 rfl; have a2 : w6.cell? ⟨g5, 2, none⟩ = some (.slice E2 i2 j2) := HBX.out.cell 2 rfl
        have b0 : w6.cell? ⟨g5 + 1, 0, none⟩ = some (.int .i64 hy.pos) := HBY.out.cell 0 rfl; have b1 : w6.cell? ⟨g5 + 1, 1, none⟩ = some (.slice G1 k1 l1) := HBY.out.cell 1 rfl; have b2 : w6.cell? ⟨g5 + 1, 2, none⟩ = some (.slice G2 k2 l2) := HBY.out.cell 2 rfl
        have t0 : w6.cell? ⟨T, 0, none⟩ = some (.int .i64 q.k) := HBTw6.out.cell 0 rfl; have t1 : w6.cell? ⟨T, 1, none⟩ = some (strV q.nm) := HBTw6.out.cell 1 rfl; have t2 : w6.cell? ⟨T, 2, none⟩ = some (strV q.to) := HBTw6.out.cell 2 rfl; have t3 : w6.cell? ⟨T, 3, none⟩ = some (.int .i64 q.h.pos) := HBTw6.out.cell 3 rfl; have t4 : w6.cell? ⟨T, 4, none⟩ = some (.slice D m k) := HBTw6.out.cell 4 rfl; have t5 : w6.cell? ⟨T, 5, none⟩ = some (.slice D' m' k') := HBTw6.out.cell 5 rfl
        have s0 : w6.cell? ⟨U, 0, none⟩ = some (.int .i64 p.k) := HBUw6.out.cell 0 rfl; have s1 : w6.cell? ⟨U, 1, none⟩ = some (strV p.nm) := HBUw6.out.cell 1 rfl; have s2 : w6.cell? ⟨U, 2, none⟩ = some (strV p.to) := HBUw6.out.cell 2 rfl; have s3 : w6.cell? ⟨U, 3, none⟩ = some (.int .i64 p.h.pos) := HBUw6.out.cell 3 rfl; have s4 : w6.cell? ⟨U, 4, none⟩ = some (.slice A n c) := HBUw6.out.cell 4 rfl; have s5 : w6.cell? ⟨U, 5, none⟩ = some (.slice A' n' c') := HBUw6.out.cell 5 rfl
        have k3 : w6.frozen? ⟨T, 3, none⟩ = false := HBTw6.out.frozen 3; have k4 : w6.frozen? ⟨T, 4, none⟩ = false := HBTw6.out.frozen 4; have k5 : w6.frozen? ⟨T, 5, none⟩ = false := HBTw6.out.frozen 5
        have l3 : w6.frozen? ⟨U, 3, none⟩ = false := HBUw6.out.frozen 3; have l4 : w6.frozen? ⟨U, 4, none⟩ = false := HBUw6.out.frozen 4; have l5 : w6.frozen? ⟨U, 5, none⟩ = false := HBUw6.out.frozen 5
        have hn1 := HNE.out; have hn2 := HNE.out.symm; have hg5 := HG5.out.1; have hg6 := HG5.out.2
        go_upto_region 11 with fail
        go_region
        go_wp2_with fail
        have HBTw7 := Lib.hid (three_set (b' := U) (blk3 HBTw6.out (.int .i64 hx.pos) (.slice E1 i1 j1) (.slice E2 i2 j2)) HNE.out (.int .i64 hy.pos) (.slice G1 k1 l1) (.slice G2 k2 l2))
        have HBUw7 := Lib.hid (blk3 (three_set (b' := T) HBUw6.out HNE.out.symm (.int .i64 hx.pos) (.slice E1 i1 j1) (.slice E2 i2 j2)) (.int .i64 hy.pos) (.slice G1 k1 l1) (.slice G2 k2 l2))
        have HB2w7 := Lib.hid (three_set (b' := U) (three_set (b' := T) HB2w6.out (by have := HgT.out; omega) (.int .i64 hx.pos) (.slice E1 i1 j1) (.slice E2 i2 j2)) (by have := HgT.out; omega) (.int .i64 hy.pos) (.slice G1 k1 l1) (.slice G2 k2 l2))
        have HB3w7 := Lib.hid (three_set (b' := U) (three_set (b' := T) HB3w6.out (by have := HgT.out; omega) (.int .i64 hx.pos) (.slice E1 i1 j1) (.slice E2 i2 j2)) (by have := HgT.out; omega) (.int .i64 hy.pos) (.slice G1 k1 l1) (.slice G2 k2 l2))
        have HP1 : Hid (PV (World.setCell (World.setCell (World.setCell (World.setCell (World.setCell (World.setCell w6 ⟨T, 3, none⟩ (.int .i64 hx.pos)) ⟨T, 4, none⟩ (.slice E1 i1 j1)) ⟨T, 5, none⟩ (.slice E2 i2 j2)) ⟨U, 3, none⟩ (.int .i64 hy.pos)) ⟨U, 4, none⟩ (.slice G1 k1 l1)) ⟨U, 5, none⟩ (.slice G2 k2 l2)) w6.heap.size E1 i1 j1 E2 i2 j2 ⟨q.k, q.nm, q.to, hx⟩) := Lib.hid ((((((V1w6.out.hi HHI.out.1.1 HHI.out.1.2.1 HHI.out.2.1 3 _).hi HHI.out.1.1 HHI.out.1.2.1 HHI.out.2.1 4 _).hi HHI.out.1.1 HHI.out.1.2.1 HHI.out.2.1 5 _).hi HHI.out.1.1 HHI.out.1.2.1 HHI.out.2.2 3 _).hi HHI.out.1.1 HHI.out.1.2.1 HHI.out.2.2 4 _).hi HHI.out.1.1 HHI.out.1.2.1 HHI.out.2.2 5 _)
        have HP2 : Hid (PV (World.setCell (World.setCell (World.setCell (World.setCell (World.setCell (World.setCell w6 ⟨T, 3, none⟩ (.int .i64 hx.pos)) ⟨T, 4, none⟩ (.slice E1 i1 j1)) ⟨T, 5, none⟩ (.slice E2 i2 j2)) ⟨U, 3, none⟩ (.int .i64 hy.pos)) ⟨U, 4, none⟩ (.slice G1 k1 l1)) ⟨U, 5, none⟩ (.slice G2 k2 l2)) w6.heap.size G1 k1 l1 G2 k2 l2 ⟨p.k, p.nm, p.to, hy⟩) := Lib.hid ((((((V2w6.out.hi HHI.out.1.2.2.1 HHI.out.1.2.2.2 HHI.out.2.1 3 _).hi HHI.out.1.2.2.1 HHI.out.1.2.2.2 HHI.out.2.1 4 _).hi HHI.out.1.2.2.1 HHI.out.1.2.2.2 HHI.out.2.1 5 _).hi HHI.out.1.2.2.1 HHI.out.1.2.2.2 HHI.out.2.2 3 _).hi HHI.out.1.2.2.1 HHI.out.1.2.2.2 HHI.out.2.2 4 _).hi HHI.out.1.2.2.1 HHI.out.1.2.2.2 HHI.out.2.2 5 _)
        have HWw7 : Hid (Below g w (World.setCell (World.setCell (World.setCell (World.setCell (World.setCell (World.setCell w6 ⟨T, 3, none⟩ (.int .i64 hx.pos)) ⟨T, 4, none⟩ (.slice E1 i1 j1)) ⟨T, 5, none⟩ (.slice E2 i2 j2)) ⟨U, 3, none⟩ (.int .i64 hy.pos)) ⟨U, 4, none⟩ (.slice G1 k1 l1)) ⟨U, 5, none⟩ (.slice G2 k2 l2))) := Lib.hid ((((((HWw6.out.setCell (p := ⟨T, 3, none⟩) (by have := HgT.out; show g ≤ T; omega) (.int .i64 hx.pos)).setCell (p := ⟨T, 4, none⟩) (by have := HgT.out; show g ≤ T; omega) (.slice E1 i1 j1)).setCell (p := ⟨T, 5, none⟩) (by have := HgT.out; show g ≤ T; omega) (.slice E2 i2 j2)).setCell (p := ⟨U, 3, none⟩) (by have := HgT.out; show g ≤ U; omega) (.int .i64 hy.pos)).setCell (p := ⟨U, 4, none⟩) (by have := HgT.out; show g ≤ U; omega) (.slice G1 k1 l1)).setCell (p := ⟨U, 5, none⟩) (by have := HgT.out; show g ≤ U; omega) (.slice G2 k2 l2))
        have HSZ : Hid ((World.setCell (World.setCell (World.setCell (World.setCell (World.setCell (World.setCell w6 ⟨T, 3, none⟩ (.int .i64 hx.pos)) ⟨T, 4, none⟩ (.slice E1 i1 j1)) ⟨T, 5, none⟩ (.slice E2 i2 j2)) ⟨U, 3, none⟩ (.int .i64 hy.pos)) ⟨U, 4, none⟩ (.slice G1 k1 l1)) ⟨U, 5, none⟩ (.slice G2 k2 l2)).heap.size = w6.heap.size) := Lib.hid (by simp)
        go_meet
        first
          | (exact ⟨_, _, E1, i1, j1, E2, i2, j2, G1, k1, l1, G2, k2, l2, HS.out, (HBTw7.out.drewN 1), (HBUw7.out.drewN 1), (HB2w7.out.drewN 1), (HB3w7.out.drewN 1), ((HP1.out.drewN 1)).up (Nat.le_of_eq HSZ.out.symm), ((HP2.out.drewN 1)).up (Nat.le_of_eq HSZ.out.symm), GL2.out.1, GL2.out.2, (below_drewN HWw7.out 1)⟩)
          | (exact ⟨_, _, E1, i1, j1, E2, i2, j2, G1, k1, l1, G2, k2, l2, HS.out, HBTw7.out, HBUw7.out, HB2w7.out, HB3w7.out, (HP1.out).up (Nat.le_of_eq HSZ.out.symm), (HP2.out).up (Nat.le_of_eq HSZ.out.symm), GL2.out.1, GL2.out.2, HWw7.out⟩)
    by_cases hi : q.k = 2 ∧ (p.k = 3 ∨ p.k = 4) ∧ p.nm = q.nm
    · have e4 : (q.k == 2) = true := by simpa using hi.1
      have e5 : (q.nm == p.nm) = true := by simpa using hi.2.2.symm
      have e6 : (q.k == 3) = false := by rw [beq_eq_false_iff_ne]; have := hi.1; omega
      have HS : Hid (passP p q = some (q, ⟨p.k, q.to, p.to, p.h⟩)) := Lib.hid (passP_i HBP.out HBQ.out HBA.out hi.1 hi.2.1 hi.2.2)
      have HI := Lib.hid hi
      clear hi h3
      have s0 : w4.cell? ⟨U, 0, none⟩ = some (.int .i64 p.k) := HBUw4.out.cell 0 rfl; have s1 : w4.cell? ⟨U, 1, none⟩ = some (strV p.nm) := HBUw4.out.cell 1 rfl; have s2 : w4.cell? ⟨U, 2, none⟩ = some (strV p.to) := HBUw4.out.cell 2 rfl; have s3 : w4.cell? ⟨U, 3, none⟩ = some (.int .i64 p.h.pos) := HBUw4.out.cell 3 rfl; have s4 : w4.cell? ⟨U, 4, none⟩ = some (.slice A n c) := HBUw4.out.cell 4 rfl; have s5 : w4.cell? ⟨U, 5, none⟩ = some (.slice A' n' c') := HBUw4.out.cell 5 rfl
      have l1 : w4.frozen? ⟨U, 1, none⟩ = false := HBUw4.out.frozen 1
      have HBUw6 := Lib.hid (show Blk (World.setCell w4 ⟨U, 1, none⟩ (strV q.to)) U 51 #[.int .i64 p.k, strV q.to, strV p.to, .int .i64 p.h.pos, .slice A n c, .slice A' n' c'] from HBUw4.out.set 1 (strV q.to))
      have HBTw6 := Lib.hid (HBTw4.out.set_ne HNE.out 1 (strV q.to))
      have HB2w6 := Lib.hid (HB2w4.out.set_ne (show g + 2 ≠ U from by have := HgT.out; omega) 1 (strV q.to))
      have HB3w6 := Lib.hid (HB3w4.out.set_ne (show g + 3 ≠ U from by have := HgT.out; omega) 1 (strV q.to))
      have HWw6 := Lib.hid (HWw4.out.setCell (p := ⟨U, 1, none⟩) (by have := HgT.out; show g ≤ U; omega) (strV q.to))
      have hw6 : Below w.heap.size w (World.setCell w4 ⟨U, 1, none⟩ (strV q.to)) := by rw [HGS.out]; exact HWw6.out
      have HP1 := Lib.hid (GV0.out.mv hw6); have HP2 := Lib.hid ((HV0.out.mv hw6).name q.to GV0.out.to)
      clear hw6
      rcases (show (p.k == 3) = true ∨ (p.k == 3) = false ∧ (p.k == 4) = true from by
        rcases HI.out.2.1 with h | h
        · exact .inl (by simpa using h)
        · exact .inr ⟨by rw [beq_eq_false_iff_ne]; omega, by simpa using h⟩) with e1 | ⟨e1, e2⟩
      all_goals
        go_wp2_with fail
        go_meet
        exact ⟨_, _, D, m, k, D', m', k', A, n, c, A', n', c', HS.out, HBTw6.out, HBUw6.out, HB2w6.out, HB3w6.out, HP1.out, HP2.out, GL.out, HL.out, HWw6.out⟩
    by_cases ho : p.k = 2 ∧ (q.k = 3 ∨ q.k = 4) ∧ q.nm = p.to
    · have e1 : (p.k == 3) = false := by rw [beq_eq_false_iff_ne]; have := ho.1; omega
      have e2 : (p.k == 4) = false := by rw [beq_eq_false_iff_ne]; have := ho.1; omega
      have e3 : (p.k == 2) = true := by simpa using ho.1
      have e5 : (q.nm == p.to) = true := by simpa using ho.2.2
      have HS : Hid (passP p q = some (⟨q.k, p.nm, q.to, q.h⟩, p)) := Lib.hid (passP_o HBP.out HBQ.out HBA.out ho.1 ho.2.1 ho.2.2)
      have HO1 := Lib.hid ho
      clear hi ho h3
      have t0 : w4.cell? ⟨T, 0, none⟩ = some (.int .i64 q.k) := HBTw4.out.cell 0 rfl; have t1 : w4.cell? ⟨T, 1, none⟩ = some (strV q.nm) := HBTw4.out.cell 1 rfl; have t2 : w4.cell? ⟨T, 2, none⟩ = some (strV q.to) := HBTw4.out.cell 2 rfl; have t3 : w4.cell? ⟨T, 3, none⟩ = some (.int .i64 q.h.pos) := HBTw4.out.cell 3 rfl; have t4 : w4.cell? ⟨T, 4, none⟩ = some (.slice D m k) := HBTw4.out.cell 4 rfl; have t5 : w4.cell? ⟨T, 5, none⟩ = some (.slice D' m' k') := HBTw4.out.cell 5 rfl
      have l1 : w4.frozen? ⟨T, 1, none⟩ = false := HBTw4.out.frozen 1
      have HBTw6 := Lib.hid (show Blk (World.setCell w4 ⟨T, 1, none⟩ (strV p.nm)) T 51 #[.int .i64 q.k, strV p.nm, strV q.to, .int .i64 q.h.pos, .slice D m k, .slice D' m' k'] from HBTw4.out.set 1 (strV p.nm))
      have HBUw6 := Lib.hid (HBUw4.out.set_ne HNE.out.symm 1 (strV p.nm))
      have HB2w6 := Lib.hid (HB2w4.out.set_ne (show g + 2 ≠ T from by have := HgT.out; omega) 1 (strV p.nm))
      have HB3w6 := Lib.hid (HB3w4.out.set_ne (show g + 3 ≠ T from by have := HgT.out; omega) 1 (strV p.nm))
      have HWw6 := Lib.hid (HWw4.out.setCell (p := ⟨T, 1, none⟩) (by have := HgT.out; show g ≤ T; omega) (strV p.nm))
      have hw6 : Below w.heap.size w (World.setCell w4 ⟨T, 1, none⟩ (strV p.nm)) := by rw [HGS.out]; exact HWw6.out
      have HP1 := Lib.hid ((GV0.out.mv hw6).name p.nm HV0.out.nm); have HP2 := Lib.hid (HV0.out.mv hw6)
      clear hw6
      rcases (show (q.k == 3) = true ∨ (q.k == 3) = false ∧ (q.k == 4) = true from by
        rcases HO1.out.2.1 with h | h
        · exact .inl (by simpa using h)
        · exact .inr ⟨by rw [beq_eq_false_iff_ne]; omega, by simpa using h⟩) with e6 | ⟨e6, e7⟩
      all_goals
        go_wp2_with fail
        go_meet
        exact ⟨_, _, D, m, k, D', m', k', A, n, c, A', n', c', HS.out, HBTw6.out, HBUw6.out, HB2w6.out, HB3w6.out, HP1.out, HP2.out, GL.out, HL.out, HWw6.out⟩
    have HN : Hid (passP p q = none) := Lib.hid (passP_n HBA.out h3 ho hi)
    have hw : ((p.k == 3) = true ∧ (q.k == 3) = false ∨ (p.k == 3) = false ∧ (p.k == 4) = true) ∧ (q.nm == p.to) = false ∧ ((q.k == 2) = false ∨ (q.k == 2) = true ∧ (q.nm == p.nm) = false) ∨
        ((p.k == 3) = false ∧ (p.k == 4) = false) ∧ (p.k == 2) = true ∧ ((q.k == 3) = false ∧ (q.k == 4) = false ∨ (q.nm == p.to) = false) ∨
        (p.k == 3) = false ∧ (p.k == 4) = false ∧ (p.k == 2) = false := by
      by_cases k3 : p.k = 3 ∨ p.k = 4
      · refine .inl ⟨?_, name_ne HBP.out HBQ.out k3, ?_⟩
        · rcases k3 with k3 | k3
          · exact .inl ⟨by simpa using k3, by rw [beq_eq_false_iff_ne]; exact fun h => h3 ⟨k3, h⟩⟩
          · exact .inr ⟨by rw [beq_eq_false_iff_ne]; omega, by simpa using k3⟩
        · by_cases k2 : q.k = 2
          · exact .inr ⟨by simpa using k2, by rw [beq_eq_false_iff_ne]; exact fun h => hi ⟨k2, k3, h.symm⟩⟩
          · exact .inl (by simpa using k2)
      · have a3 : (p.k == 3) = false := by rw [beq_eq_false_iff_ne]; omega
        have a4 : (p.k == 4) = false := by rw [beq_eq_false_iff_ne]; omega
        by_cases k2 : p.k = 2
        · refine .inr (.inl ⟨⟨a3, a4⟩, by simpa using k2, ?_⟩)
          by_cases kq : q.k = 3 ∨ q.k = 4
          · exact .inr (by rw [beq_eq_false_iff_ne]; exact fun h => ho ⟨k2, kq, h⟩)
          · exact .inl ⟨by rw [beq_eq_false_iff_ne]; omega, by rw [beq_eq_false_iff_ne]; omega⟩
        · exact .inr (.inr ⟨a3, a4, by simpa using k2⟩)
    clear h3 ho hi
    have HWAY := Lib.hid hw; clear hw
    have hq3 : ∀ z : Bool, z = true ∨ z = false := fun z => by cases z <;> simp
    have HQ3 := Lib.hid (hq3 (q.k == 3)); have HQ4 := Lib.hid (hq3 (q.k == 4)); clear hq3
    rcases HWAY.out with ⟨h1, e5, h2⟩ | ⟨⟨e1, e2⟩, e3, h2⟩ | ⟨e1, e2, e3⟩
    · rcases h1 with ⟨e1, e2⟩ | ⟨e1, e2⟩ <;> rcases h2 with e6 | ⟨e6, e7⟩ <;> rcases HQ3.out with c1 | c1 <;> rcases HQ4.out with c2 | c2 <;> try (exfalso; first | exact Bool.false_ne_true (e2.symm.trans c1) | exact k_absurd c1 c2 | exact k_absurd2 c1 e6 | exact k_absurd3 c2 e6; done)
      all_goals
        have u0 : w4.cell? ⟨g + 2, 0, none⟩ = some (.int .i64 0) := HB2w4.out.cell 0 rfl; have u1 : w4.cell? ⟨g + 2, 1, none⟩ = some (strV []) := HB2w4.out.cell 1 rfl; have u2 : w4.cell? ⟨g + 2, 2, none⟩ = some (strV []) := HB2w4.out.cell 2 rfl; have u3 : w4.cell? ⟨g + 2, 3, none⟩ = some (.int .i64 0) := HB2w4.out.cell 3 rfl; have u4 : w4.cell? ⟨g + 2, 4, none⟩ = some (.slice none 0 0) := HB2w4.out.cell 4 rfl; have u5 : w4.cell? ⟨g + 2, 5, none⟩ = some (.slice none 0 0) := HB2w4.out.cell 5 rfl
        have v0 : w4.cell? ⟨g + 3, 0, none⟩ = some (.int .i64 0) := HB3w4.out.cell 0 rfl; have v1 : w4.cell? ⟨g + 3, 1, none⟩ = some (strV []) := HB3w4.out.cell 1 rfl; have v2 : w4.cell? ⟨g + 3, 2, none⟩ = some (strV []) := HB3w4.out.cell 2 rfl; have v3 : w4.cell? ⟨g + 3, 3, none⟩ = some (.int .i64 0) := HB3w4.out.cell 3 rfl; have v4 : w4.cell? ⟨g + 3, 4, none⟩ = some (.slice none 0 0) := HB3w4.out.cell 4 rfl; have v5 : w4.cell? ⟨g + 3, 5, none⟩ = some (.slice none 0 0) := HB3w4.out.cell 5 rfl
        have f0 : w4.frozen? ⟨g + 2, 0, none⟩ = false := HB2w4.out.frozen 0; have f1 : w4.frozen? ⟨g + 2, 1, none⟩ = false := HB2w4.out.frozen 1; have f2 : w4.frozen? ⟨g + 2, 2, none⟩ = false := HB2w4.out.frozen 2; have f3 : w4.frozen? ⟨g + 2, 3, none⟩ = false := HB2w4.out.frozen 3; have f4 : w4.frozen? ⟨g + 2, 4, none⟩ = false := HB2w4.out.frozen 4; have f5 : w4.frozen? ⟨g + 2, 5, none⟩ = false := HB2w4.out.frozen 5
        have h0 : w4.frozen? ⟨g + 3, 0, none⟩ = false := HB3w4.out.frozen 0; have h1 : w4.frozen? ⟨g + 3, 1, none⟩ = false := HB3w4.out.frozen 1; have h2 : w4.frozen? ⟨g + 3, 2, none⟩ = false := HB3w4.out.frozen 2; have h3 : w4.frozen? ⟨g + 3, 3, none⟩ = false := HB3w4.out.frozen 3; have h4 : w4.frozen? ⟨g + 3, 4, none⟩ = false := HB3w4.out.frozen 4; have h5 : w4.frozen? ⟨g + 3, 5, none⟩ = false := HB3w4.out.frozen 5
        go_wp2_with fail
        obtain ⟨z2, z3⟩ := two_set6 HB2w4.out HB3w4.out (by omega) (.int .i64 0) (strV []) (strV []) (.int .i64 0) (.slice none 0 0) (.slice none 0 0) (.int .i64 0) (strV []) (strV []) (.int .i64 0) (.slice none 0 0) (.slice none 0 0)
        have hb6 := below_set12 (b := g + 2) (b' := g + 3) HWw4.out (by omega) (by omega) (.int .i64 0) (strV []) (strV []) (.int .i64 0) (.slice none 0 0) (.slice none 0 0) (.int .i64 0) (strV []) (strV []) (.int .i64 0) (.slice none 0 0) (.slice none 0 0)
        generalize (World.setCell (World.setCell (World.setCell (World.setCell (World.setCell (World.setCell (World.setCell (World.setCell (World.setCell (World.setCell (World.setCell (World.setCell w4 ⟨g + 2, 0, none⟩ (.int .i64 0)) ⟨g + 2, 1, none⟩ (strV [])) ⟨g + 2, 2, none⟩ (strV [])) ⟨g + 2, 3, none⟩ (.int .i64 0)) ⟨g + 2, 4, none⟩ (.slice none 0 0)) ⟨g + 2, 5, none⟩ (.slice none 0 0)) ⟨g + 3, 0, none⟩ (.int .i64 0)) ⟨g + 3, 1, none⟩ (strV [])) ⟨g + 3, 2, none⟩ (strV [])) ⟨g + 3, 3, none⟩ (.int .i64 0)) ⟨g + 3, 4, none⟩ (.slice none 0 0)) ⟨g + 3, 5, none⟩ (.slice none 0 0)) = W3 at *
        clear u0 u1 u2 u3 u4 u5 v0 v1 v2 v3 v4 v5 f0 f1 f2 f3 f4 f5 h0 h1 h2 h3 h4 h5
        have u0 : W3.cell? ⟨g + 2, 0, none⟩ = some (.int .i64 0) := z2.cell 0 rfl; have u1 : W3.cell? ⟨g + 2, 1, none⟩ = some (strV []) := z2.cell 1 rfl; have u2 : W3.cell? ⟨g + 2, 2, none⟩ = some (strV []) := z2.cell 2 rfl; have u3 : W3.cell? ⟨g + 2, 3, none⟩ = some (.int .i64 0) := z2.cell 3 rfl; have u4 : W3.cell? ⟨g + 2, 4, none⟩ = some (.slice none 0 0) := z2.cell 4 rfl; have u5 : W3.cell? ⟨g + 2, 5, none⟩ = some (.slice none 0 0) := z2.cell 5 rfl
        have v0 : W3.cell? ⟨g + 3, 0, none⟩ = some (.int .i64 0) := z3.cell 0 rfl; have v1 : W3.cell? ⟨g + 3, 1, none⟩ = some (strV []) := z3.cell 1 rfl; have v2 : W3.cell? ⟨g + 3, 2, none⟩ = some (strV []) := z3.cell 2 rfl; have v3 : W3.cell? ⟨g + 3, 3, none⟩ = some (.int .i64 0) := z3.cell 3 rfl; have v4 : W3.cell? ⟨g + 3, 4, none⟩ = some (.slice none 0 0) := z3.cell 4 rfl; have v5 : W3.cell? ⟨g + 3, 5, none⟩ = some (.slice none 0 0) := z3.cell 5 rfl
        try rw [Exit.noGoto_ret]
        refine bodyPost_ret (v := .tuple #[.agg #[.int .i64 0, strV [], strV [], .int .i64 0, .slice none 0 0, .slice none 0 0], .agg #[.int .i64 0, strV [], strV [], .int .i64 0, .slice none 0 0, .slice none 0 0], .bool false]) (by simp [results, Try.results55, go_sem, u0, v0, u1, v1, u2, v2, u3, v3, u4, v4, u5, v5]) rfl ?_
        have hW : Below w.heap.size w W3 := by rw [HGS.out]; exact hb6
        exact ppEndH_none HO.out HBB.out HN.out hW
    · rcases HQ3.out with c1 | c1 <;> rcases HQ4.out with c2 | c2 <;> rcases h2 with ⟨e5, e6⟩ | e5 <;> try (exfalso; first | exact Bool.false_ne_true (e5.symm.trans c1) | exact Bool.false_ne_true (e6.symm.trans c2) | exact k_absurd c1 c2; done)
      all_goals
        have u0 : w4.cell? ⟨g + 2, 0, none⟩ = some (.int .i64 0) := HB2w4.out.cell 0 rfl; have u1 : w4.cell? ⟨g + 2, 1, none⟩ = some (strV []) := HB2w4.out.cell 1 rfl; have u2 : w4.cell? ⟨g + 2, 2, none⟩ = some (strV []) := HB2w4.out.cell 2 rfl; have u3 : w4.cell? ⟨g + 2, 3, none⟩ = some (.int .i64 0) := HB2w4.out.cell 3 rfl; have u4 : w4.cell? ⟨g + 2, 4, none⟩ = some (.slice none 0 0) := HB2w4.out.cell 4 rfl; have u5 : w4.cell? ⟨g + 2, 5, none⟩ = some (.slice none 0 0) := HB2w4.out.cell 5 rfl
        have v0 : w4.cell? ⟨g + 3, 0, none⟩ = some (.int .i64 0) := HB3w4.out.cell 0 rfl; have v1 : w4.cell? ⟨g + 3, 1, none⟩ = some (strV []) := HB3w4.out.cell 1 rfl; have v2 : w4.cell? ⟨g + 3, 2, none⟩ = some (strV []) := HB3w4.out.cell 2 rfl; have v3 : w4.cell? ⟨g + 3, 3, none⟩ = some (.int .i64 0) := HB3w4.out.cell 3 rfl; have v4 : w4.cell? ⟨g + 3, 4, none⟩ = some (.slice none 0 0) := HB3w4.out.cell 4 rfl; have v5 : w4.cell? ⟨g + 3, 5, none⟩ = some (.slice none 0 0) := HB3w4.out.cell 5 rfl
        have f0 : w4.frozen? ⟨g + 2, 0, none⟩ = false := HB2w4.out.frozen 0; have f1 : w4.frozen? ⟨g + 2, 1, none⟩ = false := HB2w4.out.frozen 1; have f2 : w4.frozen? ⟨g + 2, 2, none⟩ = false := HB2w4.out.frozen 2; have f3 : w4.frozen? ⟨g + 2, 3, none⟩ = false := HB2w4.out.frozen 3; have f4 : w4.frozen? ⟨g + 2, 4, none⟩ = false := HB2w4.out.frozen 4; have f5 : w4.frozen? ⟨g + 2, 5, none⟩ = false := HB2w4.out.frozen 5
        have h0 : w4.frozen? ⟨g + 3, 0, none⟩ = false := HB3w4.out.frozen 0; have h1 : w4.frozen? ⟨g + 3, 1, none⟩ = false := HB3w4.out.frozen 1; have h2 : w4.frozen? ⟨g + 3, 2, none⟩ = false := HB3w4.out.frozen 2; have h3 : w4.frozen? ⟨g + 3, 3, none⟩ = false := HB3w4.out.frozen 3; have h4 : w4.frozen? ⟨g + 3, 4, none⟩ = false := HB3w4.out.frozen 4; have h5 : w4.frozen? ⟨g + 3, 5, none⟩ = false := HB3w4.out.frozen 5
        go_wp2_with fail
        obtain ⟨z2, z3⟩ := two_set6 HB2w4.out HB3w4.out (by omega) (.int .i64 0) (strV []) (strV []) (.int .i64 0) (.slice none 0 0) (.slice none 0 0) (.int .i64 0) (strV []) (strV []) (.int .i64 0) (.slice none 0 0) (.slice none 0 0)
        have hb6 := below_set12 (b := g + 2) (b' := g + 3) HWw4.out (by omega) (by omega) (.int .i64 0) (strV []) (strV []) (.int .i64 0) (.slice none 0 0) (.slice none 0 0) (.int .i64 0) (strV []) (strV []) (.int .i64 0) (.slice none 0 0) (.slice none 0 0)
        generalize (World.setCell (World.setCell (World.setCell (World.setCell (World.setCell (World.setCell (World.setCell (World.setCell (World.setCell (World.setCell (World.setCell (World.setCell w4 ⟨g + 2, 0, none⟩ (.int .i64 0)) ⟨g + 2, 1, none⟩ (strV [])) ⟨g + 2, 2, none⟩ (strV [])) ⟨g + 2, 3, none⟩ (.int .i64 0)) ⟨g + 2, 4, none⟩ (.slice none 0 0)) ⟨g + 2, 5, none⟩ (.slice none 0 0)) ⟨g + 3, 0, none⟩ (.int .i64 0)) ⟨g + 3, 1, none⟩ (strV [])) ⟨g + 3, 2, none⟩ (strV [])) ⟨g + 3, 3, none⟩ (.int .i64 0)) ⟨g + 3, 4, none⟩ (.slice none 0 0)) ⟨g + 3, 5, none⟩ (.slice none 0 0)) = W3 at *
        clear u0 u1 u2 u3 u4 u5 v0 v1 v2 v3 v4 v5 f0 f1 f2 f3 f4 f5 h0 h1 h2 h3 h4 h5
        have u0 : W3.cell? ⟨g + 2, 0, none⟩ = some (.int .i64 0) := z2.cell 0 rfl; have u1 : W3.cell? ⟨g + 2, 1, none⟩ = some (strV []) := z2.cell 1 rfl; have u2 : W3.cell? ⟨g + 2, 2, none⟩ = some (strV []) := z2.cell 2 rfl; have u3 : W3.cell? ⟨g + 2, 3, none⟩ = some (.int .i64 0) := z2.cell 3 rfl; have u4 : W3.cell? ⟨g + 2, 4, none⟩ = some (.slice none 0 0) := z2.cell 4 rfl; have u5 : W3.cell? ⟨g + 2, 5, none⟩ = some (.slice none 0 0) := z2.cell 5 rfl
        have v0 : W3.cell? ⟨g + 3, 0, none⟩ = some (.int .i64 0) := z3.cell 0 rfl; have v1 : W3.cell? ⟨g + 3, 1, none⟩ = some (strV []) := z3.cell 1 rfl; have v2 : W3.cell? ⟨g + 3, 2, none⟩ = some (strV []) := z3.cell 2 rfl; have v3 : W3.cell? ⟨g + 3, 3, none⟩ = some (.int .i64 0) := z3.cell 3 rfl; have v4 : W3.cell? ⟨g + 3, 4, none⟩ = some (.slice none 0 0) := z3.cell 4 rfl; have v5 : W3.cell? ⟨g + 3, 5, none⟩ = some (.slice none 0 0) := z3.cell 5 rfl
        try rw [Exit.noGoto_ret]
        refine bodyPost_ret (v := .tuple #[.agg #[.int .i64 0, strV [], strV [], .int .i64 0, .slice none 0 0, .slice none 0 0], .agg #[.int .i64 0, strV [], strV [], .int .i64 0, .slice none 0 0, .slice none 0 0], .bool false]) (by simp [results, Try.results55, go_sem, u0, v0, u1, v1, u2, v2, u3, v3, u4, v4, u5, v5]) rfl ?_
        have hW : Below w.heap.size w W3 := by rw [HGS.out]; exact hb6
        exact ppEndH_none HO.out HBB.out HN.out hW
    ·
      have u0 : w4.cell? ⟨g + 2, 0, none⟩ = some (.int .i64 0) := HB2w4.out.cell 0 rfl; have u1 : w4.cell? ⟨g + 2, 1, none⟩ = some (strV []) := HB2w4.out.cell 1 rfl; have u2 : w4.cell? ⟨g + 2, 2, none⟩ = some (strV []) := HB2w4.out.cell 2 rfl; have u3 : w4.cell? ⟨g + 2, 3, none⟩ = some (.int .i64 0) := HB2w4.out.cell 3 rfl; have u4 : w4.cell? ⟨g + 2, 4, none⟩ = some (.slice none 0 0) := HB2w4.out.cell 4 rfl; have u5 : w4.cell? ⟨g + 2, 5, none⟩ = some (.slice none 0 0) := HB2w4.out.cell 5 rfl
      have v0 : w4.cell? ⟨g + 3, 0, none⟩ = some (.int .i64 0) := HB3w4.out.cell 0 rfl; have v1 : w4.cell? ⟨g + 3, 1, none⟩ = some (strV []) := HB3w4.out.cell 1 rfl; have v2 : w4.cell? ⟨g + 3, 2, none⟩ = some (strV []) := HB3w4.out.cell 2 rfl; have v3 : w4.cell? ⟨g + 3, 3, none⟩ = some (.int .i64 0) := HB3w4.out.cell 3 rfl; have v4 : w4.cell? ⟨g + 3, 4, none⟩ = some (.slice none 0 0) := HB3w4.out.cell 4 rfl; have v5 : w4.cell? ⟨g + 3, 5, none⟩ = some (.slice none 0 0) := HB3w4.out.cell 5 rfl
      have f0 : w4.frozen? ⟨g + 2, 0, none⟩ = false := HB2w4.out.frozen 0; have f1 : w4.frozen? ⟨g + 2, 1, none⟩ = false := HB2w4.out.frozen 1; have f2 : w4.frozen? ⟨g + 2, 2, none⟩ = false := HB2w4.out.frozen 2; have f3 : w4.frozen? ⟨g + 2, 3, none⟩ = false := HB2w4.out.frozen 3; have f4 : w4.frozen? ⟨g + 2, 4, none⟩ = false := HB2w4.out.frozen 4; have f5 : w4.frozen? ⟨g + 2, 5, none⟩ = false := HB2w4.out.frozen 5
      have h0 : w4.frozen? ⟨g + 3, 0, none⟩ = false := HB3w4.out.frozen 0; have h1 : w4.frozen? ⟨g + 3, 1, none⟩ = false := HB3w4.out.frozen 1; have h2 : w4.frozen? ⟨g + 3, 2, none⟩ = false := HB3w4.out.frozen 2; have h3 : w4.frozen? ⟨g + 3, 3, none⟩ = false := HB3w4.out.frozen 3; have h4 : w4.frozen? ⟨g + 3, 4, none⟩ = false := HB3w4.out.frozen 4; have h5 : w4.frozen? ⟨g + 3, 5, none⟩ = false := HB3w4.out.frozen 5
      go_wp2_with fail
      obtain ⟨z2, z3⟩ := two_set6 HB2w4.out HB3w4.out (by omega) (.int .i64 0) (strV []) (strV []) (.int .i64 0) (.slice none 0 0) (.slice none 0 0) (.int .i64 0) (strV []) (strV []) (.int .i64 0) (.slice none 0 0) (.slice none 0 0)
      have hb6 := below_set12 (b := g + 2) (b' := g + 3) HWw4.out (by omega) (by omega) (.int .i64 0) (strV []) (strV []) (.int .i64 0) (.slice none 0 0) (.slice none 0 0) (.int .i64 0) (strV []) (strV []) (.int .i64 0) (.slice none 0 0) (.slice none 0 0)
      generalize (World.setCell (World.setCell (World.setCell (World.setCell (World.setCell (World.setCell (World.setCell (World.setCell (World.setCell (World.setCell (World.setCell (World.setCell w4 ⟨g + 2, 0, none⟩ (.int .i64 0)) ⟨g + 2, 1, none⟩ (strV [])) ⟨g + 2, 2, none⟩ (strV [])) ⟨g + 2, 3, none⟩ (.int .i64 0)) ⟨g + 2, 4, none⟩ (.slice none 0 0)) ⟨g + 2, 5, none⟩ (.slice none 0 0)) ⟨g + 3, 0, none⟩ (.int .i64 0)) ⟨g + 3, 1, none⟩ (strV [])) ⟨g + 3, 2, none⟩ (strV [])) ⟨g + 3, 3, none⟩ (.int .i64 0)) ⟨g + 3, 4, none⟩ (.slice none 0 0)) ⟨g + 3, 5, none⟩ (.slice none 0 0)) = W3 at *
      clear u0 u1 u2 u3 u4 u5 v0 v1 v2 v3 v4 v5 f0 f1 f2 f3 f4 f5 h0 h1 h2 h3 h4 h5
      have u0 : W3.cell? ⟨g + 2, 0, none⟩ = some (.int .i64 0) := z2.cell 0 rfl; have u1 : W3.cell? ⟨g + 2, 1, none⟩ = some (strV []) := z2.cell 1 rfl; have u2 : W3.cell? ⟨g + 2, 2, none⟩ = some (strV []) := z2.cell 2 rfl; have u3 : W3.cell? ⟨g + 2, 3, none⟩ = some (.int .i64 0) := z2.cell 3 rfl; have u4 : W3.cell? ⟨g + 2, 4, none⟩ = some (.slice none 0 0) := z2.cell 4 rfl; have u5 : W3.cell? ⟨g + 2, 5, none⟩ = some (.slice none 0 0) := z2.cell 5 rfl
      have v0 : W3.cell? ⟨g + 3, 0, none⟩ = some (.int .i64 0) := z3.cell 0 rfl; have v1 : W3.cell? ⟨g + 3, 1, none⟩ = some (strV []) := z3.cell 1 rfl; have v2 : W3.cell? ⟨g + 3, 2, none⟩ = some (strV []) := z3.cell 2 rfl; have v3 : W3.cell? ⟨g + 3, 3, none⟩ = some (.int .i64 0) := z3.cell 3 rfl; have v4 : W3.cell? ⟨g + 3, 4, none⟩ = some (.slice none 0 0) := z3.cell 4 rfl; have v5 : W3.cell? ⟨g + 3, 5, none⟩ = some (.slice none 0 0) := z3.cell 5 rfl
      try rw [Exit.noGoto_ret]
      refine bodyPost_ret (v := .tuple #[.agg #[.int .i64 0, strV [], strV [], .int .i64 0, .slice none 0 0, .slice none 0 0], .agg #[.int .i64 0, strV [], strV [], .int .i64 0, .slice none 0 0, .slice none 0 0], .bool false]) (by simp [results, Try.results55, go_sem, u0, v0, u1, v1, u2, v2, u3, v3, u4, v4, u5, v5]) rfl ?_
      have hW : Below w.heap.size w W3 := by rw [HGS.out]; exact hb6
      exact ppEndH_none HO.out HBB.out HN.out hW
  case rest =>
  obtain ⟨x1, y1, A1, n1, c1, B1, m1, d1, A2, n2, c2, B2, m2, d2, hs, bt, bu, b2, b3, v1, v2, hl, gl, hw⟩ := hcut
  have HS := Lib.hid hs; have CT := Lib.hid bt; have CU := Lib.hid bu; have C2 := Lib.hid b2; have C3 := Lib.hid b3; have V1 := Lib.hid v1; have V2 := Lib.hid v2; have HL2 := Lib.hid hl; have GL2 := Lib.hid gl; have HW := Lib.hid hw
  clear hs bt bu b2 b3 v1 v2 hl gl hw
  clear HBTwc HBUwc HVwc GVwc HWwc HGwc HB0wc HB1wc HB2wc HB3wc
  skip
  have PX : Hid (∀ W, Below wc.heap.size wc W → Calls Try.prog 66 #[prV x1.k x1.nm x1.to x1.h.pos A1 n1 c1 B1 m1 d1] W (fun e u' => ∃ P p1 Q q1, e = .returned (prV x1.k x1.nm x1.to x1.h.pos P n1 p1 Q m1 q1) ∧ PV u' u'.heap.size P n1 p1 Q m1 q1 x1 ∧ (Hi W.heap.size P ∧ Hi W.heap.size Q) ∧ Below W.heap.size W u')) := Lib.hid (fun W hb => OwnC A1 n1 c1 B1 m1 d1 wc.heap.size x1 W hb.size HL2.out.1 HL2.out.2 (V1.out.below hb))
  have PY : Hid (∀ W, Below wc.heap.size wc W → Calls Try.prog 66 #[prV y1.k y1.nm y1.to y1.h.pos A2 n2 c2 B2 m2 d2] W (fun e u' => ∃ P p1 Q q1, e = .returned (prV y1.k y1.nm y1.to y1.h.pos P n2 p1 Q m2 q1) ∧ PV u' u'.heap.size P n2 p1 Q m2 q1 y1 ∧ (Hi W.heap.size P ∧ Hi W.heap.size Q) ∧ Below W.heap.size W u')) := Lib.hid (fun W hb => OwnC A2 n2 c2 B2 m2 d2 wc.heap.size y1 W hb.size GL2.out.1 GL2.out.2 (V2.out.below hb))
  have HSB : Hid (∀ W, Blk W T 51 #[.int .i64 x1.k, strV x1.nm, strV x1.to, .int .i64 x1.h.pos, .slice A1 n1 c1, .slice B1 m1 d1] → Blk W U 51 #[.int .i64 y1.k, strV y1.nm, strV y1.to, .int .i64 y1.h.pos, .slice A2 n2 c2, .slice B2 m2 d2] → W.cell? ⟨T, 0, none⟩ = some (.int .i64 x1.k) ∧ W.cell? ⟨T, 1, none⟩ = some (strV x1.nm) ∧ W.cell? ⟨T, 2, none⟩ = some (strV x1.to) ∧ W.cell? ⟨T, 3, none⟩ = some (.int .i64 x1.h.pos) ∧ W.cell? ⟨T, 4, none⟩ = some (.slice A1 n1 c1) ∧ W.cell? ⟨T, 5, none⟩ = some (.slice B1 m1 d1) ∧ W.cell? ⟨U, 0, none⟩ = some (.int .i64 y1.k) ∧ W.cell? ⟨U, 1, none⟩ = some (strV y1.nm) ∧ W.cell? ⟨U, 2, none⟩ = some (strV y1.to) ∧ W.cell? ⟨U, 3, none⟩ = some (.int .i64 y1.h.pos) ∧ W.cell? ⟨U, 4, none⟩ = some (.slice A2 n2 c2) ∧ W.cell? ⟨U, 5, none⟩ = some (.slice B2 m2 d2)) := Lib.hid (fun W b b' => by
    exact ⟨b.cell 0 rfl, b.cell 1 rfl, b.cell 2 rfl, b.cell 3 rfl, b.cell 4 rfl, b.cell 5 rfl, b'.cell 0 rfl, b'.cell 1 rfl, b'.cell 2 rfl, b'.cell 3 rfl, b'.cell 4 rfl, b'.cell 5 rfl⟩)
  have HC : Hid (∀ W, Below wc.heap.size wc W → W.cell? ⟨T, 0, none⟩ = some (.int .i64 x1.k) ∧ W.cell? ⟨T, 1, none⟩ = some (strV x1.nm) ∧ W.cell? ⟨T, 2, none⟩ = some (strV x1.to) ∧ W.cell? ⟨T, 3, none⟩ = some (.int .i64 x1.h.pos) ∧ W.cell? ⟨T, 4, none⟩ = some (.slice A1 n1 c1) ∧ W.cell? ⟨T, 5, none⟩ = some (.slice B1 m1 d1) ∧ W.cell? ⟨U, 0, none⟩ = some (.int .i64 y1.k) ∧ W.cell? ⟨U, 1, none⟩ = some (strV y1.nm) ∧ W.cell? ⟨U, 2, none⟩ = some (strV y1.to) ∧ W.cell? ⟨U, 3, none⟩ = some (.int .i64 y1.h.pos) ∧ W.cell? ⟨U, 4, none⟩ = some (.slice A2 n2 c2) ∧ W.cell? ⟨U, 5, none⟩ = some (.slice B2 m2 d2)) := Lib.hid (fun W hb => HSB.out W (CT.out.below hb CT.out.lt) (CU.out.below hb CU.out.lt))
  have HNG := Lib.hid (show (T ≠ g + 2 ∧ T ≠ g + 3) ∧ (U ≠ g + 2 ∧ U ≠ g + 3) from by have := HgT.out; omega)
  have HKD := Lib.hid (HC.out wc.drew (below_drewN (Below.refl _ _) 1))
  obtain ⟨x0, xx1, x2, x3, x4, x5, y0, yy1, y2, y3, y4, y5⟩ := HC.out wc (Below.refl _ _)
  go_wp2_with fail
  go_region_held3 (fun W => W.cell? ⟨T, 0, none⟩ = some (.int .i64 x1.k) ∧ W.cell? ⟨T, 1, none⟩ = some (strV x1.nm) ∧ W.cell? ⟨T, 2, none⟩ = some (strV x1.to) ∧ W.cell? ⟨T, 3, none⟩ = some (.int .i64 x1.h.pos) ∧ W.cell? ⟨T, 4, none⟩ = some (.slice A1 n1 c1) ∧ W.cell? ⟨T, 5, none⟩ = some (.slice B1 m1 d1) ∧ W.cell? ⟨U, 0, none⟩ = some (.int .i64 y1.k) ∧ W.cell? ⟨U, 1, none⟩ = some (strV y1.nm) ∧ W.cell? ⟨U, 2, none⟩ = some (strV y1.to) ∧ W.cell? ⟨U, 3, none⟩ = some (.int .i64 y1.h.pos) ∧ W.cell? ⟨U, 4, none⟩ = some (.slice A2 n2 c2) ∧ W.cell? ⟨U, 5, none⟩ = some (.slice B2 m2 d2))
    (first | (with_reducible exact HKD.out) | (with_reducible exact hS5) | (with_reducible exact hS6) | (with_reducible exact HK2.out _ _ _ _ _ _) | (with_reducible exact HK3.out _ _ _ _ _ _ _ _ _ _ _ _))
    (first
      | (go_at_call 66; (with_reducible refine (PX.out wc.drew (below_drewN (Below.refl _ _) 1)).mono ?_); rintro e w5 ⟨P5, p5, Q5, q5, rfl, hv, hh, hb⟩; have HH5 := Lib.hid hh; clear hh; have hbu := (below_drewN (Below.refl wc.heap.size wc) 1).trans hb; have hS5 := HC.out w5 hbu; have HU5 := Lib.hid hbu; have HV5 := Lib.hid hv; clear hb hbu hv)
      | (go_at_call 66; (with_reducible refine (PY.out w5 HU5.out).mono ?_); rintro e w6 ⟨P6, p6, Q6, q6, rfl, hv, hh, hb⟩; have HH6 := Lib.hid hh; clear hh; have hbu := HU5.out.trans (hb.mono HU5.out.size); have hS6 := HC.out w6 hbu; have HU6 := Lib.hid hbu; have HV6 := Lib.hid hv; have HB6 := Lib.hid hb;
          have t6 := CT.out.below hbu CT.out.lt; have u6 := CU.out.below hbu CU.out.lt;
          have HK2 := Lib.hid (fun v0 v1 v2 v3 v4 v5 => HSB.out _ (blk_ne6 t6 HNG.out.1.1 v0 v1 v2 v3 v4 v5) (blk_ne6 u6 HNG.out.2.1 v0 v1 v2 v3 v4 v5));
          have HK3 := Lib.hid (fun v0 v1 v2 v3 v4 v5 u0 u1 u2 u3 u4 u5 => HSB.out _ (blk_ne6 (blk_ne6 t6 HNG.out.1.1 v0 v1 v2 v3 v4 v5) HNG.out.1.2 u0 u1 u2 u3 u4 u5) (blk_ne6 (blk_ne6 u6 HNG.out.2.1 v0 v1 v2 v3 v4 v5) HNG.out.2.2 u0 u1 u2 u3 u4 u5));
          clear t6 u6; have b2 := C2.out.below hbu C2.out.lt; have b3 := C3.out.below hbu C3.out.lt;
          have u0 : w6.cell? ⟨g + 2, 0, none⟩ = some (.int .i64 0) := b2.cell 0 rfl; have u1 : w6.cell? ⟨g + 2, 1, none⟩ = some (strV []) := b2.cell 1 rfl; have u2 : w6.cell? ⟨g + 2, 2, none⟩ = some (strV []) := b2.cell 2 rfl; have u3 : w6.cell? ⟨g + 2, 3, none⟩ = some (.int .i64 0) := b2.cell 3 rfl; have u4 : w6.cell? ⟨g + 2, 4, none⟩ = some (.slice none 0 0) := b2.cell 4 rfl; have u5 : w6.cell? ⟨g + 2, 5, none⟩ = some (.slice none 0 0) := b2.cell 5 rfl;
          have v0 : w6.cell? ⟨g + 3, 0, none⟩ = some (.int .i64 0) := b3.cell 0 rfl; have v1 : w6.cell? ⟨g + 3, 1, none⟩ = some (strV []) := b3.cell 1 rfl; have v2 : w6.cell? ⟨g + 3, 2, none⟩ = some (strV []) := b3.cell 2 rfl; have v3 : w6.cell? ⟨g + 3, 3, none⟩ = some (.int .i64 0) := b3.cell 3 rfl; have v4 : w6.cell? ⟨g + 3, 4, none⟩ = some (.slice none 0 0) := b3.cell 4 rfl; have v5 : w6.cell? ⟨g + 3, 5, none⟩ = some (.slice none 0 0) := b3.cell 5 rfl;
          have f0 : w6.frozen? ⟨g + 2, 0, none⟩ = false := b2.frozen 0; have f1 : w6.frozen? ⟨g + 2, 1, none⟩ = false := b2.frozen 1; have f2 : w6.frozen? ⟨g + 2, 2, none⟩ = false := b2.frozen 2; have f3 : w6.frozen? ⟨g + 2, 3, none⟩ = false := b2.frozen 3; have f4 : w6.frozen? ⟨g + 2, 4, none⟩ = false := b2.frozen 4; have f5 : w6.frozen? ⟨g + 2, 5, none⟩ = false := b2.frozen 5; have h0 : w6.frozen? ⟨g + 3, 0, none⟩ = false := b3.frozen 0; have h1 : w6.frozen? ⟨g + 3, 1, none⟩ = false := b3.frozen 1; have h2 : w6.frozen? ⟨g + 3, 2, none⟩ = false := b3.frozen 2; have h3 : w6.frozen? ⟨g + 3, 3, none⟩ = false := b3.frozen 3; have h4 : w6.frozen? ⟨g + 3, 4, none⟩ = false := b3.frozen 4; have h5 : w6.frozen? ⟨g + 3, 5, none⟩ = false := b3.frozen 5;
          have Z2 := Lib.hid b2; have Z3 := Lib.hid b3; clear hb hbu hv b2 b3))
  go_wp2_with fail
  have l3 := C3.out.lt
  have l5 : wc.heap.size ≤ w5.heap.size := HU5.out.size
  have i5 := HH5.out; have i6 := HH6.out
  have i5a : Hi wc.heap.size P5 := i5.1; have i5b : Hi wc.heap.size Q5 := i5.2
  have i6a := i6.1.mono l5; have i6b := i6.2.mono l5
  have pv5 := (((HV5.out.below HB6.out).up HB6.out.size).hi6 (b := g + 2) i5a i5b (by omega) (.int .i64 x1.k) (strV x1.nm) (strV x1.to) (.int .i64 x1.h.pos) (.slice P5 n1 p5) (.slice Q5 m1 q5)).hi6 (b := g + 3) i5a i5b (by omega) (.int .i64 y1.k) (strV y1.nm) (strV y1.to) (.int .i64 y1.h.pos) (.slice P6 n2 p6) (.slice Q6 m2 q6)
  have pv6 := (HV6.out.hi6 (b := g + 2) i6a i6b (by omega) (.int .i64 x1.k) (strV x1.nm) (strV x1.to) (.int .i64 x1.h.pos) (.slice P5 n1 p5) (.slice Q5 m1 q5)).hi6 (b := g + 3) i6a i6b (by omega) (.int .i64 y1.k) (strV y1.nm) (strV y1.to) (.int .i64 y1.h.pos) (.slice P6 n2 p6) (.slice Q6 m2 q6)
  obtain ⟨z2, z3⟩ := two_set6 Z2.out Z3.out (by omega) (.int .i64 x1.k) (strV x1.nm) (strV x1.to) (.int .i64 x1.h.pos) (.slice P5 n1 p5) (.slice Q5 m1 q5) (.int .i64 y1.k) (strV y1.nm) (strV y1.to) (.int .i64 y1.h.pos) (.slice P6 n2 p6) (.slice Q6 m2 q6)
  have hb6 := below_set12 (b := g + 2) (b' := g + 3) (HW.out.trans (HU6.out.mono (by have := HW.out.size; omega))) (by omega) (by omega) (.int .i64 x1.k) (strV x1.nm) (strV x1.to) (.int .i64 x1.h.pos) (.slice P5 n1 p5) (.slice Q5 m1 q5) (.int .i64 y1.k) (strV y1.nm) (strV y1.to) (.int .i64 y1.h.pos) (.slice P6 n2 p6) (.slice Q6 m2 q6)
  have hsz := (below_set12 (b := g + 2) (b' := g + 3) (Below.refl 0 w6) (by omega) (by omega) (.int .i64 x1.k) (strV x1.nm) (strV x1.to) (.int .i64 x1.h.pos) (.slice P5 n1 p5) (.slice Q5 m1 q5) (.int .i64 y1.k) (strV y1.nm) (strV y1.to) (.int .i64 y1.h.pos) (.slice P6 n2 p6) (.slice Q6 m2 q6)).size
  generalize (World.setCell (World.setCell (World.setCell (World.setCell (World.setCell (World.setCell (World.setCell (World.setCell (World.setCell (World.setCell (World.setCell (World.setCell w6 ⟨g + 2, 0, none⟩ (.int .i64 x1.k)) ⟨g + 2, 1, none⟩ (strV x1.nm)) ⟨g + 2, 2, none⟩ (strV x1.to)) ⟨g + 2, 3, none⟩ (.int .i64 x1.h.pos)) ⟨g + 2, 4, none⟩ (.slice P5 n1 p5)) ⟨g + 2, 5, none⟩ (.slice Q5 m1 q5)) ⟨g + 3, 0, none⟩ (.int .i64 y1.k)) ⟨g + 3, 1, none⟩ (strV y1.nm)) ⟨g + 3, 2, none⟩ (strV y1.to)) ⟨g + 3, 3, none⟩ (.int .i64 y1.h.pos)) ⟨g + 3, 4, none⟩ (.slice P6 n2 p6)) ⟨g + 3, 5, none⟩ (.slice Q6 m2 q6)) = W3 at *
  clear u0 u1 u2 u3 u4 u5 v0 v1 v2 v3 v4 v5 f0 f1 f2 f3 f4 f5 h0 h1 h2 h3 h4 h5
  have u0 : W3.cell? ⟨g + 2, 0, none⟩ = some (.int .i64 x1.k) := z2.cell 0 rfl; have u1 : W3.cell? ⟨g + 2, 1, none⟩ = some (strV x1.nm) := z2.cell 1 rfl; have u2 : W3.cell? ⟨g + 2, 2, none⟩ = some (strV x1.to) := z2.cell 2 rfl; have u3 : W3.cell? ⟨g + 2, 3, none⟩ = some (.int .i64 x1.h.pos) := z2.cell 3 rfl; have u4 : W3.cell? ⟨g + 2, 4, none⟩ = some (.slice P5 n1 p5) := z2.cell 4 rfl; have u5 : W3.cell? ⟨g + 2, 5, none⟩ = some (.slice Q5 m1 q5) := z2.cell 5 rfl
  have v0 : W3.cell? ⟨g + 3, 0, none⟩ = some (.int .i64 y1.k) := z3.cell 0 rfl; have v1 : W3.cell? ⟨g + 3, 1, none⟩ = some (strV y1.nm) := z3.cell 1 rfl; have v2 : W3.cell? ⟨g + 3, 2, none⟩ = some (strV y1.to) := z3.cell 2 rfl; have v3 : W3.cell? ⟨g + 3, 3, none⟩ = some (.int .i64 y1.h.pos) := z3.cell 3 rfl; have v4 : W3.cell? ⟨g + 3, 4, none⟩ = some (.slice P6 n2 p6) := z3.cell 4 rfl; have v5 : W3.cell? ⟨g + 3, 5, none⟩ = some (.slice Q6 m2 q6) := z3.cell 5 rfl
  try rw [Exit.noGoto_ret]
  refine bodyPost_ret (v := .tuple #[.agg #[.int .i64 x1.k, strV x1.nm, strV x1.to, .int .i64 x1.h.pos, .slice P5 n1 p5, .slice Q5 m1 q5], .agg #[.int .i64 y1.k, strV y1.nm, strV y1.to, .int .i64 y1.h.pos, .slice P6 n2 p6, .slice Q6 m2 q6], .bool true]) (by simp [results, Try.results55, go_sem, u0, v0, u1, v1, u2, v2, u3, v3, u4, v4, u5, v5]) rfl ?_
  have hg : w.heap.size ≤ wc.heap.size := by rw [HGS.out]; omega
  exact ppEndH_some HO.out HBB.out HS.out (pv5.up hsz) (pv6.up hsz) HL2.out GL2.out ⟨i5a.mono hg, i5b.mono hg, i6a.mono hg, i6b.mono hg⟩ (by rw [HGS.out]; exact hb6)

theorem PassP (A : Option Addr) (n c : Nat) (A' : Option Addr) (n' c' : Nat) (D : Option Addr) (m k : Nat) (D' : Option Addr) (m' k' : Nat) (p q x y : Ch) (w : World) (b : Bool) (hl : n ≤ 1000 ∧ n' ≤ 1000) (gl : m ≤ 1000 ∧ m' ≤ 1000)
    (hv : PV w w.heap.size A n c A' n' c' p) (gv : PV w w.heap.size D m k D' m' k' q) (ho : outP (passP p q) = (x, y)) (hb : (passP p q).isSome = b) :
    Calls Try.prog 55 #[prV p.k p.nm p.to p.h.pos A n c A' n' c', prV q.k q.nm q.to q.h.pos D m k D' m' k'] w (PPEnd w x y b) :=
  (PassPH A n c A' n' c' D m k D' m' k' p q x y w b hl gl hv gv ho hb).mono fun e w' h => h.end_

end Pr
end Go.Proofs.Ytbiiabfhngdeiaa
