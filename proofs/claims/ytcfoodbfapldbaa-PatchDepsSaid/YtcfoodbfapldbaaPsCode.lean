/-
  What the program's own Pass of layer 9 returns (walk): two changes, the second one ahead, of lines of their own; or nothing.
-/
import Derived.Test.YtcfoodbfapldbaaGZ
import Derived.Test.YtcfoodbfapldbaaPsRef
import Derived.Test.YtcfoodbfapldbaaPrMay
import Derived.Deep.RegionHeld3
import Derived.Deep.Cut
import Derived.WalkMore
set_option maxRecDepth 100000
namespace Go.Proofs.Ytcfoodbfapldbaa
open Go.RowKit
set_option linter.unusedVariables false
set_option linter.unusedSimpArgs false
namespace Pr
open Tx Df Sq Hk Tr

theorem ppEndH_none {w w' : World} {p q x y : Ch} {b : Bool} (ho : outP (passP p q) = (x, y)) (hb : (passP p q).isSome = b) (h : passP p q = none) (hw : Below w.heap.size w w') :
    PPEndH w x y b (.returned (.tuple #[.agg #[.int .i64 0, strV [], strV [], .int .i64 0, .slice none 0 0, .slice none 0 0], .agg #[.int .i64 0, strV [], strV [], .int .i64 0, .slice none 0 0, .slice none 0 0], .bool false])) w' := by
  rw [h] at ho hb
  subst hb
  injection ho with h1 h2
  subst h1 h2
  exact ⟨none, 0, 0, none, 0, 0, none, 0, 0, none, 0, 0, rfl, zero_PV _ _, zero_PV _ _, ⟨Nat.zero_le _, Nat.zero_le _⟩, ⟨Nat.zero_le _, Nat.zero_le _⟩, ⟨hi_none _, hi_none _, hi_none _, hi_none _⟩, hw⟩
theorem ppEndH_some {w w' : World} {A B D E : Option Addr} {n c m d i j k l : Nat} {p q x y x' y' : Ch} {b : Bool} (ho : outP (passP p q) = (x, y)) (hb : (passP p q).isSome = b) (h : passP p q = some (x', y')) (hv : PV w' w'.heap.size A n c B m d x') (gv : PV w' w'.heap.size D i j E k l y') (hl : n ≤ 1000 ∧ m ≤ 1000) (gl : i ≤ 1000 ∧ k ≤ 1000)
    (hi : Hi w.heap.size A ∧ Hi w.heap.size B ∧ Hi w.heap.size D ∧ Hi w.heap.size E) (hw : Below w.heap.size w w') :
    PPEndH w x y b (.returned (.tuple #[prV x'.k x'.nm x'.to x'.h.pos A n c B m d, prV y'.k y'.nm y'.to y'.h.pos D i j E k l, .bool true])) w' := by
  rw [h] at ho hb
  subst hb
  injection ho with h1 h2
  subst h1 h2
  exact ⟨A, n, c, B, m, d, D, i, j, E, k, l, rfl, hv, gv, hl, gl, hi, hw⟩

/-- Two changes, boxed, the one or the other one first. -/
def Two (c wx : World) (T U : Nat) (x y : Array Value) : Prop := Blk wx T 54 x ∧ Blk wx U 54 y ∧ T ≠ U ∧ c.heap.size ≤ T ∧ c.heap.size ≤ U ∧ Below c.heap.size c wx
theorem two_aa (c : World) (x y : Array Value) : Two c ((c.alloc (.cells x 54)).alloc (.cells y 54)) c.heap.size (c.heap.size + 1) x y := by
  have h2 := Blk.new (c.alloc (.cells x 54)) 54 y
  simp only [World.size_alloc] at h2
  exact ⟨(Blk.new c _ x).alloc _, h2, by omega, Nat.le_refl _, Nat.le_succ _, two_box c _ _⟩
theorem Two.swap {c wx : World} {T U : Nat} {x y : Array Value} (h : Two c wx T U x y) : Two c wx U T y x := ⟨h.2.1, h.1, h.2.2.1.symm, h.2.2.2.2.1, h.2.2.2.1, h.2.2.2.2.2⟩
theorem Two.drew {c wx : World} {T U : Nat} {x y : Array Value} (h : Two c wx T U x y) : Two c wx.drew T U x y := ⟨h.1.drewN 1, h.2.1.drewN 1, h.2.2.1, h.2.2.2.1, h.2.2.2.2.1, below_drewN h.2.2.2.2.2 1⟩

theorem blk_ne6 {W : World} {b b' : Nat} {t : TypeId} {cs : Array Value} (h : Blk W b t cs) (hne : b ≠ b') (v0 v1 v2 v3 v4 v5 : Value) :
    Blk ((((((W.setCell ⟨b', 0, none⟩ v0).setCell ⟨b', 1, none⟩ v1).setCell ⟨b', 2, none⟩ v2).setCell ⟨b', 3, none⟩ v3).setCell ⟨b', 4, none⟩ v4).setCell ⟨b', 5, none⟩ v5) b t cs :=
  (((((h.set_ne hne 0 v0).set_ne hne 1 v1).set_ne hne 2 v2).set_ne hne 3 v3).set_ne hne 4 v4).set_ne hne 5 v5

/-- What lies there behind the switch. -/
def PMid (w wx : World) (g T U : Nat) (p q : Ch) : Prop :=
  ∃ x y A1 n1 c1 B1 m1 d1 A2 n2 c2 B2 m2 d2, passP p q = some (x, y) ∧
    Blk wx T 54 #[.int .i64 x.k, strV x.nm, strV x.to, .int .i64 x.h.pos, .slice A1 n1 c1, .slice B1 m1 d1] ∧
    Blk wx U 54 #[.int .i64 y.k, strV y.nm, strV y.to, .int .i64 y.h.pos, .slice A2 n2 c2, .slice B2 m2 d2] ∧
    Blk wx (g + 2) 54 #[.int .i64 0, strV [], strV [], .int .i64 0, .slice none 0 0, .slice none 0 0] ∧ Blk wx (g + 3) 54 #[.int .i64 0, strV [], strV [], .int .i64 0, .slice none 0 0, .slice none 0 0] ∧
    PV wx wx.heap.size A1 n1 c1 B1 m1 d1 x ∧ PV wx wx.heap.size A2 n2 c2 B2 m2 d2 y ∧ (n1 ≤ 1000 ∧ m1 ≤ 1000) ∧ (n2 ≤ 1000 ∧ m2 ≤ 1000) ∧ Below g w wx

/-- A change that may be, of another kind than a move, has no other name. -/
theorem may_to {p : Ch} (hm : mayP p = true) (hk : p.k = 3 ∨ p.k = 4) : p.to = [] := (may_h hm hk).2.1
theorem name_ne {p q : Ch} (hm : mayP p = true) (hq : mayP q = true) (hk : p.k = 3 ∨ p.k = 4) : (q.nm == p.to) = false := by
  rw [may_to hm hk]
  have h1 := (mayP_cases.1 hq).1
  cases hn : q.nm with
  | nil => rw [hn] at h1; revert h1; decide
  | cons _ _ => rfl

theorem k_absurd {k : Int} (h : (k == 3) = true) (h' : (k == 4) = true) : False := by
  have a : k = 3 := by simpa using h
  have b : k = 4 := by simpa using h'
  omega
theorem k_absurd2 {k : Int} (h : (k == 3) = true) (h' : (k == 2) = true) : False := by
  have a : k = 3 := by simpa using h
  have b : k = 2 := by simpa using h'
  omega
theorem k_absurd3 {k : Int} (h : (k == 4) = true) (h' : (k == 2) = true) : False := by
  have a : k = 4 := by simpa using h
  have b : k = 2 := by simpa using h'
  omega

end Pr
end Go.Proofs.Ytcfoodbfapldbaa
