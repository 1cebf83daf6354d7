/-
  Words for layer 9: how a call of Pass ends. No function of the program is walked here.
-/
import Derived.Test.YtfjllohhjpiphaaPsPlain
import Derived.Test.YtfjllohhjpiphaaPrMem
import Derived.Test.YtfjllohhjpiphaaGQ
set_option maxRecDepth 100000
namespace Go.Proofs.Ytfjllohhjpiphaa
open Go.RowKit
set_option linter.unusedVariables false
namespace Pr
open Tx Df Sq Hk Tr

/-- Noughts. -/
def zeroP : Ch := ⟨0, [], [], ⟨0, [], []⟩⟩
def outP (o : Option (Ch × Ch)) : Ch × Ch := o.getD (zeroP, zeroP)

/-- How a call ends that tells the changes x and y, and b. -/
def PPEnd (w : World) (x y : Ch) (b : Bool) (e : Ending) (w' : World) : Prop :=
  ∃ A n c B m d D i j E k l, e = .returned (.tuple #[prV x.k x.nm x.to x.h.pos A n c B m d, prV y.k y.nm y.to y.h.pos D i j E k l, .bool b]) ∧
    PV w' w'.heap.size A n c B m d x ∧ PV w' w'.heap.size D i j E k l y ∧ (n ≤ 1000 ∧ m ≤ 1000) ∧ (i ≤ 1000 ∧ k ≤ 1000) ∧ Below w.heap.size w w'

theorem outP_some {o : Option (Ch × Ch)} {x y : Ch} (h : o = some (x, y)) : outP o = (x, y) := by subst h; rfl
theorem outP_of {o : Option (Ch × Ch)} {x y : Ch} (h : outP o = (x, y)) (hb : o.isSome = true) : o = some (x, y) := by
  cases o with
  | none => cases hb
  | some z => exact congrArg some h
theorem none_ofP {α : Type} {o : Option α} (h : o.isSome = false) : o = none := by cases o with | none => rfl | some _ => cases h
theorem outP_none {o : Option (Ch × Ch)} {x y : Ch} (h : outP o = (x, y)) (hb : o.isSome = false) : x = zeroP ∧ y = zeroP := by
  cases o with
  | none => injection h with h1 h2; exact ⟨h1.symm, h2.symm⟩
  | some z => cases hb
theorem zero_PV (w : World) (B : Nat) : PV w B none 0 0 none 0 0 zeroP :=
  ⟨⟨rfl, rfl, Nat.le_refl _, Nat.le_refl _, Nat.zero_le _, Nat.zero_le _, .inl rfl, .inl rfl, ⟨by decide, by decide⟩⟩, ⟨by decide, by decide⟩, Nat.zero_le _, Nat.zero_le _, fun x hx => (by cases hx), fun x hx => (by cases hx)⟩

section
variable {w w' : World} {A B D E : Option Addr} {n c m d i j k l : Nat} {p q x y : Ch} {b : Bool}
/-- Noughts are told. -/
theorem ppEnd_none (ho : outP (passP p q) = (x, y)) (hb : (passP p q).isSome = b) (h : passP p q = none) (hw : Below w.heap.size w w') :
    PPEnd w x y b (.returned (.tuple #[.agg #[.int .i64 0, strV [], strV [], .int .i64 0, .slice none 0 0, .slice none 0 0], .agg #[.int .i64 0, strV [], strV [], .int .i64 0, .slice none 0 0, .slice none 0 0], .bool false])) w' := by
  rw [h] at ho hb
  subst hb
  injection ho with h1 h2
  subst h1 h2
  exact ⟨none, 0, 0, none, 0, 0, none, 0, 0, none, 0, 0, rfl, zero_PV _ _, zero_PV _ _, ⟨Nat.zero_le _, Nat.zero_le _⟩, ⟨Nat.zero_le _, Nat.zero_le _⟩, hw⟩
/-- Two are told. -/
theorem ppEnd_some (ho : outP (passP p q) = (x, y)) (hb : (passP p q).isSome = b) {x' y' : Ch} (h : passP p q = some (x', y')) (hv : PV w' w'.heap.size A n c B m d x') (gv : PV w' w'.heap.size D i j E k l y') (hl : n ≤ 1000 ∧ m ≤ 1000) (gl : i ≤ 1000 ∧ k ≤ 1000) (hw : Below w.heap.size w w') :
    PPEnd w x y b (.returned (.tuple #[prV x'.k x'.nm x'.to x'.h.pos A n c B m d, prV y'.k y'.nm y'.to y'.h.pos D i j E k l, .bool true])) w' := by
  rw [h] at ho hb
  subst hb
  injection ho with h1 h2
  subst h1 h2
  exact ⟨A, n, c, B, m, d, D, i, j, E, k, l, rfl, hv, gv, hl, gl, hw⟩
/-- A change of another name, or place. -/
theorem PV.name (hv : PV w k A n c B m d p) (s : List UInt8) (hs : s.length ≤ maxLen) : PV w k A n c B m d ⟨p.k, s, p.to, p.h⟩ := ⟨hv.h, hv.k, hs, hv.to, hv.s, hv.s'⟩
theorem PV.hunk {N N' : Nat} (hv : PV w N A n c B m d p) {h : HU} (gv : HV w' N' D i j E k l h) (ho : h.old = p.h.old) (hn : h.new = p.h.new) : PV w' N' D i j E k l ⟨p.k, p.nm, p.to, h⟩ := ⟨gv, hv.k, hv.nm, hv.to, (by dsimp only; rw [ho]; exact hv.s), (by dsimp only; rw [hn]; exact hv.s')⟩
end

theorem PV.hi {W : World} {N lo b : Nat} {A B : Option Addr} {n c m d : Nat} {x : Ch} (h : PV W N A n c B m d x) (hi : Hi lo A) (hi' : Hi lo B) (hb : b < lo) (j : Nat) (v : Value) : PV (W.setCell ⟨b, j, none⟩ v) N A n c B m d x :=
  ⟨⟨h.h.l, h.h.l', h.h.k, h.h.k', h.h.m, h.h.m', rdS_hi h.h.r hi hb j v, rdS_hi h.h.r' hi' hb j v, h.h.p⟩, h.k, h.nm, h.to, h.s, h.s'⟩
theorem PV.hi6 {W : World} {N lo b : Nat} {A B : Option Addr} {n c m d : Nat} {x : Ch} (h : PV W N A n c B m d x) (hi : Hi lo A) (hi' : Hi lo B) (hb : b < lo) (v0 v1 v2 v3 v4 v5 : Value) :
    PV ((((((W.setCell ⟨b, 0, none⟩ v0).setCell ⟨b, 1, none⟩ v1).setCell ⟨b, 2, none⟩ v2).setCell ⟨b, 3, none⟩ v3).setCell ⟨b, 4, none⟩ v4).setCell ⟨b, 5, none⟩ v5) N A n c B m d x :=
  (((((h.hi hi hi' hb 0 v0).hi hi hi' hb 1 v1).hi hi hi' hb 2 v2).hi hi hi' hb 3 v3).hi hi hi' hb 4 v4).hi hi hi' hb 5 v5
/-- A change of another's name and place. -/
theorem PV.as {w w' : World} {N N' : Nat} {A B D E : Option Addr} {n c m d i j k l : Nat} {x q : Ch} (hx : PV w N A n c B m d x) (hq : PV w' N' D i j E k l q) : PV w N A n c B m d ⟨x.k, q.nm, x.to, ⟨q.h.pos, x.h.old, x.h.new⟩⟩ :=
  ⟨⟨hx.h.l, hx.h.l', hx.h.k, hx.h.k', hx.h.m, hx.h.m', hx.h.r, hx.h.r', hq.h.p⟩, hx.k, hq.nm, hx.to, hx.s, hx.s'⟩
/-- The same, of lines in memory of their own. -/
def PPEndH (w : World) (x y : Ch) (b : Bool) (e : Ending) (w' : World) : Prop :=
  ∃ A n c B m d D i j E k l, e = .returned (.tuple #[prV x.k x.nm x.to x.h.pos A n c B m d, prV y.k y.nm y.to y.h.pos D i j E k l, .bool b]) ∧
    PV w' w'.heap.size A n c B m d x ∧ PV w' w'.heap.size D i j E k l y ∧ (n ≤ 1000 ∧ m ≤ 1000) ∧ (i ≤ 1000 ∧ k ≤ 1000) ∧ (Hi w.heap.size A ∧ Hi w.heap.size B ∧ Hi w.heap.size D ∧ Hi w.heap.size E) ∧ Below w.heap.size w w'
theorem PPEndH.end_ {w w' : World} {x y : Ch} {b : Bool} {e : Ending} (h : PPEndH w x y b e w') : PPEnd w x y b e w' := by
  obtain ⟨A, n, c, B, m, d, D, i, j, E, k, l, h1, h2, h3, h4, h5, _, h6⟩ := h
  exact ⟨A, n, c, B, m, d, D, i, j, E, k, l, h1, h2, h3, h4, h5, h6⟩

theorem outP_lines (p q : Ch) : outP (passP p q) = (zeroP, zeroP) ∨ ((outP (passP p q)).1.h.old = q.h.old ∧ (outP (passP p q)).1.h.new = q.h.new ∧ (outP (passP p q)).2.h.old = p.h.old ∧ (outP (passP p q)).2.h.new = p.h.new) := by
  cases h : passP p q with
  | none => exact .inl rfl
  | some z =>
    obtain ⟨⟨_, _, h1, h2⟩, _, _, h3, h4⟩ := way_kinds (passP_way (x := z.1) (y := z.2) h).2.2
    exact .inr ⟨h1, h2, h3, h4⟩

end Pr
end Go.Proofs.Ytfjllohhjpiphaa
