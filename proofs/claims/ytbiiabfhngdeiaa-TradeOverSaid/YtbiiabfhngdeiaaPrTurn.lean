/-
  What the program's own Turn of layer 8 returns (walk).
-/
import Derived.Test.YtbiiabfhngdeiaaGR
import Derived.Test.YtbiiabfhngdeiaaGH
import Derived.Test.YtbiiabfhngdeiaaGQ
import Derived.Deep.RegionHeld3
import Derived.Deep.Cut
set_option maxRecDepth 100000
namespace Go.Proofs.Ytbiiabfhngdeiaa
open Go.RowKit
set_option linter.unusedVariables false
set_option linter.unusedSimpArgs false
namespace Pr
open Tx Df Sq Hk Tr

section
variable {w W X Y : World} {base n T b : Nat} {A : Option Addr} {k : Nat} {xs : List Value}
theorem belD0 (W : World) : Below W.heap.size W W.drew := below_drewN (Below.refl _ _) 1
theorem belD1 (W : World) (o : Obj) : Below W.heap.size W (W.alloc o).drew := below_drewN ((Below.refl _ _).alloc (Nat.le_refl _) o) 1
theorem bel_gr (h : Below W.heap.size W X) (hg : X.grownBy Y none) : Below W.heap.size W Y := h.trans ((below_gr hg).mono h.size)
theorem bel_al (h : Below W.heap.size W X) (o : Obj) : Below W.heap.size W (X.alloc o) := h.alloc h.size o
theorem bel_set6 (h : Below b w X) (hT : b ≤ T) (v0 v1 v2 v3 v4 v5 : Value) : Below b w ((((((World.setCell X ⟨T, 0, none⟩ v0).setCell ⟨T, 1, none⟩ v1).setCell ⟨T, 2, none⟩ v2).setCell ⟨T, 3, none⟩ v3).setCell ⟨T, 4, none⟩ v4).setCell ⟨T, 5, none⟩ v5) :=
  (((((h.setCell (p := ⟨T, 0, none⟩) hT v0).setCell (p := ⟨T, 1, none⟩) hT v1).setCell (p := ⟨T, 2, none⟩) hT v2).setCell (p := ⟨T, 3, none⟩) hT v3).setCell (p := ⟨T, 4, none⟩) hT v4).setCell (p := ⟨T, 5, none⟩) hT v5
/-- A row of strings, and a change's variable that is set whole. -/
theorem own_set6 {x0 x1 x2 x3 x4 x5 : Value} (h : X.ownsRow base 9 1 (.slice A n k) n xs) (hb : Blk X T 51 #[x0, x1, x2, x3, x4, x5]) (v0 v1 v2 v3 v4 v5 : Value) :
    ((((((World.setCell X ⟨T, 0, none⟩ v0).setCell ⟨T, 1, none⟩ v1).setCell ⟨T, 2, none⟩ v2).setCell ⟨T, 3, none⟩ v3).setCell ⟨T, 4, none⟩ v4).setCell ⟨T, 5, none⟩ v5).ownsRow base 9 1 (.slice A n k) n xs :=
  own_setT (own_setT (own_setT (own_setT (own_setT (own_setT h hb (by decide) 0 v0) (hb.set 0 v0) (by decide) 1 v1) ((hb.set 0 v0).set 1 v1) (by decide) 2 v2) (((hb.set 0 v0).set 1 v1).set 2 v2) (by decide) 3 v3) ((((hb.set 0 v0).set 1 v1).set 2 v2).set 3 v3) (by decide) 4 v4) (((((hb.set 0 v0).set 1 v1).set 2 v2).set 3 v3).set 4 v4) (by decide) 5 v5
end

/-- What lies there when the change is made anew. -/
structure TMid (W : World) (T : Nat) (k : Int) (nm to : List UInt8) (q : Int) (D : Option Addr) (n kd : Nat) (D' : Option Addr) (n' kd' : Nat) (ls ls' : List (List UInt8)) (X : World) : Prop where
  b : Blk X T 51 #[.int .i64 k, strV nm, strV to, .int .i64 q, .slice D n kd, .slice D' n' kd']
  o : X.ownsRow W.heap.size 9 1 (.slice D n kd) n (ls.map strV)
  o' : X.ownsRow W.heap.size 9 1 (.slice D' n' kd') n' (ls'.map strV)
  h : Below W.heap.size W X
  l : W.heap.size ≤ T

theorem tmid_a {W X : World} {k : Int} {nm to : List UInt8} {q : Int} {D : Option Addr} {n kd : Nat} {D' : Option Addr} {n' kd' : Nat} {ls ls' : List (List UInt8)} (h : Below W.heap.size W X) (o : X.ownsRow W.heap.size 9 1 (.slice D n kd) n (ls.map strV)) (o' : X.ownsRow W.heap.size 9 1 (.slice D' n' kd') n' (ls'.map strV)) :
    TMid W X.heap.size k nm to q D n kd D' n' kd' ls ls' (X.alloc (.cells #[.int .i64 k, strV nm, strV to, .int .i64 q, .slice D n kd, .slice D' n' kd'] 51)) :=
  ⟨Blk.new _ _ _, own_gr o (World.grownBy_alloc X _ none), own_gr o' (World.grownBy_alloc X _ none), bel_al h _, h.size⟩
theorem tmid_s {W X : World} {T : Nat} {x0 x1 x2 x3 x4 x5 : Value} {k : Int} {nm to : List UInt8} {q : Int} {D : Option Addr} {n kd : Nat} {D' : Option Addr} {n' kd' : Nat} {ls ls' : List (List UInt8)} (h : Below W.heap.size W X) (hb : Blk X T 51 #[x0, x1, x2, x3, x4, x5]) (hT : W.heap.size ≤ T) (o : X.ownsRow W.heap.size 9 1 (.slice D n kd) n (ls.map strV)) (o' : X.ownsRow W.heap.size 9 1 (.slice D' n' kd') n' (ls'.map strV)) :
    TMid W T k nm to q D n kd D' n' kd' ls ls' ((((((World.setCell X ⟨T, 0, none⟩ (.int .i64 k)).setCell ⟨T, 1, none⟩ (strV nm)).setCell ⟨T, 2, none⟩ (strV to)).setCell ⟨T, 3, none⟩ (.int .i64 q)).setCell ⟨T, 4, none⟩ (.slice D n kd)).setCell ⟨T, 5, none⟩ (.slice D' n' kd')) :=
  ⟨blk6 hb _ _ _ _ _ _, own_set6 o hb _ _ _ _ _ _, own_set6 o' hb _ _ _ _ _ _, bel_set6 h hT _ _ _ _ _ _, hT⟩

/-- How Turn ends: the same as PTEnd, of lines in memory of their own. -/
def PTEndH (w : World) (q : Ch) (e : Ending) (w' : World) : Prop :=
  ∃ A n c A' n' c', e = .returned (prV q.k q.nm q.to q.h.pos A n c A' n' c') ∧ PV w' w'.heap.size A n c A' n' c' q ∧ q.h.old.length = n ∧ q.h.new.length = n' ∧ (Hi w.heap.size A ∧ Hi w.heap.size A') ∧ Below w.heap.size w w'
theorem PTEndH.end_ {w w' : World} {q : Ch} {e : Ending} (h : PTEndH w q e w') : PTEnd w q e w' := by
  obtain ⟨A, n, c, A', n', c', h1, h2, h3, h4, _, h5⟩ := h
  exact ⟨A, n, c, A', n', c', h1, h2, h3, h4, h5⟩
theorem own_set6' {X : World} {base n b k : Nat} {A : Option Addr} {xs : List Value} (h : X.ownsRow base 9 1 (.slice A n k) n xs) (hb : b < base) (v0 v1 v2 v3 v4 v5 : Value) :
    ((((((World.setCell X ⟨b, 0, none⟩ v0).setCell ⟨b, 1, none⟩ v1).setCell ⟨b, 2, none⟩ v2).setCell ⟨b, 3, none⟩ v3).setCell ⟨b, 4, none⟩ v4).setCell ⟨b, 5, none⟩ v5).ownsRow base 9 1 (.slice A n k) n xs :=
  own_set (own_set (own_set (own_set (own_set (own_set h hb 0 v0) hb 1 v1) hb 2 v2) hb 3 v3) hb 4 v4) hb 5 v5

/-- How Turn ends: the lines lie in rows of one's own. -/
theorem turn_fin {w X : World} {base : Nat} {p : Ch} {E : Option Addr} {m ke : Nat} {E' : Option Addr} {m' ke' : Nat} (o : X.ownsRow base 9 1 (.slice E m ke) m (p.h.old.map strV)) (o' : X.ownsRow base 9 1 (.slice E' m' ke') m' (p.h.new.map strV))
    (hl : p.h.old.length = m) (hl' : p.h.new.length = m') (hm : m ≤ maxLen) (hm' : m' ≤ maxLen) (hp : I64 p.h.pos) (hk : I64 p.k) (hn : p.nm.length ≤ maxLen) (ht : p.to.length ≤ maxLen) (hs : ∀ x ∈ p.h.old, x.length ≤ maxLen) (hs' : ∀ x ∈ p.h.new, x.length ≤ maxLen) (hb : Below w.heap.size w X) (hbase : w.heap.size ≤ base) :
    PTEndH w p (.returned (prV p.k p.nm p.to p.h.pos E m ke E' m' ke')) X := by
  obtain ⟨_, _, e1, hk1, r1⟩ := rd_of_own o
  obtain ⟨_, _, e2, hk2, r2⟩ := rd_of_own o'
  cases e1; cases e2
  exact ⟨E, m, ke, E', m', ke', rfl, ⟨⟨hl, hl', hk1, hk2, hm, hm', r1, r2, hp⟩, hk, hn, ht, hs, hs'⟩, hl, hl', ⟨(hi_own o).mono hbase, (hi_own o').mono hbase⟩, hb⟩


end Pr
end Go.Proofs.Ytbiiabfhngdeiaa
