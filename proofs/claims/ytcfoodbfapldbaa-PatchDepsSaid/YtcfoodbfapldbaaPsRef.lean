/-
  What the document's own names, apart, lines and Pass of layer 9 return (walks).
-/
import Derived.Test.YtcfoodbfapldbaaGZ
import Derived.Test.YtcfoodbfapldbaaGR
import Derived.Test.YtcfoodbfapldbaaSwRef
import Derived.Deep.Cut
set_option maxRecDepth 100000
namespace Go.Proofs.Ytcfoodbfapldbaa
open Go.RowKit
set_option linter.unusedVariables false
set_option linter.unusedSimpArgs false
namespace Pr
open Tx Df Sq Hk Tr

section
variable {p q : Ch}
theorem passP_no1 (h : mayP p = false) : passP p q = none := by unfold passP; rw [if_pos (.inl h)]
theorem passP_no2 (h : mayP q = false) : passP p q = none := by unfold passP; rw [if_pos (.inr h)]
theorem passP_ap (hp : mayP p = true) (hq : mayP q = true) (h : apartP p q = true) : passP p q = some (q, p) := passP_apart hp hq (apartP_iff.1 h)
theorem passP_b (hp : mayP p = true) (hq : mayP q = true) (h : apartP p q = false) (kp : p.k = 3) (kq : q.k = 3) : passP p q = (Sw.passH p.h q.h).map fun z => (⟨q.k, q.nm, q.to, z.1⟩, ⟨p.k, p.nm, p.to, z.2⟩) := by
  unfold passP
  rw [if_neg (may_not hp hq), if_neg (by rw [h]; decide), if_pos ⟨kp, kq⟩]
theorem passP_o (hp : mayP p = true) (hq : mayP q = true) (h : apartP p q = false) (kp : p.k = 2) (kq : q.k = 3 ∨ q.k = 4) (hn : q.nm = p.to) : passP p q = some (⟨q.k, p.nm, q.to, q.h⟩, p) := by
  unfold passP
  rw [if_neg (may_not hp hq), if_neg (by rw [h]; decide), if_neg (by omega), if_pos ⟨kp, kq, hn⟩]
theorem passP_i (hp : mayP p = true) (hq : mayP q = true) (h : apartP p q = false) (kq : q.k = 2) (kp : p.k = 3 ∨ p.k = 4) (hn : p.nm = q.nm) : passP p q = some (q, ⟨p.k, q.to, p.to, p.h⟩) := by
  unfold passP
  rw [if_neg (may_not hp hq), if_neg (by rw [h]; decide), if_neg (by omega), if_neg (by omega), if_pos ⟨kq, kp, hn⟩]
theorem passP_n (h : apartP p q = false) (h3 : ¬ (p.k = 3 ∧ q.k = 3)) (ho : ¬ (p.k = 2 ∧ (q.k = 3 ∨ q.k = 4) ∧ q.nm = p.to)) (hi : ¬ (q.k = 2 ∧ (p.k = 3 ∨ p.k = 4) ∧ p.nm = q.nm)) : passP p q = none := by
  unfold passP
  by_cases hm : mayP p = false ∨ mayP q = false
  · rw [if_pos hm]
  · rw [if_neg hm, if_neg (show ¬ apartP p q = true by rw [h]; decide), if_neg h3, if_neg ho, if_neg hi]
end

/-- Two changes stored, one behind the other. -/
theorem two_set6 {W : World} {b b' : Nat} {t : TypeId} {x0 x1 x2 x3 x4 x5 y0 y1 y2 y3 y4 y5 : Value} (h : Blk W b t #[x0, x1, x2, x3, x4, x5]) (h' : Blk W b' t #[y0, y1, y2, y3, y4, y5]) (hne : b ≠ b') (v0 v1 v2 v3 v4 v5 u0 u1 u2 u3 u4 u5 : Value) :
    Blk ((((((((((((W.setCell ⟨b, 0, none⟩ v0).setCell ⟨b, 1, none⟩ v1).setCell ⟨b, 2, none⟩ v2).setCell ⟨b, 3, none⟩ v3).setCell ⟨b, 4, none⟩ v4).setCell ⟨b, 5, none⟩ v5).setCell ⟨b', 0, none⟩ u0).setCell ⟨b', 1, none⟩ u1).setCell ⟨b', 2, none⟩ u2).setCell ⟨b', 3, none⟩ u3).setCell ⟨b', 4, none⟩ u4).setCell ⟨b', 5, none⟩ u5) b t #[v0, v1, v2, v3, v4, v5] ∧
    Blk ((((((((((((W.setCell ⟨b, 0, none⟩ v0).setCell ⟨b, 1, none⟩ v1).setCell ⟨b, 2, none⟩ v2).setCell ⟨b, 3, none⟩ v3).setCell ⟨b, 4, none⟩ v4).setCell ⟨b, 5, none⟩ v5).setCell ⟨b', 0, none⟩ u0).setCell ⟨b', 1, none⟩ u1).setCell ⟨b', 2, none⟩ u2).setCell ⟨b', 3, none⟩ u3).setCell ⟨b', 4, none⟩ u4).setCell ⟨b', 5, none⟩ u5) b' t #[u0, u1, u2, u3, u4, u5] :=
  ⟨((((((blk6 h v0 v1 v2 v3 v4 v5).set_ne hne 0 u0).set_ne hne 1 u1).set_ne hne 2 u2).set_ne hne 3 u3).set_ne hne 4 u4).set_ne hne 5 u5,
   blk6 ((((((h'.set_ne hne.symm 0 v0).set_ne hne.symm 1 v1).set_ne hne.symm 2 v2).set_ne hne.symm 3 v3).set_ne hne.symm 4 v4).set_ne hne.symm 5 v5) u0 u1 u2 u3 u4 u5⟩
theorem below_set12 {B : Nat} {w W : World} {b b' : Nat} (h : Below B w W) (hb : B ≤ b) (hb' : B ≤ b') (v0 v1 v2 v3 v4 v5 u0 u1 u2 u3 u4 u5 : Value) :
    Below B w ((((((((((((W.setCell ⟨b, 0, none⟩ v0).setCell ⟨b, 1, none⟩ v1).setCell ⟨b, 2, none⟩ v2).setCell ⟨b, 3, none⟩ v3).setCell ⟨b, 4, none⟩ v4).setCell ⟨b, 5, none⟩ v5).setCell ⟨b', 0, none⟩ u0).setCell ⟨b', 1, none⟩ u1).setCell ⟨b', 2, none⟩ u2).setCell ⟨b', 3, none⟩ u3).setCell ⟨b', 4, none⟩ u4).setCell ⟨b', 5, none⟩ u5) :=
  (((((((((((h.setCell (p := ⟨b, 0, none⟩) hb v0).setCell (p := ⟨b, 1, none⟩) hb v1).setCell (p := ⟨b, 2, none⟩) hb v2).setCell (p := ⟨b, 3, none⟩) hb v3).setCell (p := ⟨b, 4, none⟩) hb v4).setCell (p := ⟨b, 5, none⟩) hb v5).setCell (p := ⟨b', 0, none⟩) hb' u0).setCell (p := ⟨b', 1, none⟩) hb' u1).setCell (p := ⟨b', 2, none⟩) hb' u2).setCell (p := ⟨b', 3, none⟩) hb' u3).setCell (p := ⟨b', 4, none⟩) hb' u4).setCell (p := ⟨b', 5, none⟩) hb' u5
theorem three_set {W : World} {b : Nat} {t : TypeId} {b' : Nat} {x : Array Value} (h : Blk W b t x) (hne : b ≠ b') (v3 v4 v5 : Value) : Blk (((W.setCell ⟨b', 3, none⟩ v3).setCell ⟨b', 4, none⟩ v4).setCell ⟨b', 5, none⟩ v5) b t x :=
  ((h.set_ne hne 3 v3).set_ne hne 4 v4).set_ne hne 5 v5

end Pr
end Go.Proofs.Ytcfoodbfapldbaa
