/-
  Words for the statements of layer 8: the program's Turn, its result under a name.
-/
import Derived.Test.YtdjeebfbffoehaaPrLaw
import Derived.Test.YtdjeebfbffoehaaTrRefSame
import Derived.Deep.RegionHeld3
namespace Go.Proofs.Ytdjeebfbffoehaa
open Go.RowKit
set_option linter.unusedVariables false
namespace Pr
open Tx Df Sq Hk Tr

theorem TurnC {A A' : Option Addr} {n c n' c' : Nat} {p q : Ch} {w : World} (hq : turnP p = q) (hn : n ≤ 1000) (hn' : n' ≤ 1000) (hv : PV w w.heap.size A n c A' n' c' p) :
    Calls Try.prog 16 #[prV p.k p.nm p.to p.h.pos A n c A' n' c'] w (PTEnd w q) := by
  subst hq
  exact TurnP A n c A' n' c' p w hn hn' hv
theorem turn_len {A A' : Option Addr} {n c n' c' B : Nat} {p : Ch} {w : World} (h : n ≤ 1000 ∧ n' ≤ 1000) (hv : PV w B A n c A' n' c' p) {m m' : Nat} (h1 : (turnP p).h.old.length = m) (h2 : (turnP p).h.new.length = m') : m ≤ 1000 ∧ m' ≤ 1000 := by
  have l := hv.h.l
  have l' := hv.h.l'
  by_cases k0 : p.k = 0
  · rw [turnP_0 k0] at h1 h2; dsimp only at h1 h2; omega
  by_cases k1 : p.k = 1
  · rw [turnP_1 k1] at h1 h2; dsimp only at h1 h2; omega
  by_cases k2 : p.k = 2
  · rw [turnP_2 k2] at h1 h2; dsimp only at h1 h2; omega
  rw [turnP_h k0 k1 k2] at h1 h2
  have e1 : (turn p.h).old = p.h.new := rfl
  have e2 : (turn p.h).new = p.h.old := rfl
  dsimp only at h1 h2
  rw [e1] at h1
  rw [e2] at h2
  omega
theorem refTurnC {A A' : Option Addr} {n c n' c' : Nat} {p q : Ch} {w : World} (hq : turnP p = q) (hv : PV w w.heap.size A n c A' n' c' p) :
    Calls Try.prog 17 #[prV p.k p.nm p.to p.h.pos A n c A' n' c'] w (PTEnd w q) := by
  subst hq
  exact refTurnP A n c A' n' c' _ p w (Nat.le_refl _) hv
theorem refSameTC {A A' : Option Addr} {n c m c' : Nat} {t u : TR} {w : World} {b : Bool} (hn : t.length = n) (hm : u.length = m) (hs : Small t) (hR : RdT w w.heap.size A t) (hR' : RdT w w.heap.size A' u) (hb : decide (t = u) = b) : Calls Try.prog 14 #[.slice A n c, .slice A' m c'] w (BoolEnd w b) := by
  subst hb
  refine (refSameT A A' n c m c' _ t u w hn hm (by rw [← hn]; exact Nat.le_trans hs.len (by decide)) (fun x hx => (small_fit hs x hx).2) hR hR').mono ?_
  rintro e w' ⟨rfl, d, rfl⟩
  exact ⟨rfl, below_drewN (Below.refl _ _) d⟩

end Pr
end Go.Proofs.Ytdjeebfbffoehaa
