/-
  Words for the statements of layer 8: the program's Turn, its result under a name.
-/
import Derived.Test.YtfjllohhjpiphaaPrLaw
import Derived.Test.YtfjllohhjpiphaaTrRefSame
import Derived.Deep.RegionHeld3
set_option maxRecDepth 100000
namespace Go.Proofs.Ytfjllohhjpiphaa
open Go.RowKit
set_option linter.unusedVariables false
namespace Pr
open Tx Df Sq Hk Tr

theorem TurnC {A A' : Option Addr} {n c n' c' : Nat} {p q : Ch} {w : World} (hq : turnP p = q) (hn : n ≤ 1000) (hn' : n' ≤ 1000) (hv : PV w w.heap.size A n c A' n' c' p) :
    Calls Try.prog 22 #[prV p.k p.nm p.to p.h.pos A n c A' n' c'] w (PTEnd w q) := by
  subst hq
  exact TurnP A n c A' n' c' p w hn hn' hv
theorem turn_len {A A' : Option Addr} {n c n' c' B : Nat} {p : Ch} {w : World} (h : n ≤ 1000 ∧ n' ≤ 1000) (hv : PV w B A n c A' n' c' p) {m m' : Nat} (h1 : (turnP p).h.old.length = m) (h2 : (turnP p).h.new.length = m') : m ≤ 1000 ∧ m' ≤ 1000 := by
  have l := hv.h.l
  have l' := hv.h.l'
  by_cases k0 : p.k = 0
  · rw [turnP_0 k0] at h1 h2; dsimp only at h1 h2; omega
  by_cases k1 : p.k = 1
  · rw [turnP_1 k1] at h1 h2; dsimp only at h1 h2; omega
  by_cases k2 : p.k = 2
  · rw [turnP_2 k2] at h1 h2; dsimp only at h1 h2; omega
  rw [turnP_h k0 k1 k2] at h1 h2
  have e1 : (turn p.h).old = p.h.new := rfl
  have e2 : (turn p.h).new = p.h.old := rfl
  dsimp only at h1 h2
  rw [e1] at h1
  rw [e2] at h2
  omega
end Pr
end Go.Proofs.Ytfjllohhjpiphaa
