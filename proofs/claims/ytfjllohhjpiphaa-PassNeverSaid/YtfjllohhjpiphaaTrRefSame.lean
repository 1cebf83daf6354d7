/-
  What the document's Same and May of layer 7 return (walks).
-/
import Derived.Test.YtfjllohhjpiphaaTrRef
set_option maxRecDepth 100000
namespace Go.Proofs.Ytfjllohhjpiphaa
open Go.RowKit
set_option linter.unusedVariables false
namespace Tr
open Tx

theorem SameQ (A A' : Option Addr) (c c' n n' B : Nat) (ls ms : List (List UInt8)) (w : World) (d : Nat) (b : Bool) (hn : ls.length = n) (hn' : ms.length = n') (hnm : n ≤ maxLen) (hR : RdS w B A ls) (hR' : RdS w B A' ms) (hb : decide (ls = ms) = b) :
    Calls Try.prog 50 #[.slice A n c, .slice A' n' c'] (w.drewN d) fun e w' => e = .returned (.bool b) ∧ ∃ m, w' = (w.drewN d).drewN m := by
  subst hb
  exact (Tx.Same A A' c c' n n' B ls ms (w.drewN d) hn hn' hnm (Rd.drewN hR d) (Rd.drewN hR' d)).mono fun e w' h => h

theorem RefNameV (x : List UInt8) (w : World) (hx : x.length ≤ maxLen) : Calls Try.prog 46 #[strV x] w fun e w' => e = .returned (.bool (name x)) ∧ w = w' := by
  have := RefName ⟨x.toArray⟩ w (by rw [size_strV]; exact hx)
  simpa using this

theorem MayT.done' {t : TR} (h : MayT t t.length) : mayT t = decide (t.length ≤ 30) := by
  by_cases hl : t.length ≤ 30
  · rw [h.done hl, decide_eq_true hl]
  · rw [decide_eq_false hl]; unfold mayT; rw [decide_eq_false hl]; rfl

end Tr
end Go.Proofs.Ytfjllohhjpiphaa
