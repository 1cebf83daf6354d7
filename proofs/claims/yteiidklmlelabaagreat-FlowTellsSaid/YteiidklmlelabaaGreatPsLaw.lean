/-
  Words for the statements of layer 9: the chapter's example; trees that stay small.
-/
import Derived.Test.YteiidklmlelabaaGreatPsCode
import Derived.Test.YteiidklmlelabaaGreatGV
set_option maxRecDepth 100000
namespace Go.Proofs.YteiidklmlelabaaGreat
open Go.RowKit
set_option linter.unusedVariables false
namespace PsAwake
open Tx Df Sq Hk Tr Pr

def exP : Ch := ⟨2, [97], [98], ⟨0, [], []⟩⟩
def exQ : Ch := ⟨3, [98], [], ⟨0, [], [[120]]⟩⟩
def exR : Ch := ⟨3, [97], [], ⟨0, [], [[120]]⟩⟩
def exA : Ch := ⟨0, [97], [], ⟨0, [], []⟩⟩
def exB : Ch := ⟨1, [97], [], ⟨0, [], []⟩⟩
theorem ex1 : passP exP exQ = some (exR, exP) := passP_out (p := exP) (q := exQ) (by decide) (by decide) rfl (.inl rfl) rfl
theorem ex2 : passP exA exB = none := passP_never rfl (.inl ⟨by decide, by decide⟩)
theorem pv_one (w : World) (k : Int) (nm to : List UInt8) (hk : 0 ≤ k ∧ k ≤ 4) (hn : nm.length ≤ 5) (ht : to.length ≤ 5) : PV w w.heap.size none 0 0 none 0 0 ⟨k, nm, to, ⟨0, [], []⟩⟩ :=
  ⟨⟨rfl, rfl, Nat.le_refl _, Nat.le_refl _, by decide, by decide, .inl rfl, .inl rfl, (by unfold I64; dsimp only; omega)⟩, (by unfold I64; dsimp only; omega), Nat.le_trans hn (by decide), Nat.le_trans ht (by decide), fun x hx => (by cases hx), fun x hx => (by cases hx)⟩

end PsAwake
end Go.Proofs.YteiidklmlelabaaGreat
