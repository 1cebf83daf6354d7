/-
  An argument of bytes (opened). No function of the program is walked.
-/
import Derived.Test.YtfihjgnafipblaaDoorTxOpen
import Derived.Test.YtfihjgnafipblaaDoorCdNum
set_option maxRecDepth 100000
namespace Go.Proofs.YtfihjgnafipblaaDoor
open Go.RowKit Go.ChangeShapes Go.WideShapes Go.ChangeAt
set_option linter.unusedVariables false
namespace Cd
open Tx

/-- An argument []byte. -/
structure BysArg (w : World) (A : Option Addr) (n c : Nat) (bs : List UInt8) : Prop where
  len : bs.length = n
  cap : n ≤ c
  le : n ≤ maxLen
  rd : RdB w w.heap.size A bs
theorem bys_in {H : Type} {enc : TypeId × Value → H} {W : World} {base : Nat} {spare : Nat → Bool} {held : Bool} {fuel : Nat} {cs : List Value} {x : DataW H × List MemPlace} {A : Option Addr} {l c : Nat} (h : DataW.trod enc Tryd.prog W base spare held fuel 23 cs = some x) (hcs : cs = [.slice A l c]) :
    ∃ bs, BysArg W A l c bs := by
  obtain ⟨bs, h1, h2, h3, h4⟩ := bytes_in h hcs
  exact ⟨bs, h1, h2, h3, h4⟩
theorem BysArg.mv {w w' : World} {A : Option Addr} {n c : Nat} {bs : List UInt8} (h : BysArg w A n c bs) (hb : Below w.heap.size w w') : BysArg w' A n c bs := ⟨h.len, h.cap, h.le, Rd.up (Rd.below h.rd hb) hb.size⟩

end Cd
end Go.Proofs.YtfihjgnafipblaaDoor
