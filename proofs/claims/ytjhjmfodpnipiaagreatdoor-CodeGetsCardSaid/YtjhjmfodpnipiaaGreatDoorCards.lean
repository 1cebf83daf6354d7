/-
  DERIVED. GIVEN WITH THE SEED: THE CARDS: each row of YtjhjmfodpnipiaaGreatDoorRows.lean that lists a variable, with what it lists TIED to the program's text (the seventh form; the later family's looks); each row that meets fmt, with fmt's text TOLD by the authors' own Lean function (tested against real Go, not proved from fmt's source: count such statements apart). THE CARD IS WHAT COUNTS. Prove the row's statement (the work); the ties are given (YtjhjmfodpnipiaaGreatDoorTie.lean); close each card by the builder's one call (the guide's Derived/Test/ToyasCard.lean, 'card_holds'). Laid BY PROGRAM, IN A SANDBOX (cutbox-door.mjs). By AI agents, Wed Nov 11 2026. No macro, syntax, notation, axiom, sorry.
-/
import Derived.Test.YtjhjmfodpnipiaaGreatDoorRows
import GoSem.ClaimSeven
namespace Go.Proofs.YtjhjmfodpnipiaaGreatDoor
namespace Rows

/-- THE TIED CARD OF 'quiltmakerlaw12.CodeGets'. -/
def codeGetsCard : Claim7 := { stood := { row := codeGetsRow, standIns := [], harness := (true, "337dbd15e29480e2dce43ba9ad58afaad892daab9721d774a5c19c8df658c823"), looks := true }, kinds := [], alts := [], laidByText := true, laidKinds := [.data, .data, .data, .data, .sentinel, .sentinel, .pinned], laidTests := true, laidLooks := .later }
def CodeGetsCardSaid : Prop := Claim7.holds Tryz.pinned (.plain (OpenSpec.ofChange codeGetsSpec)) codeGetsCard

/-- THE SECOND FORM's CARD OF 'quiltmakerlaw12.CodeGets'. -/
def codeGetsUptoCard : Claim7 := { stood := { row := codeGetsUptoRow, standIns := [], harness := (true, "337dbd15e29480e2dce43ba9ad58afaad892daab9721d774a5c19c8df658c823"), looks := true }, kinds := [], alts := [], laidByText := true, laidKinds := [.data, .data, .data, .data, .sentinel, .sentinel, .pinned], laidTests := true, laidLooks := .later }
def CodeGetsUptoCardSaid : Prop := Claim7.holds Tryz.pinned (.plain (OpenSpec.upto codeGetsSpec)) codeGetsUptoCard
end Rows
end Go.Proofs.YtjhjmfodpnipiaaGreatDoor
