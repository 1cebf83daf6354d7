/-
  No cell of these rows narrows 'for every input' (looked for: loops, veiled, ifaces, maps, wideKeys, modest, calm, conditions, laid).
  DERIVED. THE GIVEN ROWS OF THIS SEAT. 7 by the template 'for every input the law returns true; each argument reads behind the call as it read before'; 0 by the template 'total and deterministic' (their statements: YtdbhfohilfcgfaaTotals.lean).
  GIVEN WITH THE SEED: the statements are not yours to turn. If you find one false, say at which input.
  Laid BY PROGRAM, IN A SANDBOX (cutbox-rows.mjs): the forced cells as the released guide's own fill.sh prints them over the translation 6502e89834b0d944… (all of the seat's roots in one cut). By AI agents, Wed Nov 11 2026. No macro, syntax, notation, axiom, sorry.
-/
import Derived.Test.YtdbhfohilfcgfaaChecked
import GoSem.Claim
import GoSem.ClaimJoined
import GoSem.ClaimMapViews
import Derived.JoinedTies
import Derived.KernelRfl
namespace Go.Proofs.Ytdbhfohilfcgfaa
/- THE CELL 'sum', in the pinned program and in every row, IS THE sha256 OF THE DUMP (.gsa) THAT YtdbhfohilfcgfaaProg.lean LOADS. Nothing in Lean hashes anything: it is a label: what it is worth is what the hold of that sum in a sandbox is worth. -/
noncomputable def Try.pinned : Pinned := { name := "ytdbhfohilfcgfaa", sum := "6502e89834b0d9443651831638cd706854902cb2aef99035e0c4050813b59981", checked := Try.checked }
namespace Rows
def none {H : Type} : Left H := { results := [], args := [] }

/-- 'quiltmakerlaw06.SwapTells': WHATEVER THE INPUT: true; the input reads as it did. -/
def swapTellsSpec : ChangeSpec := { name := "swapTells", fn := fun _ => fun
  | [d1, d2] => { results := [.lit (.bool true)], args := [d1, d2] }
  | _ => none }
def swapTellsRow : OpenClaim := { program := "ytdbhfohilfcgfaa", sum := "6502e89834b0d9443651831638cd706854902cb2aef99035e0c4050813b59981", func := "quiltmaker/quiltmakerlaw06.SwapTells", spec := "swapTells", inPlace := ["internal/bytealg.IndexByteString"], unfollowed := true, recurses := true, apart := false }
def SwapTellsSaid : Prop := swapTellsRow.holds Try.pinned (OpenSpec.ofChange swapTellsSpec)

/-- ITS FALSE NEIGHBOUR: 'it returns false'. Refute it at one input. -/
def swapTellsWrong : ChangeSpec := { name := "swapTells", fn := fun _ => fun
  | [d1, d2] => { results := [.lit (.bool false)], args := [d1, d2] }
  | _ => none }
def SwapTellsWrongFalsely : Prop := swapTellsRow.holds Try.pinned (OpenSpec.ofChange swapTellsWrong)

/-- 'quiltmakerlaw06.SwapSame': WHATEVER THE INPUT: true; the input reads as it did. -/
def swapSameSpec : ChangeSpec := { name := "swapSame", fn := fun _ => fun
  | [d1, d2, d3] => { results := [.lit (.bool true)], args := [d1, d2, d3] }
  | _ => none }
def swapSameRow : OpenClaim := { program := "ytdbhfohilfcgfaa", sum := "6502e89834b0d9443651831638cd706854902cb2aef99035e0c4050813b59981", func := "quiltmaker/quiltmakerlaw06.SwapSame", spec := "swapSame", inPlace := ["internal/bytealg.IndexByteString"], unfollowed := true, recurses := true, apart := false }
def SwapSameSaid : Prop := swapSameRow.holds Try.pinned (OpenSpec.ofChange swapSameSpec)

/-- ITS FALSE NEIGHBOUR: 'it returns false'. Refute it at one input. -/
def swapSameWrong : ChangeSpec := { name := "swapSame", fn := fun _ => fun
  | [d1, d2, d3] => { results := [.lit (.bool false)], args := [d1, d2, d3] }
  | _ => none }
def SwapSameWrongFalsely : Prop := swapSameRow.holds Try.pinned (OpenSpec.ofChange swapSameWrong)

/-- 'quiltmakerlaw06.SwapBack': WHATEVER THE INPUT: true; the input reads as it did. -/
def swapBackSpec : ChangeSpec := { name := "swapBack", fn := fun _ => fun
  | [d1, d2] => { results := [.lit (.bool true)], args := [d1, d2] }
  | _ => none }
def swapBackRow : OpenClaim := { program := "ytdbhfohilfcgfaa", sum := "6502e89834b0d9443651831638cd706854902cb2aef99035e0c4050813b59981", func := "quiltmaker/quiltmakerlaw06.SwapBack", spec := "swapBack", inPlace := ["internal/bytealg.IndexByteString"], unfollowed := true, recurses := true, apart := false }
def SwapBackSaid : Prop := swapBackRow.holds Try.pinned (OpenSpec.ofChange swapBackSpec)

/-- ITS FALSE NEIGHBOUR: 'it returns false'. Refute it at one input. -/
def swapBackWrong : ChangeSpec := { name := "swapBack", fn := fun _ => fun
  | [d1, d2] => { results := [.lit (.bool false)], args := [d1, d2] }
  | _ => none }
def SwapBackWrongFalsely : Prop := swapBackRow.holds Try.pinned (OpenSpec.ofChange swapBackWrong)

/-- 'quiltmakerlaw06.SwapTurns': WHATEVER THE INPUT: true; the input reads as it did. -/
def swapTurnsSpec : ChangeSpec := { name := "swapTurns", fn := fun _ => fun
  | [d1, d2] => { results := [.lit (.bool true)], args := [d1, d2] }
  | _ => none }
def swapTurnsRow : OpenClaim := { program := "ytdbhfohilfcgfaa", sum := "6502e89834b0d9443651831638cd706854902cb2aef99035e0c4050813b59981", func := "quiltmaker/quiltmakerlaw06.SwapTurns", spec := "swapTurns", inPlace := ["internal/bytealg.IndexByteString"], unfollowed := true, recurses := true, apart := false }
def SwapTurnsSaid : Prop := swapTurnsRow.holds Try.pinned (OpenSpec.ofChange swapTurnsSpec)

/-- ITS FALSE NEIGHBOUR: 'it returns false'. Refute it at one input. -/
def swapTurnsWrong : ChangeSpec := { name := "swapTurns", fn := fun _ => fun
  | [d1, d2] => { results := [.lit (.bool false)], args := [d1, d2] }
  | _ => none }
def SwapTurnsWrongFalsely : Prop := swapTurnsRow.holds Try.pinned (OpenSpec.ofChange swapTurnsWrong)

/-- 'quiltmakerlaw06.SwapThree': WHATEVER THE INPUT: true; the input reads as it did. -/
def swapThreeSpec : ChangeSpec := { name := "swapThree", fn := fun _ => fun
  | [d1, d2, d3] => { results := [.lit (.bool true)], args := [d1, d2, d3] }
  | _ => none }
def swapThreeRow : OpenClaim := { program := "ytdbhfohilfcgfaa", sum := "6502e89834b0d9443651831638cd706854902cb2aef99035e0c4050813b59981", func := "quiltmaker/quiltmakerlaw06.SwapThree", spec := "swapThree", inPlace := ["internal/bytealg.IndexByteString"], unfollowed := true, recurses := true, apart := false }
def SwapThreeSaid : Prop := swapThreeRow.holds Try.pinned (OpenSpec.ofChange swapThreeSpec)

/-- ITS FALSE NEIGHBOUR: 'it returns false'. Refute it at one input. -/
def swapThreeWrong : ChangeSpec := { name := "swapThree", fn := fun _ => fun
  | [d1, d2, d3] => { results := [.lit (.bool false)], args := [d1, d2, d3] }
  | _ => none }
def SwapThreeWrongFalsely : Prop := swapThreeRow.holds Try.pinned (OpenSpec.ofChange swapThreeWrong)

/-- 'quiltmakerlaw06.SwapMoves': WHATEVER THE INPUT: true; the input reads as it did. -/
def swapMovesSpec : ChangeSpec := { name := "swapMoves", fn := fun _ => fun
  | [d1, d2] => { results := [.lit (.bool true)], args := [d1, d2] }
  | _ => none }
def swapMovesRow : OpenClaim := { program := "ytdbhfohilfcgfaa", sum := "6502e89834b0d9443651831638cd706854902cb2aef99035e0c4050813b59981", func := "quiltmaker/quiltmakerlaw06.SwapMoves", spec := "swapMoves", inPlace := ["internal/bytealg.IndexByteString"], unfollowed := true, recurses := true, apart := false }
def SwapMovesSaid : Prop := swapMovesRow.holds Try.pinned (OpenSpec.ofChange swapMovesSpec)

/-- ITS FALSE NEIGHBOUR: 'it returns false'. Refute it at one input. -/
def swapMovesWrong : ChangeSpec := { name := "swapMoves", fn := fun _ => fun
  | [d1, d2] => { results := [.lit (.bool false)], args := [d1, d2] }
  | _ => none }
def SwapMovesWrongFalsely : Prop := swapMovesRow.holds Try.pinned (OpenSpec.ofChange swapMovesWrong)

/-- 'quiltmakerlaw06.SwapTouch': WHATEVER THE INPUT: true; the input reads as it did. -/
def swapTouchSpec : ChangeSpec := { name := "swapTouch", fn := fun _ => fun
  | [d1, d2] => { results := [.lit (.bool true)], args := [d1, d2] }
  | _ => none }
def swapTouchRow : OpenClaim := { program := "ytdbhfohilfcgfaa", sum := "6502e89834b0d9443651831638cd706854902cb2aef99035e0c4050813b59981", func := "quiltmaker/quiltmakerlaw06.SwapTouch", spec := "swapTouch", inPlace := ["internal/bytealg.IndexByteString"], unfollowed := true, recurses := true, apart := false }
def SwapTouchSaid : Prop := swapTouchRow.holds Try.pinned (OpenSpec.ofChange swapTouchSpec)

/-- ITS FALSE NEIGHBOUR: 'it returns false'. Refute it at one input. -/
def swapTouchWrong : ChangeSpec := { name := "swapTouch", fn := fun _ => fun
  | [d1, d2] => { results := [.lit (.bool false)], args := [d1, d2] }
  | _ => none }
def SwapTouchWrongFalsely : Prop := swapTouchRow.holds Try.pinned (OpenSpec.ofChange swapTouchWrong)

/- THE SECOND FORM. 'bulk': how many values and letters a reading holds, each counted each time it is reached (what is shared counts as often as it is met; a slice's spare places count too). A statement '..UptoSaid' is the law's where the arguments, and the package variables that the reading takes, are together of bulk at most 1048576: NARROWER than '..Said'. Prove '..Said' where nothing that the law and all that it calls make is longer than what came in: it says more and counts as full. Else prove '..UptoSaid'. A law counts once. -/
mutual
def uptoBulk {H : Type} : DataW H → Nat
  | .lit (.string bytes) => bytes.length + 1
  | .lit _ => 1
  | .nil => 1
  | .ptr d => uptoBulk d + 1
  | .slice elems spare => uptoBulkAll elems + uptoBulkAll spare + 1
  | .agg parts => uptoBulkAll parts + 1
  | .iface _ d => uptoBulk d + 1
  | .map entries => uptoBulkEntries entries + 1
  | .held _ => 1
def uptoBulkAll {H : Type} : List (DataW H) → Nat
  | [] => 0
  | d :: r => uptoBulk d + uptoBulkAll r
def uptoBulkEntries {H : Type} : List (Lit × DataW H) → Nat
  | [] => 0
  | x :: r => uptoBulkEntry x + uptoBulkEntries r
def uptoBulkEntry {H : Type} : Lit × DataW H → Nat
  | (.string bytes, d) => bytes.length + uptoBulk d + 1
  | (_, d) => uptoBulk d + 1
 end
def uptoSmall : (H : Type) → List (DataW H) → Bool := fun _ ds => decide (uptoBulkAll ds ≤ 1048576)
def OpenSpec.upto (s : _root_.Go.ChangeSpec) : _root_.Go.OpenSpec := { _root_.Go.OpenSpec.ofChange s with cond := some uptoSmall }

/-- 'quiltmakerlaw06.SwapTells', WHERE WHAT IT READS IS OF BULK AT MOST 1048576: true; the input reads as it did. -/
def swapTellsUptoRow : OpenClaim := { program := "ytdbhfohilfcgfaa", sum := "6502e89834b0d9443651831638cd706854902cb2aef99035e0c4050813b59981", func := "quiltmaker/quiltmakerlaw06.SwapTells", spec := "swapTells", inPlace := ["internal/bytealg.IndexByteString"], unfollowed := true, recurses := true, apart := false, narrowed := true }
def SwapTellsUptoSaid : Prop := swapTellsUptoRow.holds Try.pinned (OpenSpec.upto swapTellsSpec)

/-- 'quiltmakerlaw06.SwapSame', WHERE WHAT IT READS IS OF BULK AT MOST 1048576: true; the input reads as it did. -/
def swapSameUptoRow : OpenClaim := { program := "ytdbhfohilfcgfaa", sum := "6502e89834b0d9443651831638cd706854902cb2aef99035e0c4050813b59981", func := "quiltmaker/quiltmakerlaw06.SwapSame", spec := "swapSame", inPlace := ["internal/bytealg.IndexByteString"], unfollowed := true, recurses := true, apart := false, narrowed := true }
def SwapSameUptoSaid : Prop := swapSameUptoRow.holds Try.pinned (OpenSpec.upto swapSameSpec)

/-- 'quiltmakerlaw06.SwapBack', WHERE WHAT IT READS IS OF BULK AT MOST 1048576: true; the input reads as it did. -/
def swapBackUptoRow : OpenClaim := { program := "ytdbhfohilfcgfaa", sum := "6502e89834b0d9443651831638cd706854902cb2aef99035e0c4050813b59981", func := "quiltmaker/quiltmakerlaw06.SwapBack", spec := "swapBack", inPlace := ["internal/bytealg.IndexByteString"], unfollowed := true, recurses := true, apart := false, narrowed := true }
def SwapBackUptoSaid : Prop := swapBackUptoRow.holds Try.pinned (OpenSpec.upto swapBackSpec)

/-- 'quiltmakerlaw06.SwapTurns', WHERE WHAT IT READS IS OF BULK AT MOST 1048576: true; the input reads as it did. -/
def swapTurnsUptoRow : OpenClaim := { program := "ytdbhfohilfcgfaa", sum := "6502e89834b0d9443651831638cd706854902cb2aef99035e0c4050813b59981", func := "quiltmaker/quiltmakerlaw06.SwapTurns", spec := "swapTurns", inPlace := ["internal/bytealg.IndexByteString"], unfollowed := true, recurses := true, apart := false, narrowed := true }
def SwapTurnsUptoSaid : Prop := swapTurnsUptoRow.holds Try.pinned (OpenSpec.upto swapTurnsSpec)

/-- 'quiltmakerlaw06.SwapThree', WHERE WHAT IT READS IS OF BULK AT MOST 1048576: true; the input reads as it did. -/
def swapThreeUptoRow : OpenClaim := { program := "ytdbhfohilfcgfaa", sum := "6502e89834b0d9443651831638cd706854902cb2aef99035e0c4050813b59981", func := "quiltmaker/quiltmakerlaw06.SwapThree", spec := "swapThree", inPlace := ["internal/bytealg.IndexByteString"], unfollowed := true, recurses := true, apart := false, narrowed := true }
def SwapThreeUptoSaid : Prop := swapThreeUptoRow.holds Try.pinned (OpenSpec.upto swapThreeSpec)

/-- 'quiltmakerlaw06.SwapMoves', WHERE WHAT IT READS IS OF BULK AT MOST 1048576: true; the input reads as it did. -/
def swapMovesUptoRow : OpenClaim := { program := "ytdbhfohilfcgfaa", sum := "6502e89834b0d9443651831638cd706854902cb2aef99035e0c4050813b59981", func := "quiltmaker/quiltmakerlaw06.SwapMoves", spec := "swapMoves", inPlace := ["internal/bytealg.IndexByteString"], unfollowed := true, recurses := true, apart := false, narrowed := true }
def SwapMovesUptoSaid : Prop := swapMovesUptoRow.holds Try.pinned (OpenSpec.upto swapMovesSpec)

/-- 'quiltmakerlaw06.SwapTouch', WHERE WHAT IT READS IS OF BULK AT MOST 1048576: true; the input reads as it did. -/
def swapTouchUptoRow : OpenClaim := { program := "ytdbhfohilfcgfaa", sum := "6502e89834b0d9443651831638cd706854902cb2aef99035e0c4050813b59981", func := "quiltmaker/quiltmakerlaw06.SwapTouch", spec := "swapTouch", inPlace := ["internal/bytealg.IndexByteString"], unfollowed := true, recurses := true, apart := false, narrowed := true }
def SwapTouchUptoSaid : Prop := swapTouchUptoRow.holds Try.pinned (OpenSpec.upto swapTouchSpec)

end Rows
end Go.Proofs.Ytdbhfohilfcgfaa
