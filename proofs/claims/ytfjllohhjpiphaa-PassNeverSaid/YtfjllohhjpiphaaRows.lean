/-
  No cell of these rows narrows 'for every input' (looked for: loops, veiled, ifaces, maps, wideKeys, modest, calm, conditions, laid).
  DERIVED. THE GIVEN ROWS OF THIS SEAT. 8 by the template 'for every input the law returns true; each argument reads behind the call as it read before'; 0 by the template 'total and deterministic' (their statements: YtfjllohhjpiphaaTotals.lean).
  GIVEN WITH THE SEED: the statements are not yours to turn. If you find one false, say at which input.
  Laid BY PROGRAM, IN A SANDBOX (cutbox-rows.mjs): the forced cells as the released guide's own fill.sh prints them over the translation e49f80d55773a696… (all of the seat's roots in one cut). By AI agents, Wed Nov 11 2026. No macro, syntax, notation, axiom, sorry.
-/
import Derived.Test.YtfjllohhjpiphaaChecked
import GoSem.Claim
import GoSem.ClaimJoined
import GoSem.ClaimMapViews
import Derived.JoinedTies
import Derived.KernelRfl
namespace Go.Proofs.Ytfjllohhjpiphaa
/- THE CELL 'sum', in the pinned program and in every row, IS THE sha256 OF THE DUMP (.gsa) THAT YtfjllohhjpiphaaProg.lean LOADS. Nothing in Lean hashes anything: it is a label: what it is worth is what the hold of that sum in a sandbox is worth. -/
noncomputable def Try.pinned : Pinned := { name := "ytfjllohhjpiphaa", sum := "e49f80d55773a696a8d4f56154c6c6cfedaff285cf698b6efb9a687cefca7938", checked := Try.checked }
namespace Rows
def none {H : Type} : Left H := { results := [], args := [] }

/-- 'quiltmakerlaw09.PassTells': WHATEVER THE INPUT: true; the input reads as it did. -/
def passTellsSpec : ChangeSpec := { name := "passTells", fn := fun _ => fun
  | [d1, d2] => { results := [.lit (.bool true)], args := [d1, d2] }
  | _ => none }
def passTellsRow : OpenClaim := { program := "ytfjllohhjpiphaa", sum := "e49f80d55773a696a8d4f56154c6c6cfedaff285cf698b6efb9a687cefca7938", func := "quiltmaker/quiltmakerlaw09.PassTells", spec := "passTells", inPlace := ["internal/bytealg.IndexByteString"], unfollowed := true, recurses := true, apart := false }
def PassTellsSaid : Prop := passTellsRow.holds Try.pinned (OpenSpec.ofChange passTellsSpec)

/-- ITS FALSE NEIGHBOUR: 'it returns false'. Refute it at one input. -/
def passTellsWrong : ChangeSpec := { name := "passTells", fn := fun _ => fun
  | [d1, d2] => { results := [.lit (.bool false)], args := [d1, d2] }
  | _ => none }
def PassTellsWrongFalsely : Prop := passTellsRow.holds Try.pinned (OpenSpec.ofChange passTellsWrong)

/-- 'quiltmakerlaw09.PassSame': WHATEVER THE INPUT: true; the input reads as it did. -/
def passSameSpec : ChangeSpec := { name := "passSame", fn := fun _ => fun
  | [d1, d2, d3] => { results := [.lit (.bool true)], args := [d1, d2, d3] }
  | _ => none }
def passSameRow : OpenClaim := { program := "ytfjllohhjpiphaa", sum := "e49f80d55773a696a8d4f56154c6c6cfedaff285cf698b6efb9a687cefca7938", func := "quiltmaker/quiltmakerlaw09.PassSame", spec := "passSame", inPlace := ["internal/bytealg.IndexByteString", "slices.overlaps[quiltmaker/api.File]"], unfollowed := true, recurses := true, apart := false }
def PassSameSaid : Prop := passSameRow.holds Try.pinned (OpenSpec.ofChange passSameSpec)

/-- ITS FALSE NEIGHBOUR: 'it returns false'. Refute it at one input. -/
def passSameWrong : ChangeSpec := { name := "passSame", fn := fun _ => fun
  | [d1, d2, d3] => { results := [.lit (.bool false)], args := [d1, d2, d3] }
  | _ => none }
def PassSameWrongFalsely : Prop := passSameRow.holds Try.pinned (OpenSpec.ofChange passSameWrong)

/-- 'quiltmakerlaw09.PassBack': WHATEVER THE INPUT: true; the input reads as it did. -/
def passBackSpec : ChangeSpec := { name := "passBack", fn := fun _ => fun
  | [d1, d2] => { results := [.lit (.bool true)], args := [d1, d2] }
  | _ => none }
def passBackRow : OpenClaim := { program := "ytfjllohhjpiphaa", sum := "e49f80d55773a696a8d4f56154c6c6cfedaff285cf698b6efb9a687cefca7938", func := "quiltmaker/quiltmakerlaw09.PassBack", spec := "passBack", inPlace := ["internal/bytealg.IndexByteString"], unfollowed := true, recurses := true, apart := false }
def PassBackSaid : Prop := passBackRow.holds Try.pinned (OpenSpec.ofChange passBackSpec)

/-- ITS FALSE NEIGHBOUR: 'it returns false'. Refute it at one input. -/
def passBackWrong : ChangeSpec := { name := "passBack", fn := fun _ => fun
  | [d1, d2] => { results := [.lit (.bool false)], args := [d1, d2] }
  | _ => none }
def PassBackWrongFalsely : Prop := passBackRow.holds Try.pinned (OpenSpec.ofChange passBackWrong)

/-- 'quiltmakerlaw09.PassTurns': WHATEVER THE INPUT: true; the input reads as it did. -/
def passTurnsSpec : ChangeSpec := { name := "passTurns", fn := fun _ => fun
  | [d1, d2] => { results := [.lit (.bool true)], args := [d1, d2] }
  | _ => none }
def passTurnsRow : OpenClaim := { program := "ytfjllohhjpiphaa", sum := "e49f80d55773a696a8d4f56154c6c6cfedaff285cf698b6efb9a687cefca7938", func := "quiltmaker/quiltmakerlaw09.PassTurns", spec := "passTurns", inPlace := ["internal/bytealg.IndexByteString"], unfollowed := true, recurses := true, apart := false }
def PassTurnsSaid : Prop := passTurnsRow.holds Try.pinned (OpenSpec.ofChange passTurnsSpec)

/-- ITS FALSE NEIGHBOUR: 'it returns false'. Refute it at one input. -/
def passTurnsWrong : ChangeSpec := { name := "passTurns", fn := fun _ => fun
  | [d1, d2] => { results := [.lit (.bool false)], args := [d1, d2] }
  | _ => none }
def PassTurnsWrongFalsely : Prop := passTurnsRow.holds Try.pinned (OpenSpec.ofChange passTurnsWrong)

/-- 'quiltmakerlaw09.PassKinds': WHATEVER THE INPUT: true; the input reads as it did. -/
def passKindsSpec : ChangeSpec := { name := "passKinds", fn := fun _ => fun
  | [d1, d2] => { results := [.lit (.bool true)], args := [d1, d2] }
  | _ => none }
def passKindsRow : OpenClaim := { program := "ytfjllohhjpiphaa", sum := "e49f80d55773a696a8d4f56154c6c6cfedaff285cf698b6efb9a687cefca7938", func := "quiltmaker/quiltmakerlaw09.PassKinds", spec := "passKinds", inPlace := ["internal/bytealg.IndexByteString"], unfollowed := true, recurses := true, apart := false }
def PassKindsSaid : Prop := passKindsRow.holds Try.pinned (OpenSpec.ofChange passKindsSpec)

/-- ITS FALSE NEIGHBOUR: 'it returns false'. Refute it at one input. -/
def passKindsWrong : ChangeSpec := { name := "passKinds", fn := fun _ => fun
  | [d1, d2] => { results := [.lit (.bool false)], args := [d1, d2] }
  | _ => none }
def PassKindsWrongFalsely : Prop := passKindsRow.holds Try.pinned (OpenSpec.ofChange passKindsWrong)

/-- 'quiltmakerlaw09.PassThree': WHATEVER THE INPUT: true; the input reads as it did. -/
def passThreeSpec : ChangeSpec := { name := "passThree", fn := fun _ => fun
  | [d1, d2, d3] => { results := [.lit (.bool true)], args := [d1, d2, d3] }
  | _ => none }
def passThreeRow : OpenClaim := { program := "ytfjllohhjpiphaa", sum := "e49f80d55773a696a8d4f56154c6c6cfedaff285cf698b6efb9a687cefca7938", func := "quiltmaker/quiltmakerlaw09.PassThree", spec := "passThree", inPlace := ["internal/bytealg.IndexByteString"], unfollowed := true, recurses := true, apart := false }
def PassThreeSaid : Prop := passThreeRow.holds Try.pinned (OpenSpec.ofChange passThreeSpec)

/-- ITS FALSE NEIGHBOUR: 'it returns false'. Refute it at one input. -/
def passThreeWrong : ChangeSpec := { name := "passThree", fn := fun _ => fun
  | [d1, d2, d3] => { results := [.lit (.bool false)], args := [d1, d2, d3] }
  | _ => none }
def PassThreeWrongFalsely : Prop := passThreeRow.holds Try.pinned (OpenSpec.ofChange passThreeWrong)

/-- 'quiltmakerlaw09.PassApart': WHATEVER THE INPUT: true; the input reads as it did. -/
def passApartSpec : ChangeSpec := { name := "passApart", fn := fun _ => fun
  | [d1, d2] => { results := [.lit (.bool true)], args := [d1, d2] }
  | _ => none }
def passApartRow : OpenClaim := { program := "ytfjllohhjpiphaa", sum := "e49f80d55773a696a8d4f56154c6c6cfedaff285cf698b6efb9a687cefca7938", func := "quiltmaker/quiltmakerlaw09.PassApart", spec := "passApart", inPlace := ["internal/bytealg.IndexByteString"], unfollowed := true, recurses := true, apart := false }
def PassApartSaid : Prop := passApartRow.holds Try.pinned (OpenSpec.ofChange passApartSpec)

/-- ITS FALSE NEIGHBOUR: 'it returns false'. Refute it at one input. -/
def passApartWrong : ChangeSpec := { name := "passApart", fn := fun _ => fun
  | [d1, d2] => { results := [.lit (.bool false)], args := [d1, d2] }
  | _ => none }
def PassApartWrongFalsely : Prop := passApartRow.holds Try.pinned (OpenSpec.ofChange passApartWrong)

/-- 'quiltmakerlaw09.PassNever': WHATEVER THE INPUT: true; the input reads as it did. -/
def passNeverSpec : ChangeSpec := { name := "passNever", fn := fun _ => fun
  | [d1, d2] => { results := [.lit (.bool true)], args := [d1, d2] }
  | _ => none }
def passNeverRow : OpenClaim := { program := "ytfjllohhjpiphaa", sum := "e49f80d55773a696a8d4f56154c6c6cfedaff285cf698b6efb9a687cefca7938", func := "quiltmaker/quiltmakerlaw09.PassNever", spec := "passNever", inPlace := ["internal/bytealg.IndexByteString"], unfollowed := true, recurses := true, apart := false }
def PassNeverSaid : Prop := passNeverRow.holds Try.pinned (OpenSpec.ofChange passNeverSpec)

/-- ITS FALSE NEIGHBOUR: 'it returns false'. Refute it at one input. -/
def passNeverWrong : ChangeSpec := { name := "passNever", fn := fun _ => fun
  | [d1, d2] => { results := [.lit (.bool false)], args := [d1, d2] }
  | _ => none }
def PassNeverWrongFalsely : Prop := passNeverRow.holds Try.pinned (OpenSpec.ofChange passNeverWrong)

/- THE SECOND FORM. 'bulk': how many values and letters a reading holds, each counted each time it is reached (what is shared counts as often as it is met; a slice's spare places count too). A statement '..UptoSaid' is the law's where the arguments, and the package variables that the reading takes, are together of bulk at most 1048576: NARROWER than '..Said'. Prove '..Said' where nothing that the law and all that it calls make is longer than what came in: it says more and counts as full. Else prove '..UptoSaid'. A law counts once. -/
mutual
def uptoBulk {H : Type} : DataW H → Nat
  | .lit (.string bytes) => bytes.length + 1
  | .lit _ => 1
  | .nil => 1
  | .ptr d => uptoBulk d + 1
  | .slice elems spare => uptoBulkAll elems + uptoBulkAll spare + 1
  | .agg parts => uptoBulkAll parts + 1
  | .iface _ d => uptoBulk d + 1
  | .map entries => uptoBulkEntries entries + 1
  | .held _ => 1
def uptoBulkAll {H : Type} : List (DataW H) → Nat
  | [] => 0
  | d :: r => uptoBulk d + uptoBulkAll r
def uptoBulkEntries {H : Type} : List (Lit × DataW H) → Nat
  | [] => 0
  | x :: r => uptoBulkEntry x + uptoBulkEntries r
def uptoBulkEntry {H : Type} : Lit × DataW H → Nat
  | (.string bytes, d) => bytes.length + uptoBulk d + 1
  | (_, d) => uptoBulk d + 1
 end
def uptoSmall : (H : Type) → List (DataW H) → Bool := fun _ ds => decide (uptoBulkAll ds ≤ 1048576)
def OpenSpec.upto (s : _root_.Go.ChangeSpec) : _root_.Go.OpenSpec := { _root_.Go.OpenSpec.ofChange s with cond := some uptoSmall }

/-- 'quiltmakerlaw09.PassTells', WHERE WHAT IT READS IS OF BULK AT MOST 1048576: true; the input reads as it did. -/
def passTellsUptoRow : OpenClaim := { program := "ytfjllohhjpiphaa", sum := "e49f80d55773a696a8d4f56154c6c6cfedaff285cf698b6efb9a687cefca7938", func := "quiltmaker/quiltmakerlaw09.PassTells", spec := "passTells", inPlace := ["internal/bytealg.IndexByteString"], unfollowed := true, recurses := true, apart := false, narrowed := true }
def PassTellsUptoSaid : Prop := passTellsUptoRow.holds Try.pinned (OpenSpec.upto passTellsSpec)

/-- 'quiltmakerlaw09.PassSame', WHERE WHAT IT READS IS OF BULK AT MOST 1048576: true; the input reads as it did. -/
def passSameUptoRow : OpenClaim := { program := "ytfjllohhjpiphaa", sum := "e49f80d55773a696a8d4f56154c6c6cfedaff285cf698b6efb9a687cefca7938", func := "quiltmaker/quiltmakerlaw09.PassSame", spec := "passSame", inPlace := ["internal/bytealg.IndexByteString", "slices.overlaps[quiltmaker/api.File]"], unfollowed := true, recurses := true, apart := false, narrowed := true }
def PassSameUptoSaid : Prop := passSameUptoRow.holds Try.pinned (OpenSpec.upto passSameSpec)

/-- 'quiltmakerlaw09.PassBack', WHERE WHAT IT READS IS OF BULK AT MOST 1048576: true; the input reads as it did. -/
def passBackUptoRow : OpenClaim := { program := "ytfjllohhjpiphaa", sum := "e49f80d55773a696a8d4f56154c6c6cfedaff285cf698b6efb9a687cefca7938", func := "quiltmaker/quiltmakerlaw09.PassBack", spec := "passBack", inPlace := ["internal/bytealg.IndexByteString"], unfollowed := true, recurses := true, apart := false, narrowed := true }
def PassBackUptoSaid : Prop := passBackUptoRow.holds Try.pinned (OpenSpec.upto passBackSpec)

/-- 'quiltmakerlaw09.PassTurns', WHERE WHAT IT READS IS OF BULK AT MOST 1048576: true; the input reads as it did. -/
def passTurnsUptoRow : OpenClaim := { program := "ytfjllohhjpiphaa", sum := "e49f80d55773a696a8d4f56154c6c6cfedaff285cf698b6efb9a687cefca7938", func := "quiltmaker/quiltmakerlaw09.PassTurns", spec := "passTurns", inPlace := ["internal/bytealg.IndexByteString"], unfollowed := true, recurses := true, apart := false, narrowed := true }
def PassTurnsUptoSaid : Prop := passTurnsUptoRow.holds Try.pinned (OpenSpec.upto passTurnsSpec)

/-- 'quiltmakerlaw09.PassKinds', WHERE WHAT IT READS IS OF BULK AT MOST 1048576: true; the input reads as it did. -/
def passKindsUptoRow : OpenClaim := { program := "ytfjllohhjpiphaa", sum := "e49f80d55773a696a8d4f56154c6c6cfedaff285cf698b6efb9a687cefca7938", func := "quiltmaker/quiltmakerlaw09.PassKinds", spec := "passKinds", inPlace := ["internal/bytealg.IndexByteString"], unfollowed := true, recurses := true, apart := false, narrowed := true }
def PassKindsUptoSaid : Prop := passKindsUptoRow.holds Try.pinned (OpenSpec.upto passKindsSpec)

/-- 'quiltmakerlaw09.PassThree', WHERE WHAT IT READS IS OF BULK AT MOST 1048576: true; the input reads as it did. -/
def passThreeUptoRow : OpenClaim := { program := "ytfjllohhjpiphaa", sum := "e49f80d55773a696a8d4f56154c6c6cfedaff285cf698b6efb9a687cefca7938", func := "quiltmaker/quiltmakerlaw09.PassThree", spec := "passThree", inPlace := ["internal/bytealg.IndexByteString"], unfollowed := true, recurses := true, apart := false, narrowed := true }
def PassThreeUptoSaid : Prop := passThreeUptoRow.holds Try.pinned (OpenSpec.upto passThreeSpec)

/-- 'quiltmakerlaw09.PassApart', WHERE WHAT IT READS IS OF BULK AT MOST 1048576: true; the input reads as it did. -/
def passApartUptoRow : OpenClaim := { program := "ytfjllohhjpiphaa", sum := "e49f80d55773a696a8d4f56154c6c6cfedaff285cf698b6efb9a687cefca7938", func := "quiltmaker/quiltmakerlaw09.PassApart", spec := "passApart", inPlace := ["internal/bytealg.IndexByteString"], unfollowed := true, recurses := true, apart := false, narrowed := true }
def PassApartUptoSaid : Prop := passApartUptoRow.holds Try.pinned (OpenSpec.upto passApartSpec)

/-- 'quiltmakerlaw09.PassNever', WHERE WHAT IT READS IS OF BULK AT MOST 1048576: true; the input reads as it did. -/
def passNeverUptoRow : OpenClaim := { program := "ytfjllohhjpiphaa", sum := "e49f80d55773a696a8d4f56154c6c6cfedaff285cf698b6efb9a687cefca7938", func := "quiltmaker/quiltmakerlaw09.PassNever", spec := "passNever", inPlace := ["internal/bytealg.IndexByteString"], unfollowed := true, recurses := true, apart := false, narrowed := true }
def PassNeverUptoSaid : Prop := passNeverUptoRow.holds Try.pinned (OpenSpec.upto passNeverSpec)

end Rows
end Go.Proofs.Ytfjllohhjpiphaa
