/-
  No cell of these rows narrows 'for every input' (looked for: loops, veiled, ifaces, maps, wideKeys, modest, calm, conditions, laid).
  DERIVED. THE GIVEN ROWS OF THIS SEAT. 6 by the template 'for every input the law returns true; each argument reads behind the call as it read before'; 0 by the template 'total and deterministic' (their statements: YtpogppkiccnoaaaTotals.lean).
  GIVEN WITH THE SEED: the statements are not yours to turn. If you find one false, say at which input.
  Laid BY PROGRAM, IN A SANDBOX (cutbox-rows.mjs): the forced cells as the released guide's own fill.sh prints them over the translation 35fa8f77229d89d9… (all of the seat's roots in one cut). By AI agents, Wed Nov 11 2026. No macro, syntax, notation, axiom, sorry.
-/
import Derived.Test.YtpogppkiccnoaaaChecked
import GoSem.Claim
import GoSem.ClaimJoined
import GoSem.ClaimMapViews
import Derived.JoinedTies
import Derived.KernelRfl
namespace Go.Proofs.Ytpogppkiccnoaaa
/- THE CELL 'sum', in the pinned program and in every row, IS THE sha256 OF THE DUMP (.gsa) THAT YtpogppkiccnoaaaProg.lean LOADS. Nothing in Lean hashes anything: it is a label: what it is worth is what the hold of that sum in a sandbox is worth. -/
noncomputable def Try.pinned : Pinned := { name := "ytpogppkiccnoaaa", sum := "35fa8f77229d89d9c02d535ae05f9d1519f848662e4c7a7929a56179fa603540", checked := Try.checked }
namespace Rows
def none {H : Type} : Left H := { results := [], args := [] }

/-- 'quiltmakerlaw03.LcsTells': WHATEVER THE INPUT: true; the input reads as it did. -/
def lcsTellsSpec : ChangeSpec := { name := "lcsTells", fn := fun _ => fun
  | [d1, d2] => { results := [.lit (.bool true)], args := [d1, d2] }
  | _ => none }
def lcsTellsRow : OpenClaim := { program := "ytpogppkiccnoaaa", sum := "35fa8f77229d89d9c02d535ae05f9d1519f848662e4c7a7929a56179fa603540", func := "quiltmaker/quiltmakerlaw03.LcsTells", spec := "lcsTells", unfollowed := true, recurses := true, apart := false }
def LcsTellsSaid : Prop := lcsTellsRow.holds Try.pinned (OpenSpec.ofChange lcsTellsSpec)

/-- ITS FALSE NEIGHBOUR: 'it returns false'. Refute it at one input. -/
def lcsTellsWrong : ChangeSpec := { name := "lcsTells", fn := fun _ => fun
  | [d1, d2] => { results := [.lit (.bool false)], args := [d1, d2] }
  | _ => none }
def LcsTellsWrongFalsely : Prop := lcsTellsRow.holds Try.pinned (OpenSpec.ofChange lcsTellsWrong)

/-- 'quiltmakerlaw03.LcsPairs': WHATEVER THE INPUT: true; the input reads as it did. -/
def lcsPairsSpec : ChangeSpec := { name := "lcsPairs", fn := fun _ => fun
  | [d1, d2] => { results := [.lit (.bool true)], args := [d1, d2] }
  | _ => none }
def lcsPairsRow : OpenClaim := { program := "ytpogppkiccnoaaa", sum := "35fa8f77229d89d9c02d535ae05f9d1519f848662e4c7a7929a56179fa603540", func := "quiltmaker/quiltmakerlaw03.LcsPairs", spec := "lcsPairs", unfollowed := true, recurses := true, apart := false }
def LcsPairsSaid : Prop := lcsPairsRow.holds Try.pinned (OpenSpec.ofChange lcsPairsSpec)

/-- ITS FALSE NEIGHBOUR: 'it returns false'. Refute it at one input. -/
def lcsPairsWrong : ChangeSpec := { name := "lcsPairs", fn := fun _ => fun
  | [d1, d2] => { results := [.lit (.bool false)], args := [d1, d2] }
  | _ => none }
def LcsPairsWrongFalsely : Prop := lcsPairsRow.holds Try.pinned (OpenSpec.ofChange lcsPairsWrong)

/-- 'quiltmakerlaw03.LcsMost': WHATEVER THE INPUT: true; the input reads as it did. -/
def lcsMostSpec : ChangeSpec := { name := "lcsMost", fn := fun _ => fun
  | [d1, d2, d3] => { results := [.lit (.bool true)], args := [d1, d2, d3] }
  | _ => none }
def lcsMostRow : OpenClaim := { program := "ytpogppkiccnoaaa", sum := "35fa8f77229d89d9c02d535ae05f9d1519f848662e4c7a7929a56179fa603540", func := "quiltmaker/quiltmakerlaw03.LcsMost", spec := "lcsMost", unfollowed := true, recurses := true, apart := false }
def LcsMostSaid : Prop := lcsMostRow.holds Try.pinned (OpenSpec.ofChange lcsMostSpec)

/-- ITS FALSE NEIGHBOUR: 'it returns false'. Refute it at one input. -/
def lcsMostWrong : ChangeSpec := { name := "lcsMost", fn := fun _ => fun
  | [d1, d2, d3] => { results := [.lit (.bool false)], args := [d1, d2, d3] }
  | _ => none }
def LcsMostWrongFalsely : Prop := lcsMostRow.holds Try.pinned (OpenSpec.ofChange lcsMostWrong)

/-- 'quiltmakerlaw03.LcsTurns': WHATEVER THE INPUT: true; the input reads as it did. -/
def lcsTurnsSpec : ChangeSpec := { name := "lcsTurns", fn := fun _ => fun
  | [d1, d2, d3] => { results := [.lit (.bool true)], args := [d1, d2, d3] }
  | _ => none }
def lcsTurnsRow : OpenClaim := { program := "ytpogppkiccnoaaa", sum := "35fa8f77229d89d9c02d535ae05f9d1519f848662e4c7a7929a56179fa603540", func := "quiltmaker/quiltmakerlaw03.LcsTurns", spec := "lcsTurns", unfollowed := true, recurses := true, apart := false }
def LcsTurnsSaid : Prop := lcsTurnsRow.holds Try.pinned (OpenSpec.ofChange lcsTurnsSpec)

/-- ITS FALSE NEIGHBOUR: 'it returns false'. Refute it at one input. -/
def lcsTurnsWrong : ChangeSpec := { name := "lcsTurns", fn := fun _ => fun
  | [d1, d2, d3] => { results := [.lit (.bool false)], args := [d1, d2, d3] }
  | _ => none }
def LcsTurnsWrongFalsely : Prop := lcsTurnsRow.holds Try.pinned (OpenSpec.ofChange lcsTurnsWrong)

/-- 'quiltmakerlaw03.LcsStep': WHATEVER THE INPUT: true; the input reads as it did. -/
def lcsStepSpec : ChangeSpec := { name := "lcsStep", fn := fun _ => fun
  | [d1, d2, d3] => { results := [.lit (.bool true)], args := [d1, d2, d3] }
  | _ => none }
def lcsStepRow : OpenClaim := { program := "ytpogppkiccnoaaa", sum := "35fa8f77229d89d9c02d535ae05f9d1519f848662e4c7a7929a56179fa603540", func := "quiltmaker/quiltmakerlaw03.LcsStep", spec := "lcsStep", unfollowed := true, recurses := true, apart := false }
def LcsStepSaid : Prop := lcsStepRow.holds Try.pinned (OpenSpec.ofChange lcsStepSpec)

/-- ITS FALSE NEIGHBOUR: 'it returns false'. Refute it at one input. -/
def lcsStepWrong : ChangeSpec := { name := "lcsStep", fn := fun _ => fun
  | [d1, d2, d3] => { results := [.lit (.bool false)], args := [d1, d2, d3] }
  | _ => none }
def LcsStepWrongFalsely : Prop := lcsStepRow.holds Try.pinned (OpenSpec.ofChange lcsStepWrong)

/-- 'quiltmakerlaw03.LcsEnds': WHATEVER THE INPUT: true; the input reads as it did. -/
def lcsEndsSpec : ChangeSpec := { name := "lcsEnds", fn := fun _ => fun
  | [d1, d2] => { results := [.lit (.bool true)], args := [d1, d2] }
  | _ => none }
def lcsEndsRow : OpenClaim := { program := "ytpogppkiccnoaaa", sum := "35fa8f77229d89d9c02d535ae05f9d1519f848662e4c7a7929a56179fa603540", func := "quiltmaker/quiltmakerlaw03.LcsEnds", spec := "lcsEnds", unfollowed := true, recurses := true, apart := false }
def LcsEndsSaid : Prop := lcsEndsRow.holds Try.pinned (OpenSpec.ofChange lcsEndsSpec)

/-- ITS FALSE NEIGHBOUR: 'it returns false'. Refute it at one input. -/
def lcsEndsWrong : ChangeSpec := { name := "lcsEnds", fn := fun _ => fun
  | [d1, d2] => { results := [.lit (.bool false)], args := [d1, d2] }
  | _ => none }
def LcsEndsWrongFalsely : Prop := lcsEndsRow.holds Try.pinned (OpenSpec.ofChange lcsEndsWrong)

/- THE SECOND FORM. 'bulk': how many values and letters a reading holds, each counted each time it is reached (what is shared counts as often as it is met; a slice's spare places count too). A statement '..UptoSaid' is the law's where the arguments, and the package variables that the reading takes, are together of bulk at most 1048576: NARROWER than '..Said'. Prove '..Said' where nothing that the law and all that it calls make is longer than what came in: it says more and counts as full. Else prove '..UptoSaid'. A law counts once. -/
mutual
def uptoBulk {H : Type} : DataW H → Nat
  | .lit (.string bytes) => bytes.length + 1
  | .lit _ => 1
  | .nil => 1
  | .ptr d => uptoBulk d + 1
  | .slice elems spare => uptoBulkAll elems + uptoBulkAll spare + 1
  | .agg parts => uptoBulkAll parts + 1
  | .iface _ d => uptoBulk d + 1
  | .map entries => uptoBulkEntries entries + 1
  | .held _ => 1
def uptoBulkAll {H : Type} : List (DataW H) → Nat
  | [] => 0
  | d :: r => uptoBulk d + uptoBulkAll r
def uptoBulkEntries {H : Type} : List (Lit × DataW H) → Nat
  | [] => 0
  | x :: r => uptoBulkEntry x + uptoBulkEntries r
def uptoBulkEntry {H : Type} : Lit × DataW H → Nat
  | (.string bytes, d) => bytes.length + uptoBulk d + 1
  | (_, d) => uptoBulk d + 1
 end
def uptoSmall : (H : Type) → List (DataW H) → Bool := fun _ ds => decide (uptoBulkAll ds ≤ 1048576)
def OpenSpec.upto (s : _root_.Go.ChangeSpec) : _root_.Go.OpenSpec := { _root_.Go.OpenSpec.ofChange s with cond := some uptoSmall }

/-- 'quiltmakerlaw03.LcsTells', WHERE WHAT IT READS IS OF BULK AT MOST 1048576: true; the input reads as it did. -/
def lcsTellsUptoRow : OpenClaim := { program := "ytpogppkiccnoaaa", sum := "35fa8f77229d89d9c02d535ae05f9d1519f848662e4c7a7929a56179fa603540", func := "quiltmaker/quiltmakerlaw03.LcsTells", spec := "lcsTells", unfollowed := true, recurses := true, apart := false, narrowed := true }
def LcsTellsUptoSaid : Prop := lcsTellsUptoRow.holds Try.pinned (OpenSpec.upto lcsTellsSpec)

/-- 'quiltmakerlaw03.LcsPairs', WHERE WHAT IT READS IS OF BULK AT MOST 1048576: true; the input reads as it did. -/
def lcsPairsUptoRow : OpenClaim := { program := "ytpogppkiccnoaaa", sum := "35fa8f77229d89d9c02d535ae05f9d1519f848662e4c7a7929a56179fa603540", func := "quiltmaker/quiltmakerlaw03.LcsPairs", spec := "lcsPairs", unfollowed := true, recurses := true, apart := false, narrowed := true }
def LcsPairsUptoSaid : Prop := lcsPairsUptoRow.holds Try.pinned (OpenSpec.upto lcsPairsSpec)

/-- 'quiltmakerlaw03.LcsMost', WHERE WHAT IT READS IS OF BULK AT MOST 1048576: true; the input reads as it did. -/
def lcsMostUptoRow : OpenClaim := { program := "ytpogppkiccnoaaa", sum := "35fa8f77229d89d9c02d535ae05f9d1519f848662e4c7a7929a56179fa603540", func := "quiltmaker/quiltmakerlaw03.LcsMost", spec := "lcsMost", unfollowed := true, recurses := true, apart := false, narrowed := true }
def LcsMostUptoSaid : Prop := lcsMostUptoRow.holds Try.pinned (OpenSpec.upto lcsMostSpec)

/-- 'quiltmakerlaw03.LcsTurns', WHERE WHAT IT READS IS OF BULK AT MOST 1048576: true; the input reads as it did. -/
def lcsTurnsUptoRow : OpenClaim := { program := "ytpogppkiccnoaaa", sum := "35fa8f77229d89d9c02d535ae05f9d1519f848662e4c7a7929a56179fa603540", func := "quiltmaker/quiltmakerlaw03.LcsTurns", spec := "lcsTurns", unfollowed := true, recurses := true, apart := false, narrowed := true }
def LcsTurnsUptoSaid : Prop := lcsTurnsUptoRow.holds Try.pinned (OpenSpec.upto lcsTurnsSpec)

/-- 'quiltmakerlaw03.LcsStep', WHERE WHAT IT READS IS OF BULK AT MOST 1048576: true; the input reads as it did. -/
def lcsStepUptoRow : OpenClaim := { program := "ytpogppkiccnoaaa", sum := "35fa8f77229d89d9c02d535ae05f9d1519f848662e4c7a7929a56179fa603540", func := "quiltmaker/quiltmakerlaw03.LcsStep", spec := "lcsStep", unfollowed := true, recurses := true, apart := false, narrowed := true }
def LcsStepUptoSaid : Prop := lcsStepUptoRow.holds Try.pinned (OpenSpec.upto lcsStepSpec)

/-- 'quiltmakerlaw03.LcsEnds', WHERE WHAT IT READS IS OF BULK AT MOST 1048576: true; the input reads as it did. -/
def lcsEndsUptoRow : OpenClaim := { program := "ytpogppkiccnoaaa", sum := "35fa8f77229d89d9c02d535ae05f9d1519f848662e4c7a7929a56179fa603540", func := "quiltmaker/quiltmakerlaw03.LcsEnds", spec := "lcsEnds", unfollowed := true, recurses := true, apart := false, narrowed := true }
def LcsEndsUptoSaid : Prop := lcsEndsUptoRow.holds Try.pinned (OpenSpec.upto lcsEndsSpec)

end Rows
end Go.Proofs.Ytpogppkiccnoaaa
