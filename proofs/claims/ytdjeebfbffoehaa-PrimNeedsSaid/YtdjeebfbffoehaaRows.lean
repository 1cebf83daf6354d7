/-
  No cell of these rows narrows 'for every input' (looked for: loops, veiled, ifaces, maps, wideKeys, modest, calm, conditions, laid).
  DERIVED. THE GIVEN ROWS OF THIS SEAT. 6 by the template 'for every input the law returns true; each argument reads behind the call as it read before'; 0 by the template 'total and deterministic' (their statements: YtdjeebfbffoehaaTotals.lean).
  GIVEN WITH THE SEED: the statements are not yours to turn. If you find one false, say at which input.
  Laid BY PROGRAM, IN A SANDBOX (cutbox-rows.mjs): the forced cells as the released guide's own fill.sh prints them over the translation 34ab262bd00c1128… (all of the seat's roots in one cut). By AI agents, Wed Nov 11 2026. No macro, syntax, notation, axiom, sorry.
-/
import Derived.Test.YtdjeebfbffoehaaChecked
import GoSem.Claim
import GoSem.ClaimJoined
import GoSem.ClaimMapViews
import Derived.JoinedTies
import Derived.KernelRfl
namespace Go.Proofs.Ytdjeebfbffoehaa
/- THE CELL 'sum', in the pinned program and in every row, IS THE sha256 OF THE DUMP (.gsa) THAT YtdjeebfbffoehaaProg.lean LOADS. Nothing in Lean hashes anything: it is a label: what it is worth is what the hold of that sum in a sandbox is worth. -/
noncomputable def Try.pinned : Pinned := { name := "ytdjeebfbffoehaa", sum := "34ab262bd00c1128f3b07acbcb88d63937387822f4ac03ba706095e2ff7c8a5e", checked := Try.checked }
namespace Rows
def none {H : Type} : Left H := { results := [], args := [] }

/-- 'quiltmakerlaw08.PrimTells': WHATEVER THE INPUT: true; the input reads as it did. -/
def primTellsSpec : ChangeSpec := { name := "primTells", fn := fun _ => fun
  | [d1, d2, d3] => { results := [.lit (.bool true)], args := [d1, d2, d3] }
  | _ => none }
def primTellsRow : OpenClaim := { program := "ytdjeebfbffoehaa", sum := "34ab262bd00c1128f3b07acbcb88d63937387822f4ac03ba706095e2ff7c8a5e", func := "quiltmaker/quiltmakerlaw08.PrimTells", spec := "primTells", inPlace := ["internal/bytealg.IndexByteString", "slices.overlaps[quiltmaker/api.File]"], unfollowed := true, recurses := true, apart := false }
def PrimTellsSaid : Prop := primTellsRow.holds Try.pinned (OpenSpec.ofChange primTellsSpec)

/-- ITS FALSE NEIGHBOUR: 'it returns false'. Refute it at one input. -/
def primTellsWrong : ChangeSpec := { name := "primTells", fn := fun _ => fun
  | [d1, d2, d3] => { results := [.lit (.bool false)], args := [d1, d2, d3] }
  | _ => none }
def PrimTellsWrongFalsely : Prop := primTellsRow.holds Try.pinned (OpenSpec.ofChange primTellsWrong)

/-- 'quiltmakerlaw08.PrimBack': WHATEVER THE INPUT: true; the input reads as it did. -/
def primBackSpec : ChangeSpec := { name := "primBack", fn := fun _ => fun
  | [d1, d2] => { results := [.lit (.bool true)], args := [d1, d2] }
  | _ => none }
def primBackRow : OpenClaim := { program := "ytdjeebfbffoehaa", sum := "34ab262bd00c1128f3b07acbcb88d63937387822f4ac03ba706095e2ff7c8a5e", func := "quiltmaker/quiltmakerlaw08.PrimBack", spec := "primBack", inPlace := ["internal/bytealg.IndexByteString", "slices.overlaps[quiltmaker/api.File]"], unfollowed := true, recurses := true, apart := false }
def PrimBackSaid : Prop := primBackRow.holds Try.pinned (OpenSpec.ofChange primBackSpec)

/-- ITS FALSE NEIGHBOUR: 'it returns false'. Refute it at one input. -/
def primBackWrong : ChangeSpec := { name := "primBack", fn := fun _ => fun
  | [d1, d2] => { results := [.lit (.bool false)], args := [d1, d2] }
  | _ => none }
def PrimBackWrongFalsely : Prop := primBackRow.holds Try.pinned (OpenSpec.ofChange primBackWrong)

/-- 'quiltmakerlaw08.PrimKeeps': WHATEVER THE INPUT: true; the input reads as it did. -/
def primKeepsSpec : ChangeSpec := { name := "primKeeps", fn := fun _ => fun
  | [d1, d2, d3] => { results := [.lit (.bool true)], args := [d1, d2, d3] }
  | _ => none }
def primKeepsRow : OpenClaim := { program := "ytdjeebfbffoehaa", sum := "34ab262bd00c1128f3b07acbcb88d63937387822f4ac03ba706095e2ff7c8a5e", func := "quiltmaker/quiltmakerlaw08.PrimKeeps", spec := "primKeeps", inPlace := ["internal/bytealg.IndexByteString", "slices.overlaps[quiltmaker/api.File]"], unfollowed := true, recurses := true, apart := false }
def PrimKeepsSaid : Prop := primKeepsRow.holds Try.pinned (OpenSpec.ofChange primKeepsSpec)

/-- ITS FALSE NEIGHBOUR: 'it returns false'. Refute it at one input. -/
def primKeepsWrong : ChangeSpec := { name := "primKeeps", fn := fun _ => fun
  | [d1, d2, d3] => { results := [.lit (.bool false)], args := [d1, d2, d3] }
  | _ => none }
def PrimKeepsWrongFalsely : Prop := primKeepsRow.holds Try.pinned (OpenSpec.ofChange primKeepsWrong)

/-- 'quiltmakerlaw08.PrimIdle': WHATEVER THE INPUT: true; the input reads as it did. -/
def primIdleSpec : ChangeSpec := { name := "primIdle", fn := fun _ => fun
  | [d1, d2] => { results := [.lit (.bool true)], args := [d1, d2] }
  | _ => none }
def primIdleRow : OpenClaim := { program := "ytdjeebfbffoehaa", sum := "34ab262bd00c1128f3b07acbcb88d63937387822f4ac03ba706095e2ff7c8a5e", func := "quiltmaker/quiltmakerlaw08.PrimIdle", spec := "primIdle", inPlace := ["internal/bytealg.IndexByteString", "slices.overlaps[quiltmaker/api.File]"], unfollowed := true, recurses := true, apart := false }
def PrimIdleSaid : Prop := primIdleRow.holds Try.pinned (OpenSpec.ofChange primIdleSpec)

/-- ITS FALSE NEIGHBOUR: 'it returns false'. Refute it at one input. -/
def primIdleWrong : ChangeSpec := { name := "primIdle", fn := fun _ => fun
  | [d1, d2] => { results := [.lit (.bool false)], args := [d1, d2] }
  | _ => none }
def PrimIdleWrongFalsely : Prop := primIdleRow.holds Try.pinned (OpenSpec.ofChange primIdleWrong)

/-- 'quiltmakerlaw08.PrimOnce': WHATEVER THE INPUT: true; the input reads as it did. -/
def primOnceSpec : ChangeSpec := { name := "primOnce", fn := fun _ => fun
  | [d1, d2] => { results := [.lit (.bool true)], args := [d1, d2] }
  | _ => none }
def primOnceRow : OpenClaim := { program := "ytdjeebfbffoehaa", sum := "34ab262bd00c1128f3b07acbcb88d63937387822f4ac03ba706095e2ff7c8a5e", func := "quiltmaker/quiltmakerlaw08.PrimOnce", spec := "primOnce", inPlace := ["internal/bytealg.IndexByteString", "slices.overlaps[quiltmaker/api.File]"], unfollowed := true, recurses := true, apart := false }
def PrimOnceSaid : Prop := primOnceRow.holds Try.pinned (OpenSpec.ofChange primOnceSpec)

/-- ITS FALSE NEIGHBOUR: 'it returns false'. Refute it at one input. -/
def primOnceWrong : ChangeSpec := { name := "primOnce", fn := fun _ => fun
  | [d1, d2] => { results := [.lit (.bool false)], args := [d1, d2] }
  | _ => none }
def PrimOnceWrongFalsely : Prop := primOnceRow.holds Try.pinned (OpenSpec.ofChange primOnceWrong)

/-- 'quiltmakerlaw08.PrimNeeds': WHATEVER THE INPUT: true; the input reads as it did. -/
def primNeedsSpec : ChangeSpec := { name := "primNeeds", fn := fun _ => fun
  | [d1, d2] => { results := [.lit (.bool true)], args := [d1, d2] }
  | _ => none }
def primNeedsRow : OpenClaim := { program := "ytdjeebfbffoehaa", sum := "34ab262bd00c1128f3b07acbcb88d63937387822f4ac03ba706095e2ff7c8a5e", func := "quiltmaker/quiltmakerlaw08.PrimNeeds", spec := "primNeeds", inPlace := ["internal/bytealg.IndexByteString", "slices.overlaps[quiltmaker/api.File]"], unfollowed := true, recurses := true, apart := false }
def PrimNeedsSaid : Prop := primNeedsRow.holds Try.pinned (OpenSpec.ofChange primNeedsSpec)

/-- ITS FALSE NEIGHBOUR: 'it returns false'. Refute it at one input. -/
def primNeedsWrong : ChangeSpec := { name := "primNeeds", fn := fun _ => fun
  | [d1, d2] => { results := [.lit (.bool false)], args := [d1, d2] }
  | _ => none }
def PrimNeedsWrongFalsely : Prop := primNeedsRow.holds Try.pinned (OpenSpec.ofChange primNeedsWrong)

/- THE SECOND FORM. 'bulk': how many values and letters a reading holds, each counted each time it is reached (what is shared counts as often as it is met; a slice's spare places count too). A statement '..UptoSaid' is the law's where the arguments, and the package variables that the reading takes, are together of bulk at most 1048576: NARROWER than '..Said'. Prove '..Said' where nothing that the law and all that it calls make is longer than what came in: it says more and counts as full. Else prove '..UptoSaid'. A law counts once. -/
mutual
def uptoBulk {H : Type} : DataW H → Nat
  | .lit (.string bytes) => bytes.length + 1
  | .lit _ => 1
  | .nil => 1
  | .ptr d => uptoBulk d + 1
  | .slice elems spare => uptoBulkAll elems + uptoBulkAll spare + 1
  | .agg parts => uptoBulkAll parts + 1
  | .iface _ d => uptoBulk d + 1
  | .map entries => uptoBulkEntries entries + 1
  | .held _ => 1
def uptoBulkAll {H : Type} : List (DataW H) → Nat
  | [] => 0
  | d :: r => uptoBulk d + uptoBulkAll r
def uptoBulkEntries {H : Type} : List (Lit × DataW H) → Nat
  | [] => 0
  | x :: r => uptoBulkEntry x + uptoBulkEntries r
def uptoBulkEntry {H : Type} : Lit × DataW H → Nat
  | (.string bytes, d) => bytes.length + uptoBulk d + 1
  | (_, d) => uptoBulk d + 1
 end
def uptoSmall : (H : Type) → List (DataW H) → Bool := fun _ ds => decide (uptoBulkAll ds ≤ 1048576)
def OpenSpec.upto (s : _root_.Go.ChangeSpec) : _root_.Go.OpenSpec := { _root_.Go.OpenSpec.ofChange s with cond := some uptoSmall }

/-- 'quiltmakerlaw08.PrimTells', WHERE WHAT IT READS IS OF BULK AT MOST 1048576: true; the input reads as it did. -/
def primTellsUptoRow : OpenClaim := { program := "ytdjeebfbffoehaa", sum := "34ab262bd00c1128f3b07acbcb88d63937387822f4ac03ba706095e2ff7c8a5e", func := "quiltmaker/quiltmakerlaw08.PrimTells", spec := "primTells", inPlace := ["internal/bytealg.IndexByteString", "slices.overlaps[quiltmaker/api.File]"], unfollowed := true, recurses := true, apart := false, narrowed := true }
def PrimTellsUptoSaid : Prop := primTellsUptoRow.holds Try.pinned (OpenSpec.upto primTellsSpec)

/-- 'quiltmakerlaw08.PrimBack', WHERE WHAT IT READS IS OF BULK AT MOST 1048576: true; the input reads as it did. -/
def primBackUptoRow : OpenClaim := { program := "ytdjeebfbffoehaa", sum := "34ab262bd00c1128f3b07acbcb88d63937387822f4ac03ba706095e2ff7c8a5e", func := "quiltmaker/quiltmakerlaw08.PrimBack", spec := "primBack", inPlace := ["internal/bytealg.IndexByteString", "slices.overlaps[quiltmaker/api.File]"], unfollowed := true, recurses := true, apart := false, narrowed := true }
def PrimBackUptoSaid : Prop := primBackUptoRow.holds Try.pinned (OpenSpec.upto primBackSpec)

/-- 'quiltmakerlaw08.PrimKeeps', WHERE WHAT IT READS IS OF BULK AT MOST 1048576: true; the input reads as it did. -/
def primKeepsUptoRow : OpenClaim := { program := "ytdjeebfbffoehaa", sum := "34ab262bd00c1128f3b07acbcb88d63937387822f4ac03ba706095e2ff7c8a5e", func := "quiltmaker/quiltmakerlaw08.PrimKeeps", spec := "primKeeps", inPlace := ["internal/bytealg.IndexByteString", "slices.overlaps[quiltmaker/api.File]"], unfollowed := true, recurses := true, apart := false, narrowed := true }
def PrimKeepsUptoSaid : Prop := primKeepsUptoRow.holds Try.pinned (OpenSpec.upto primKeepsSpec)

/-- 'quiltmakerlaw08.PrimIdle', WHERE WHAT IT READS IS OF BULK AT MOST 1048576: true; the input reads as it did. -/
def primIdleUptoRow : OpenClaim := { program := "ytdjeebfbffoehaa", sum := "34ab262bd00c1128f3b07acbcb88d63937387822f4ac03ba706095e2ff7c8a5e", func := "quiltmaker/quiltmakerlaw08.PrimIdle", spec := "primIdle", inPlace := ["internal/bytealg.IndexByteString", "slices.overlaps[quiltmaker/api.File]"], unfollowed := true, recurses := true, apart := false, narrowed := true }
def PrimIdleUptoSaid : Prop := primIdleUptoRow.holds Try.pinned (OpenSpec.upto primIdleSpec)

/-- 'quiltmakerlaw08.PrimOnce', WHERE WHAT IT READS IS OF BULK AT MOST 1048576: true; the input reads as it did. -/
def primOnceUptoRow : OpenClaim := { program := "ytdjeebfbffoehaa", sum := "34ab262bd00c1128f3b07acbcb88d63937387822f4ac03ba706095e2ff7c8a5e", func := "quiltmaker/quiltmakerlaw08.PrimOnce", spec := "primOnce", inPlace := ["internal/bytealg.IndexByteString", "slices.overlaps[quiltmaker/api.File]"], unfollowed := true, recurses := true, apart := false, narrowed := true }
def PrimOnceUptoSaid : Prop := primOnceUptoRow.holds Try.pinned (OpenSpec.upto primOnceSpec)

/-- 'quiltmakerlaw08.PrimNeeds', WHERE WHAT IT READS IS OF BULK AT MOST 1048576: true; the input reads as it did. -/
def primNeedsUptoRow : OpenClaim := { program := "ytdjeebfbffoehaa", sum := "34ab262bd00c1128f3b07acbcb88d63937387822f4ac03ba706095e2ff7c8a5e", func := "quiltmaker/quiltmakerlaw08.PrimNeeds", spec := "primNeeds", inPlace := ["internal/bytealg.IndexByteString", "slices.overlaps[quiltmaker/api.File]"], unfollowed := true, recurses := true, apart := false, narrowed := true }
def PrimNeedsUptoSaid : Prop := primNeedsUptoRow.holds Try.pinned (OpenSpec.upto primNeedsSpec)

end Rows
end Go.Proofs.Ytdjeebfbffoehaa
