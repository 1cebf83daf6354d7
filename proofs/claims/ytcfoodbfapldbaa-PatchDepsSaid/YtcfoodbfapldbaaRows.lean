/-
  No cell of these rows narrows 'for every input' (looked for: loops, veiled, ifaces, maps, wideKeys, modest, calm, conditions, laid).
  DERIVED. THE GIVEN ROWS OF THIS SEAT. 5 by the template 'for every input the law returns true; each argument reads behind the call as it read before'; 0 by the template 'total and deterministic' (their statements: YtcfoodbfapldbaaTotals.lean).
  GIVEN WITH THE SEED: the statements are not yours to turn. If you find one false, say at which input.
  Laid BY PROGRAM, IN A SANDBOX (cutbox-rows.mjs): the forced cells as the released guide's own fill.sh prints them over the translation 35c3dc66f65e498d… (all of the seat's roots in one cut). By AI agents, Wed Nov 11 2026. No macro, syntax, notation, axiom, sorry.
-/
import Derived.Test.YtcfoodbfapldbaaChecked
import GoSem.Claim
import GoSem.ClaimJoined
import GoSem.ClaimMapViews
import Derived.JoinedTies
import Derived.KernelRfl
namespace Go.Proofs.Ytcfoodbfapldbaa
/- THE CELL 'sum', in the pinned program and in every row, IS THE sha256 OF THE DUMP (.gsa) THAT YtcfoodbfapldbaaProg.lean LOADS. Nothing in Lean hashes anything: it is a label: what it is worth is what the hold of that sum in a sandbox is worth. -/
noncomputable def Try.pinned : Pinned := { name := "ytcfoodbfapldbaa", sum := "35c3dc66f65e498dfe5fee2c7b6b6ac3ae48d76ede2b6f5883ce4a844d667fd1", checked := Try.checked }
namespace Rows
def none {H : Type} : Left H := { results := [], args := [] }

/-- 'quiltmakerlaw14.PatchTells': WHATEVER THE INPUT: true; the input reads as it did. -/
def patchTellsSpec : ChangeSpec := { name := "patchTells", fn := fun _ => fun
  | [d1, d2] => { results := [.lit (.bool true)], args := [d1, d2] }
  | _ => none }
def patchTellsRow : OpenClaim := { program := "ytcfoodbfapldbaa", sum := "35c3dc66f65e498dfe5fee2c7b6b6ac3ae48d76ede2b6f5883ce4a844d667fd1", func := "quiltmaker/quiltmakerlaw14.PatchTells", spec := "patchTells", inPlace := ["internal/bytealg.IndexByteString", "slices.overlaps[quiltmaker/api.File]"], unfollowed := true, recurses := true, apart := false }
def PatchTellsSaid : Prop := patchTellsRow.holds Try.pinned (OpenSpec.ofChange patchTellsSpec)

/-- ITS FALSE NEIGHBOUR: 'it returns false'. Refute it at one input. -/
def patchTellsWrong : ChangeSpec := { name := "patchTells", fn := fun _ => fun
  | [d1, d2] => { results := [.lit (.bool false)], args := [d1, d2] }
  | _ => none }
def PatchTellsWrongFalsely : Prop := patchTellsRow.holds Try.pinned (OpenSpec.ofChange patchTellsWrong)

/-- 'quiltmakerlaw14.PatchSteps': WHATEVER THE INPUT: true; the input reads as it did. -/
def patchStepsSpec : ChangeSpec := { name := "patchSteps", fn := fun _ => fun
  | [d1, d2, d3] => { results := [.lit (.bool true)], args := [d1, d2, d3] }
  | _ => none }
def patchStepsRow : OpenClaim := { program := "ytcfoodbfapldbaa", sum := "35c3dc66f65e498dfe5fee2c7b6b6ac3ae48d76ede2b6f5883ce4a844d667fd1", func := "quiltmaker/quiltmakerlaw14.PatchSteps", spec := "patchSteps", inPlace := ["internal/bytealg.IndexByteString", "slices.overlaps[quiltmaker/api.File]"], unfollowed := true, recurses := true, apart := false }
def PatchStepsSaid : Prop := patchStepsRow.holds Try.pinned (OpenSpec.ofChange patchStepsSpec)

/-- ITS FALSE NEIGHBOUR: 'it returns false'. Refute it at one input. -/
def patchStepsWrong : ChangeSpec := { name := "patchSteps", fn := fun _ => fun
  | [d1, d2, d3] => { results := [.lit (.bool false)], args := [d1, d2, d3] }
  | _ => none }
def PatchStepsWrongFalsely : Prop := patchStepsRow.holds Try.pinned (OpenSpec.ofChange patchStepsWrong)

/-- 'quiltmakerlaw14.PatchOrder': WHATEVER THE INPUT: true; the input reads as it did. -/
def patchOrderSpec : ChangeSpec := { name := "patchOrder", fn := fun _ => fun
  | [d1, d2, d3] => { results := [.lit (.bool true)], args := [d1, d2, d3] }
  | _ => none }
def patchOrderRow : OpenClaim := { program := "ytcfoodbfapldbaa", sum := "35c3dc66f65e498dfe5fee2c7b6b6ac3ae48d76ede2b6f5883ce4a844d667fd1", func := "quiltmaker/quiltmakerlaw14.PatchOrder", spec := "patchOrder", inPlace := ["internal/bytealg.IndexByteString", "slices.overlaps[quiltmaker/api.File]"], unfollowed := true, recurses := true, apart := false }
def PatchOrderSaid : Prop := patchOrderRow.holds Try.pinned (OpenSpec.ofChange patchOrderSpec)

/-- ITS FALSE NEIGHBOUR: 'it returns false'. Refute it at one input. -/
def patchOrderWrong : ChangeSpec := { name := "patchOrder", fn := fun _ => fun
  | [d1, d2, d3] => { results := [.lit (.bool false)], args := [d1, d2, d3] }
  | _ => none }
def PatchOrderWrongFalsely : Prop := patchOrderRow.holds Try.pinned (OpenSpec.ofChange patchOrderWrong)

/-- 'quiltmakerlaw14.PatchDeps': WHATEVER THE INPUT: true; the input reads as it did. -/
def patchDepsSpec : ChangeSpec := { name := "patchDeps", fn := fun _ => fun
  | [d1, d2, d3] => { results := [.lit (.bool true)], args := [d1, d2, d3] }
  | _ => none }
def patchDepsRow : OpenClaim := { program := "ytcfoodbfapldbaa", sum := "35c3dc66f65e498dfe5fee2c7b6b6ac3ae48d76ede2b6f5883ce4a844d667fd1", func := "quiltmaker/quiltmakerlaw14.PatchDeps", spec := "patchDeps", inPlace := ["internal/bytealg.IndexByteString", "slices.overlaps[quiltmaker/api.File]"], unfollowed := true, recurses := true, apart := false }
def PatchDepsSaid : Prop := patchDepsRow.holds Try.pinned (OpenSpec.ofChange patchDepsSpec)

/-- ITS FALSE NEIGHBOUR: 'it returns false'. Refute it at one input. -/
def patchDepsWrong : ChangeSpec := { name := "patchDeps", fn := fun _ => fun
  | [d1, d2, d3] => { results := [.lit (.bool false)], args := [d1, d2, d3] }
  | _ => none }
def PatchDepsWrongFalsely : Prop := patchDepsRow.holds Try.pinned (OpenSpec.ofChange patchDepsWrong)

/-- 'quiltmakerlaw14.PatchFind': WHATEVER THE INPUT: true; the input reads as it did. -/
def patchFindSpec : ChangeSpec := { name := "patchFind", fn := fun _ => fun
  | [d1, d2, d3] => { results := [.lit (.bool true)], args := [d1, d2, d3] }
  | _ => none }
def patchFindRow : OpenClaim := { program := "ytcfoodbfapldbaa", sum := "35c3dc66f65e498dfe5fee2c7b6b6ac3ae48d76ede2b6f5883ce4a844d667fd1", func := "quiltmaker/quiltmakerlaw14.PatchFind", spec := "patchFind", inPlace := ["internal/bytealg.IndexByteString", "slices.overlaps[quiltmaker/api.File]"], unfollowed := true, recurses := true, apart := false }
def PatchFindSaid : Prop := patchFindRow.holds Try.pinned (OpenSpec.ofChange patchFindSpec)

/-- ITS FALSE NEIGHBOUR: 'it returns false'. Refute it at one input. -/
def patchFindWrong : ChangeSpec := { name := "patchFind", fn := fun _ => fun
  | [d1, d2, d3] => { results := [.lit (.bool false)], args := [d1, d2, d3] }
  | _ => none }
def PatchFindWrongFalsely : Prop := patchFindRow.holds Try.pinned (OpenSpec.ofChange patchFindWrong)

/- THE SECOND FORM. 'bulk': how many values and letters a reading holds, each counted each time it is reached (what is shared counts as often as it is met; a slice's spare places count too). A statement '..UptoSaid' is the law's where the arguments, and the package variables that the reading takes, are together of bulk at most 1048576: NARROWER than '..Said'. Prove '..Said' where nothing that the law and all that it calls make is longer than what came in: it says more and counts as full. Else prove '..UptoSaid'. A law counts once. -/
mutual
def uptoBulk {H : Type} : DataW H → Nat
  | .lit (.string bytes) => bytes.length + 1
  | .lit _ => 1
  | .nil => 1
  | .ptr d => uptoBulk d + 1
  | .slice elems spare => uptoBulkAll elems + uptoBulkAll spare + 1
  | .agg parts => uptoBulkAll parts + 1
  | .iface _ d => uptoBulk d + 1
  | .map entries => uptoBulkEntries entries + 1
  | .held _ => 1
def uptoBulkAll {H : Type} : List (DataW H) → Nat
  | [] => 0
  | d :: r => uptoBulk d + uptoBulkAll r
def uptoBulkEntries {H : Type} : List (Lit × DataW H) → Nat
  | [] => 0
  | x :: r => uptoBulkEntry x + uptoBulkEntries r
def uptoBulkEntry {H : Type} : Lit × DataW H → Nat
  | (.string bytes, d) => bytes.length + uptoBulk d + 1
  | (_, d) => uptoBulk d + 1
 end
def uptoSmall : (H : Type) → List (DataW H) → Bool := fun _ ds => decide (uptoBulkAll ds ≤ 1048576)
def OpenSpec.upto (s : _root_.Go.ChangeSpec) : _root_.Go.OpenSpec := { _root_.Go.OpenSpec.ofChange s with cond := some uptoSmall }

/-- 'quiltmakerlaw14.PatchTells', WHERE WHAT IT READS IS OF BULK AT MOST 1048576: true; the input reads as it did. -/
def patchTellsUptoRow : OpenClaim := { program := "ytcfoodbfapldbaa", sum := "35c3dc66f65e498dfe5fee2c7b6b6ac3ae48d76ede2b6f5883ce4a844d667fd1", func := "quiltmaker/quiltmakerlaw14.PatchTells", spec := "patchTells", inPlace := ["internal/bytealg.IndexByteString", "slices.overlaps[quiltmaker/api.File]"], unfollowed := true, recurses := true, apart := false, narrowed := true }
def PatchTellsUptoSaid : Prop := patchTellsUptoRow.holds Try.pinned (OpenSpec.upto patchTellsSpec)

/-- 'quiltmakerlaw14.PatchSteps', WHERE WHAT IT READS IS OF BULK AT MOST 1048576: true; the input reads as it did. -/
def patchStepsUptoRow : OpenClaim := { program := "ytcfoodbfapldbaa", sum := "35c3dc66f65e498dfe5fee2c7b6b6ac3ae48d76ede2b6f5883ce4a844d667fd1", func := "quiltmaker/quiltmakerlaw14.PatchSteps", spec := "patchSteps", inPlace := ["internal/bytealg.IndexByteString", "slices.overlaps[quiltmaker/api.File]"], unfollowed := true, recurses := true, apart := false, narrowed := true }
def PatchStepsUptoSaid : Prop := patchStepsUptoRow.holds Try.pinned (OpenSpec.upto patchStepsSpec)

/-- 'quiltmakerlaw14.PatchOrder', WHERE WHAT IT READS IS OF BULK AT MOST 1048576: true; the input reads as it did. -/
def patchOrderUptoRow : OpenClaim := { program := "ytcfoodbfapldbaa", sum := "35c3dc66f65e498dfe5fee2c7b6b6ac3ae48d76ede2b6f5883ce4a844d667fd1", func := "quiltmaker/quiltmakerlaw14.PatchOrder", spec := "patchOrder", inPlace := ["internal/bytealg.IndexByteString", "slices.overlaps[quiltmaker/api.File]"], unfollowed := true, recurses := true, apart := false, narrowed := true }
def PatchOrderUptoSaid : Prop := patchOrderUptoRow.holds Try.pinned (OpenSpec.upto patchOrderSpec)

/-- 'quiltmakerlaw14.PatchDeps', WHERE WHAT IT READS IS OF BULK AT MOST 1048576: true; the input reads as it did. -/
def patchDepsUptoRow : OpenClaim := { program := "ytcfoodbfapldbaa", sum := "35c3dc66f65e498dfe5fee2c7b6b6ac3ae48d76ede2b6f5883ce4a844d667fd1", func := "quiltmaker/quiltmakerlaw14.PatchDeps", spec := "patchDeps", inPlace := ["internal/bytealg.IndexByteString", "slices.overlaps[quiltmaker/api.File]"], unfollowed := true, recurses := true, apart := false, narrowed := true }
def PatchDepsUptoSaid : Prop := patchDepsUptoRow.holds Try.pinned (OpenSpec.upto patchDepsSpec)

/-- 'quiltmakerlaw14.PatchFind', WHERE WHAT IT READS IS OF BULK AT MOST 1048576: true; the input reads as it did. -/
def patchFindUptoRow : OpenClaim := { program := "ytcfoodbfapldbaa", sum := "35c3dc66f65e498dfe5fee2c7b6b6ac3ae48d76ede2b6f5883ce4a844d667fd1", func := "quiltmaker/quiltmakerlaw14.PatchFind", spec := "patchFind", inPlace := ["internal/bytealg.IndexByteString", "slices.overlaps[quiltmaker/api.File]"], unfollowed := true, recurses := true, apart := false, narrowed := true }
def PatchFindUptoSaid : Prop := patchFindUptoRow.holds Try.pinned (OpenSpec.upto patchFindSpec)

end Rows
end Go.Proofs.Ytcfoodbfapldbaa
