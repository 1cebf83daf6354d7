/-
  No cell of these rows narrows 'for every input' (looked for: loops, veiled, ifaces, maps, wideKeys, modest, calm, conditions, laid).
  DERIVED. THE GIVEN ROWS OF THIS SEAT. 8 by the template 'for every input the law returns true; each argument reads behind the call as it read before'; 0 by the template 'total and deterministic' (their statements: YteiidklmlelabaaTotals.lean).
  GIVEN WITH THE SEED: the statements are not yours to turn. If you find one false, say at which input.
  Laid BY PROGRAM, IN A SANDBOX (cutbox-rows.mjs): the forced cells as the released guide's own fill.sh prints them over the translation 014cdb5198c5b6b0… (all of the seat's roots in one cut). By AI agents, Wed Nov 11 2026. No macro, syntax, notation, axiom, sorry.
-/
import Derived.Test.YteiidklmlelabaaChecked
import GoSem.Claim
import GoSem.ClaimJoined
import GoSem.ClaimMapViews
import Derived.JoinedTies
import Derived.KernelRfl
namespace Go.Proofs.Yteiidklmlelabaa
/- THE CELL 'sum', in the pinned program and in every row, IS THE sha256 OF THE DUMP (.gsa) THAT YteiidklmlelabaaProg.lean LOADS. Nothing in Lean hashes anything: it is a label: what it is worth is what the hold of that sum in a sandbox is worth. -/
noncomputable def Try.pinned : Pinned := { name := "yteiidklmlelabaa", sum := "014cdb5198c5b6b01ba19f26897c4dafd4d5beecd86d968fa8ae0544477458f7", checked := Try.checked }
namespace Rows
def none {H : Type} : Left H := { results := [], args := [] }

/-- 'quiltmakerlaw10.FlowPasses': WHATEVER THE INPUT: true; the input reads as it did. -/
def flowPassesSpec : ChangeSpec := { name := "flowPasses", fn := fun _ => fun
  | [d1, d2] => { results := [.lit (.bool true)], args := [d1, d2] }
  | _ => none }
def flowPassesRow : OpenClaim := { program := "yteiidklmlelabaa", sum := "014cdb5198c5b6b01ba19f26897c4dafd4d5beecd86d968fa8ae0544477458f7", func := "quiltmaker/quiltmakerlaw10.FlowPasses", spec := "flowPasses", inPlace := ["internal/bytealg.IndexByteString", "slices.overlaps[quiltmaker/api.File]"], unfollowed := true, recurses := true, apart := false }
def FlowPassesSaid : Prop := flowPassesRow.holds Try.pinned (OpenSpec.ofChange flowPassesSpec)

/-- ITS FALSE NEIGHBOUR: 'it returns false'. Refute it at one input. -/
def flowPassesWrong : ChangeSpec := { name := "flowPasses", fn := fun _ => fun
  | [d1, d2] => { results := [.lit (.bool false)], args := [d1, d2] }
  | _ => none }
def FlowPassesWrongFalsely : Prop := flowPassesRow.holds Try.pinned (OpenSpec.ofChange flowPassesWrong)

/-- 'quiltmakerlaw10.FlowParts': WHATEVER THE INPUT: true; the input reads as it did. -/
def flowPartsSpec : ChangeSpec := { name := "flowParts", fn := fun _ => fun
  | [d1, d2, d3] => { results := [.lit (.bool true)], args := [d1, d2, d3] }
  | _ => none }
def flowPartsRow : OpenClaim := { program := "yteiidklmlelabaa", sum := "014cdb5198c5b6b01ba19f26897c4dafd4d5beecd86d968fa8ae0544477458f7", func := "quiltmaker/quiltmakerlaw10.FlowParts", spec := "flowParts", inPlace := ["internal/bytealg.IndexByteString", "slices.overlaps[quiltmaker/api.File]"], unfollowed := true, recurses := true, apart := false }
def FlowPartsSaid : Prop := flowPartsRow.holds Try.pinned (OpenSpec.ofChange flowPartsSpec)

/-- ITS FALSE NEIGHBOUR: 'it returns false'. Refute it at one input. -/
def flowPartsWrong : ChangeSpec := { name := "flowParts", fn := fun _ => fun
  | [d1, d2, d3] => { results := [.lit (.bool false)], args := [d1, d2, d3] }
  | _ => none }
def FlowPartsWrongFalsely : Prop := flowPartsRow.holds Try.pinned (OpenSpec.ofChange flowPartsWrong)

/-- 'quiltmakerlaw11.TidyTells': WHATEVER THE INPUT: true; the input reads as it did. -/
def tidyTellsSpec : ChangeSpec := { name := "tidyTells", fn := fun _ => fun
  | [d] => { results := [.lit (.bool true)], args := [d] }
  | _ => none }
def tidyTellsRow : OpenClaim := { program := "yteiidklmlelabaa", sum := "014cdb5198c5b6b01ba19f26897c4dafd4d5beecd86d968fa8ae0544477458f7", func := "quiltmaker/quiltmakerlaw11.TidyTells", spec := "tidyTells", apart := false }
def TidyTellsSaid : Prop := tidyTellsRow.holds Try.pinned (OpenSpec.ofChange tidyTellsSpec)

/-- ITS FALSE NEIGHBOUR: 'it returns false'. Refute it at one input. -/
def tidyTellsWrong : ChangeSpec := { name := "tidyTells", fn := fun _ => fun
  | [d] => { results := [.lit (.bool false)], args := [d] }
  | _ => none }
def TidyTellsWrongFalsely : Prop := tidyTellsRow.holds Try.pinned (OpenSpec.ofChange tidyTellsWrong)

/-- 'quiltmakerlaw11.TidySame': WHATEVER THE INPUT: true; the input reads as it did. -/
def tidySameSpec : ChangeSpec := { name := "tidySame", fn := fun _ => fun
  | [d1, d2] => { results := [.lit (.bool true)], args := [d1, d2] }
  | _ => none }
def tidySameRow : OpenClaim := { program := "yteiidklmlelabaa", sum := "014cdb5198c5b6b01ba19f26897c4dafd4d5beecd86d968fa8ae0544477458f7", func := "quiltmaker/quiltmakerlaw11.TidySame", spec := "tidySame", inPlace := ["internal/bytealg.IndexByteString", "slices.overlaps[quiltmaker/api.File]"], unfollowed := true, recurses := true, apart := false }
def TidySameSaid : Prop := tidySameRow.holds Try.pinned (OpenSpec.ofChange tidySameSpec)

/-- ITS FALSE NEIGHBOUR: 'it returns false'. Refute it at one input. -/
def tidySameWrong : ChangeSpec := { name := "tidySame", fn := fun _ => fun
  | [d1, d2] => { results := [.lit (.bool false)], args := [d1, d2] }
  | _ => none }
def TidySameWrongFalsely : Prop := tidySameRow.holds Try.pinned (OpenSpec.ofChange tidySameWrong)

/-- 'quiltmakerlaw11.TidyTight': WHATEVER THE INPUT: true; the input reads as it did. -/
def tidyTightSpec : ChangeSpec := { name := "tidyTight", fn := fun _ => fun
  | [d] => { results := [.lit (.bool true)], args := [d] }
  | _ => none }
def tidyTightRow : OpenClaim := { program := "yteiidklmlelabaa", sum := "014cdb5198c5b6b01ba19f26897c4dafd4d5beecd86d968fa8ae0544477458f7", func := "quiltmaker/quiltmakerlaw11.TidyTight", spec := "tidyTight", unfollowed := true, recurses := true, apart := false }
def TidyTightSaid : Prop := tidyTightRow.holds Try.pinned (OpenSpec.ofChange tidyTightSpec)

/-- ITS FALSE NEIGHBOUR: 'it returns false'. Refute it at one input. -/
def tidyTightWrong : ChangeSpec := { name := "tidyTight", fn := fun _ => fun
  | [d] => { results := [.lit (.bool false)], args := [d] }
  | _ => none }
def TidyTightWrongFalsely : Prop := tidyTightRow.holds Try.pinned (OpenSpec.ofChange tidyTightWrong)

/-- 'quiltmakerlaw11.TidyNone': WHATEVER THE INPUT: true; the input reads as it did. -/
def tidyNoneSpec : ChangeSpec := { name := "tidyNone", fn := fun _ => fun
  | [d] => { results := [.lit (.bool true)], args := [d] }
  | _ => none }
def tidyNoneRow : OpenClaim := { program := "yteiidklmlelabaa", sum := "014cdb5198c5b6b01ba19f26897c4dafd4d5beecd86d968fa8ae0544477458f7", func := "quiltmaker/quiltmakerlaw11.TidyNone", spec := "tidyNone", unfollowed := true, recurses := true, apart := false }
def TidyNoneSaid : Prop := tidyNoneRow.holds Try.pinned (OpenSpec.ofChange tidyNoneSpec)

/-- ITS FALSE NEIGHBOUR: 'it returns false'. Refute it at one input. -/
def tidyNoneWrong : ChangeSpec := { name := "tidyNone", fn := fun _ => fun
  | [d] => { results := [.lit (.bool false)], args := [d] }
  | _ => none }
def TidyNoneWrongFalsely : Prop := tidyNoneRow.holds Try.pinned (OpenSpec.ofChange tidyNoneWrong)

/-- 'quiltmakerlaw11.TidyParts': WHATEVER THE INPUT: true; the input reads as it did. -/
def tidyPartsSpec : ChangeSpec := { name := "tidyParts", fn := fun _ => fun
  | [d1, d2] => { results := [.lit (.bool true)], args := [d1, d2] }
  | _ => none }
def tidyPartsRow : OpenClaim := { program := "yteiidklmlelabaa", sum := "014cdb5198c5b6b01ba19f26897c4dafd4d5beecd86d968fa8ae0544477458f7", func := "quiltmaker/quiltmakerlaw11.TidyParts", spec := "tidyParts", unfollowed := true, recurses := true, apart := false }
def TidyPartsSaid : Prop := tidyPartsRow.holds Try.pinned (OpenSpec.ofChange tidyPartsSpec)

/-- ITS FALSE NEIGHBOUR: 'it returns false'. Refute it at one input. -/
def tidyPartsWrong : ChangeSpec := { name := "tidyParts", fn := fun _ => fun
  | [d1, d2] => { results := [.lit (.bool false)], args := [d1, d2] }
  | _ => none }
def TidyPartsWrongFalsely : Prop := tidyPartsRow.holds Try.pinned (OpenSpec.ofChange tidyPartsWrong)

/-- 'quiltmakerlaw11.TidyIdle': WHATEVER THE INPUT: true; the input reads as it did. -/
def tidyIdleSpec : ChangeSpec := { name := "tidyIdle", fn := fun _ => fun
  | [d1, d2, d3] => { results := [.lit (.bool true)], args := [d1, d2, d3] }
  | _ => none }
def tidyIdleRow : OpenClaim := { program := "yteiidklmlelabaa", sum := "014cdb5198c5b6b01ba19f26897c4dafd4d5beecd86d968fa8ae0544477458f7", func := "quiltmaker/quiltmakerlaw11.TidyIdle", spec := "tidyIdle", unfollowed := true, recurses := true, apart := false }
def TidyIdleSaid : Prop := tidyIdleRow.holds Try.pinned (OpenSpec.ofChange tidyIdleSpec)

/-- ITS FALSE NEIGHBOUR: 'it returns false'. Refute it at one input. -/
def tidyIdleWrong : ChangeSpec := { name := "tidyIdle", fn := fun _ => fun
  | [d1, d2, d3] => { results := [.lit (.bool false)], args := [d1, d2, d3] }
  | _ => none }
def TidyIdleWrongFalsely : Prop := tidyIdleRow.holds Try.pinned (OpenSpec.ofChange tidyIdleWrong)

/- THE SECOND FORM. 'bulk': how many values and letters a reading holds, each counted each time it is reached (what is shared counts as often as it is met; a slice's spare places count too). A statement '..UptoSaid' is the law's where the arguments, and the package variables that the reading takes, are together of bulk at most 1048576: NARROWER than '..Said'. Prove '..Said' where nothing that the law and all that it calls make is longer than what came in: it says more and counts as full. Else prove '..UptoSaid'. A law counts once. -/
mutual
def uptoBulk {H : Type} : DataW H → Nat
  | .lit (.string bytes) => bytes.length + 1
  | .lit _ => 1
  | .nil => 1
  | .ptr d => uptoBulk d + 1
  | .slice elems spare => uptoBulkAll elems + uptoBulkAll spare + 1
  | .agg parts => uptoBulkAll parts + 1
  | .iface _ d => uptoBulk d + 1
  | .map entries => uptoBulkEntries entries + 1
  | .held _ => 1
def uptoBulkAll {H : Type} : List (DataW H) → Nat
  | [] => 0
  | d :: r => uptoBulk d + uptoBulkAll r
def uptoBulkEntries {H : Type} : List (Lit × DataW H) → Nat
  | [] => 0
  | x :: r => uptoBulkEntry x + uptoBulkEntries r
def uptoBulkEntry {H : Type} : Lit × DataW H → Nat
  | (.string bytes, d) => bytes.length + uptoBulk d + 1
  | (_, d) => uptoBulk d + 1
 end
def uptoSmall : (H : Type) → List (DataW H) → Bool := fun _ ds => decide (uptoBulkAll ds ≤ 1048576)
def OpenSpec.upto (s : _root_.Go.ChangeSpec) : _root_.Go.OpenSpec := { _root_.Go.OpenSpec.ofChange s with cond := some uptoSmall }

/-- 'quiltmakerlaw10.FlowPasses', WHERE WHAT IT READS IS OF BULK AT MOST 1048576: true; the input reads as it did. -/
def flowPassesUptoRow : OpenClaim := { program := "yteiidklmlelabaa", sum := "014cdb5198c5b6b01ba19f26897c4dafd4d5beecd86d968fa8ae0544477458f7", func := "quiltmaker/quiltmakerlaw10.FlowPasses", spec := "flowPasses", inPlace := ["internal/bytealg.IndexByteString", "slices.overlaps[quiltmaker/api.File]"], unfollowed := true, recurses := true, apart := false, narrowed := true }
def FlowPassesUptoSaid : Prop := flowPassesUptoRow.holds Try.pinned (OpenSpec.upto flowPassesSpec)

/-- 'quiltmakerlaw10.FlowParts', WHERE WHAT IT READS IS OF BULK AT MOST 1048576: true; the input reads as it did. -/
def flowPartsUptoRow : OpenClaim := { program := "yteiidklmlelabaa", sum := "014cdb5198c5b6b01ba19f26897c4dafd4d5beecd86d968fa8ae0544477458f7", func := "quiltmaker/quiltmakerlaw10.FlowParts", spec := "flowParts", inPlace := ["internal/bytealg.IndexByteString", "slices.overlaps[quiltmaker/api.File]"], unfollowed := true, recurses := true, apart := false, narrowed := true }
def FlowPartsUptoSaid : Prop := flowPartsUptoRow.holds Try.pinned (OpenSpec.upto flowPartsSpec)

/-- 'quiltmakerlaw11.TidyTells', WHERE WHAT IT READS IS OF BULK AT MOST 1048576: true; the input reads as it did. -/
def tidyTellsUptoRow : OpenClaim := { program := "yteiidklmlelabaa", sum := "014cdb5198c5b6b01ba19f26897c4dafd4d5beecd86d968fa8ae0544477458f7", func := "quiltmaker/quiltmakerlaw11.TidyTells", spec := "tidyTells", apart := false, narrowed := true }
def TidyTellsUptoSaid : Prop := tidyTellsUptoRow.holds Try.pinned (OpenSpec.upto tidyTellsSpec)

/-- 'quiltmakerlaw11.TidySame', WHERE WHAT IT READS IS OF BULK AT MOST 1048576: true; the input reads as it did. -/
def tidySameUptoRow : OpenClaim := { program := "yteiidklmlelabaa", sum := "014cdb5198c5b6b01ba19f26897c4dafd4d5beecd86d968fa8ae0544477458f7", func := "quiltmaker/quiltmakerlaw11.TidySame", spec := "tidySame", inPlace := ["internal/bytealg.IndexByteString", "slices.overlaps[quiltmaker/api.File]"], unfollowed := true, recurses := true, apart := false, narrowed := true }
def TidySameUptoSaid : Prop := tidySameUptoRow.holds Try.pinned (OpenSpec.upto tidySameSpec)

/-- 'quiltmakerlaw11.TidyTight', WHERE WHAT IT READS IS OF BULK AT MOST 1048576: true; the input reads as it did. -/
def tidyTightUptoRow : OpenClaim := { program := "yteiidklmlelabaa", sum := "014cdb5198c5b6b01ba19f26897c4dafd4d5beecd86d968fa8ae0544477458f7", func := "quiltmaker/quiltmakerlaw11.TidyTight", spec := "tidyTight", unfollowed := true, recurses := true, apart := false, narrowed := true }
def TidyTightUptoSaid : Prop := tidyTightUptoRow.holds Try.pinned (OpenSpec.upto tidyTightSpec)

/-- 'quiltmakerlaw11.TidyNone', WHERE WHAT IT READS IS OF BULK AT MOST 1048576: true; the input reads as it did. -/
def tidyNoneUptoRow : OpenClaim := { program := "yteiidklmlelabaa", sum := "014cdb5198c5b6b01ba19f26897c4dafd4d5beecd86d968fa8ae0544477458f7", func := "quiltmaker/quiltmakerlaw11.TidyNone", spec := "tidyNone", unfollowed := true, recurses := true, apart := false, narrowed := true }
def TidyNoneUptoSaid : Prop := tidyNoneUptoRow.holds Try.pinned (OpenSpec.upto tidyNoneSpec)

/-- 'quiltmakerlaw11.TidyParts', WHERE WHAT IT READS IS OF BULK AT MOST 1048576: true; the input reads as it did. -/
def tidyPartsUptoRow : OpenClaim := { program := "yteiidklmlelabaa", sum := "014cdb5198c5b6b01ba19f26897c4dafd4d5beecd86d968fa8ae0544477458f7", func := "quiltmaker/quiltmakerlaw11.TidyParts", spec := "tidyParts", unfollowed := true, recurses := true, apart := false, narrowed := true }
def TidyPartsUptoSaid : Prop := tidyPartsUptoRow.holds Try.pinned (OpenSpec.upto tidyPartsSpec)

/-- 'quiltmakerlaw11.TidyIdle', WHERE WHAT IT READS IS OF BULK AT MOST 1048576: true; the input reads as it did. -/
def tidyIdleUptoRow : OpenClaim := { program := "yteiidklmlelabaa", sum := "014cdb5198c5b6b01ba19f26897c4dafd4d5beecd86d968fa8ae0544477458f7", func := "quiltmaker/quiltmakerlaw11.TidyIdle", spec := "tidyIdle", unfollowed := true, recurses := true, apart := false, narrowed := true }
def TidyIdleUptoSaid : Prop := tidyIdleUptoRow.holds Try.pinned (OpenSpec.upto tidyIdleSpec)

end Rows
end Go.Proofs.Yteiidklmlelabaa
