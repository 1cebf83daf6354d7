/-
  No cell of these rows narrows 'for every input' (looked for: loops, veiled, ifaces, maps, wideKeys, modest, calm, conditions, laid).
  DERIVED. THE GIVEN ROWS OF THIS SEAT. 4 by the template 'for every input the law returns true; each argument reads behind the call as it read before'; 0 by the template 'total and deterministic' (their statements: YtfnhjflocfmcoaaGreatTotals.lean).
  GIVEN WITH THE SEED: the statements are not yours to turn. If you find one false, say at which input.
  Laid BY PROGRAM, IN A SANDBOX (cutbox-rows.mjs): the forced cells as the released guide's own fill.sh prints them over the translation bc1763b43f89f656… (all of the seat's roots in one cut). By AI agents, Wed Nov 11 2026. No macro, syntax, notation, axiom, sorry.
-/
import Derived.Test.YtfnhjflocfmcoaaGreatChecked
import GoSem.Claim
import GoSem.ClaimJoined
import GoSem.ClaimMapViews
import Derived.JoinedTies
import Derived.KernelRfl
namespace Go.Proofs.YtfnhjflocfmcoaaGreat
/- THE CELL 'sum', in the pinned program and in every row, IS THE sha256 OF THE DUMP (.gsa) THAT YtfnhjflocfmcoaaGreatProg.lean LOADS. Nothing in Lean hashes anything: it is a label: what it is worth is what the hold of that sum in a sandbox is worth. -/
noncomputable def Tryz.pinned : Pinned := { name := "ytfnhjflocfmcoaagreat", sum := "bc1763b43f89f65685dff59607dbb146271299d4e81dff000d10a54f01d1965f", checked := Tryz.checked }
namespace Rows
def none {H : Type} : Left H := { results := [], args := [] }

/-- 'quiltmakerlaw17.BlameTells': WHATEVER THE INPUT: true; the input reads as it did. -/
def blameTellsSpec : ChangeSpec := { name := "blameTells", fn := fun _ => fun
  | [d1, d2, d3] => { results := [.lit (.bool true)], args := [d1, d2, d3] }
  | _ => none }
def blameTellsRow : OpenClaim := { program := "ytfnhjflocfmcoaagreat", sum := "bc1763b43f89f65685dff59607dbb146271299d4e81dff000d10a54f01d1965f", func := "quiltmaker/quiltmakerlaw17.BlameTells", spec := "blameTells", inPlace := ["internal/bytealg.IndexByteString", "slices.overlaps[quiltmaker/api.File]"], unfollowed := true, recurses := true, apart := false }
def BlameTellsSaid : Prop := blameTellsRow.holds Tryz.pinned (OpenSpec.ofChange blameTellsSpec)

/-- ITS FALSE NEIGHBOUR: 'it returns false'. Refute it at one input. -/
def blameTellsWrong : ChangeSpec := { name := "blameTells", fn := fun _ => fun
  | [d1, d2, d3] => { results := [.lit (.bool false)], args := [d1, d2, d3] }
  | _ => none }
def BlameTellsWrongFalsely : Prop := blameTellsRow.holds Tryz.pinned (OpenSpec.ofChange blameTellsWrong)

/-- 'quiltmakerlaw17.BlameLines': WHATEVER THE INPUT: true; the input reads as it did. -/
def blameLinesSpec : ChangeSpec := { name := "blameLines", fn := fun _ => fun
  | [d] => { results := [.lit (.bool true)], args := [d] }
  | _ => none }
def blameLinesRow : OpenClaim := { program := "ytfnhjflocfmcoaagreat", sum := "bc1763b43f89f65685dff59607dbb146271299d4e81dff000d10a54f01d1965f", func := "quiltmaker/quiltmakerlaw17.BlameLines", spec := "blameLines", inPlace := ["internal/bytealg.IndexByteString", "slices.overlaps[quiltmaker/api.File]"], unfollowed := true, recurses := true, apart := false }
def BlameLinesSaid : Prop := blameLinesRow.holds Tryz.pinned (OpenSpec.ofChange blameLinesSpec)

/-- ITS FALSE NEIGHBOUR: 'it returns false'. Refute it at one input. -/
def blameLinesWrong : ChangeSpec := { name := "blameLines", fn := fun _ => fun
  | [d] => { results := [.lit (.bool false)], args := [d] }
  | _ => none }
def BlameLinesWrongFalsely : Prop := blameLinesRow.holds Tryz.pinned (OpenSpec.ofChange blameLinesWrong)

/-- 'quiltmakerlaw17.BlameOnce': WHATEVER THE INPUT: true; the input reads as it did. -/
def blameOnceSpec : ChangeSpec := { name := "blameOnce", fn := fun _ => fun
  | [d] => { results := [.lit (.bool true)], args := [d] }
  | _ => none }
def blameOnceRow : OpenClaim := { program := "ytfnhjflocfmcoaagreat", sum := "bc1763b43f89f65685dff59607dbb146271299d4e81dff000d10a54f01d1965f", func := "quiltmaker/quiltmakerlaw17.BlameOnce", spec := "blameOnce", inPlace := ["internal/bytealg.IndexByteString", "slices.overlaps[quiltmaker/api.File]"], unfollowed := true, recurses := true, apart := false }
def BlameOnceSaid : Prop := blameOnceRow.holds Tryz.pinned (OpenSpec.ofChange blameOnceSpec)

/-- ITS FALSE NEIGHBOUR: 'it returns false'. Refute it at one input. -/
def blameOnceWrong : ChangeSpec := { name := "blameOnce", fn := fun _ => fun
  | [d] => { results := [.lit (.bool false)], args := [d] }
  | _ => none }
def BlameOnceWrongFalsely : Prop := blameOnceRow.holds Tryz.pinned (OpenSpec.ofChange blameOnceWrong)

/-- 'quiltmakerlaw17.BlameStays': WHATEVER THE INPUT: true; the input reads as it did. -/
def blameStaysSpec : ChangeSpec := { name := "blameStays", fn := fun _ => fun
  | [d1, d2, d3] => { results := [.lit (.bool true)], args := [d1, d2, d3] }
  | _ => none }
def blameStaysRow : OpenClaim := { program := "ytfnhjflocfmcoaagreat", sum := "bc1763b43f89f65685dff59607dbb146271299d4e81dff000d10a54f01d1965f", func := "quiltmaker/quiltmakerlaw17.BlameStays", spec := "blameStays", inPlace := ["internal/bytealg.IndexByteString", "slices.overlaps[quiltmaker/api.File]"], unfollowed := true, recurses := true, apart := false }
def BlameStaysSaid : Prop := blameStaysRow.holds Tryz.pinned (OpenSpec.ofChange blameStaysSpec)

/-- ITS FALSE NEIGHBOUR: 'it returns false'. Refute it at one input. -/
def blameStaysWrong : ChangeSpec := { name := "blameStays", fn := fun _ => fun
  | [d1, d2, d3] => { results := [.lit (.bool false)], args := [d1, d2, d3] }
  | _ => none }
def BlameStaysWrongFalsely : Prop := blameStaysRow.holds Tryz.pinned (OpenSpec.ofChange blameStaysWrong)

/- THE SECOND FORM. 'bulk': how many values and letters a reading holds, each counted each time it is reached (what is shared counts as often as it is met; a slice's spare places count too). A statement '..UptoSaid' is the law's where the arguments, and the package variables that the reading takes, are together of bulk at most 1048576: NARROWER than '..Said'. Prove '..Said' where nothing that the law and all that it calls make is longer than what came in: it says more and counts as full. Else prove '..UptoSaid'. A law counts once. -/
mutual
def uptoBulk {H : Type} : DataW H → Nat
  | .lit (.string bytes) => bytes.length + 1
  | .lit _ => 1
  | .nil => 1
  | .ptr d => uptoBulk d + 1
  | .slice elems spare => uptoBulkAll elems + uptoBulkAll spare + 1
  | .agg parts => uptoBulkAll parts + 1
  | .iface _ d => uptoBulk d + 1
  | .map entries => uptoBulkEntries entries + 1
  | .held _ => 1
def uptoBulkAll {H : Type} : List (DataW H) → Nat
  | [] => 0
  | d :: r => uptoBulk d + uptoBulkAll r
def uptoBulkEntries {H : Type} : List (Lit × DataW H) → Nat
  | [] => 0
  | x :: r => uptoBulkEntry x + uptoBulkEntries r
def uptoBulkEntry {H : Type} : Lit × DataW H → Nat
  | (.string bytes, d) => bytes.length + uptoBulk d + 1
  | (_, d) => uptoBulk d + 1
 end
def uptoSmall : (H : Type) → List (DataW H) → Bool := fun _ ds => decide (uptoBulkAll ds ≤ 1048576)
def OpenSpec.upto (s : _root_.Go.ChangeSpec) : _root_.Go.OpenSpec := { _root_.Go.OpenSpec.ofChange s with cond := some uptoSmall }

/-- 'quiltmakerlaw17.BlameTells', WHERE WHAT IT READS IS OF BULK AT MOST 1048576: true; the input reads as it did. -/
def blameTellsUptoRow : OpenClaim := { program := "ytfnhjflocfmcoaagreat", sum := "bc1763b43f89f65685dff59607dbb146271299d4e81dff000d10a54f01d1965f", func := "quiltmaker/quiltmakerlaw17.BlameTells", spec := "blameTells", inPlace := ["internal/bytealg.IndexByteString", "slices.overlaps[quiltmaker/api.File]"], unfollowed := true, recurses := true, apart := false, narrowed := true }
def BlameTellsUptoSaid : Prop := blameTellsUptoRow.holds Tryz.pinned (OpenSpec.upto blameTellsSpec)

/-- 'quiltmakerlaw17.BlameLines', WHERE WHAT IT READS IS OF BULK AT MOST 1048576: true; the input reads as it did. -/
def blameLinesUptoRow : OpenClaim := { program := "ytfnhjflocfmcoaagreat", sum := "bc1763b43f89f65685dff59607dbb146271299d4e81dff000d10a54f01d1965f", func := "quiltmaker/quiltmakerlaw17.BlameLines", spec := "blameLines", inPlace := ["internal/bytealg.IndexByteString", "slices.overlaps[quiltmaker/api.File]"], unfollowed := true, recurses := true, apart := false, narrowed := true }
def BlameLinesUptoSaid : Prop := blameLinesUptoRow.holds Tryz.pinned (OpenSpec.upto blameLinesSpec)

/-- 'quiltmakerlaw17.BlameOnce', WHERE WHAT IT READS IS OF BULK AT MOST 1048576: true; the input reads as it did. -/
def blameOnceUptoRow : OpenClaim := { program := "ytfnhjflocfmcoaagreat", sum := "bc1763b43f89f65685dff59607dbb146271299d4e81dff000d10a54f01d1965f", func := "quiltmaker/quiltmakerlaw17.BlameOnce", spec := "blameOnce", inPlace := ["internal/bytealg.IndexByteString", "slices.overlaps[quiltmaker/api.File]"], unfollowed := true, recurses := true, apart := false, narrowed := true }
def BlameOnceUptoSaid : Prop := blameOnceUptoRow.holds Tryz.pinned (OpenSpec.upto blameOnceSpec)

/-- 'quiltmakerlaw17.BlameStays', WHERE WHAT IT READS IS OF BULK AT MOST 1048576: true; the input reads as it did. -/
def blameStaysUptoRow : OpenClaim := { program := "ytfnhjflocfmcoaagreat", sum := "bc1763b43f89f65685dff59607dbb146271299d4e81dff000d10a54f01d1965f", func := "quiltmaker/quiltmakerlaw17.BlameStays", spec := "blameStays", inPlace := ["internal/bytealg.IndexByteString", "slices.overlaps[quiltmaker/api.File]"], unfollowed := true, recurses := true, apart := false, narrowed := true }
def BlameStaysUptoSaid : Prop := blameStaysUptoRow.holds Tryz.pinned (OpenSpec.upto blameStaysSpec)

end Rows
end Go.Proofs.YtfnhjflocfmcoaaGreat
