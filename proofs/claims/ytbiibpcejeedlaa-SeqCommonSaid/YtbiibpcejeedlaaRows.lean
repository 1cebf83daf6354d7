/-
  No cell of these rows narrows 'for every input' (looked for: loops, veiled, ifaces, maps, wideKeys, modest, calm, conditions, laid).
  DERIVED. THE GIVEN ROWS OF THIS SEAT. 5 by the template 'for every input the law returns true; each argument reads behind the call as it read before'; 0 by the template 'total and deterministic' (their statements: YtbiibpcejeedlaaTotals.lean).
  GIVEN WITH THE SEED: the statements are not yours to turn. If you find one false, say at which input.
  Laid BY PROGRAM, IN A SANDBOX (cutbox-rows.mjs): the forced cells as the released guide's own fill.sh prints them over the translation 64b420d9deddfea1… (all of the seat's roots in one cut). By AI agents, Wed Nov 11 2026. No macro, syntax, notation, axiom, sorry.
-/
import Derived.Test.YtbiibpcejeedlaaChecked
import GoSem.Claim
import GoSem.ClaimJoined
import GoSem.ClaimMapViews
import Derived.JoinedTies
import Derived.KernelRfl
namespace Go.Proofs.Ytbiibpcejeedlaa
/- THE CELL 'sum', in the pinned program and in every row, IS THE sha256 OF THE DUMP (.gsa) THAT YtbiibpcejeedlaaProg.lean LOADS. Nothing in Lean hashes anything: it is a label: what it is worth is what the hold of that sum in a sandbox is worth. -/
noncomputable def Try.pinned : Pinned := { name := "ytbiibpcejeedlaa", sum := "64b420d9deddfea1602438d2e4c625268a686a9bb4cd64f11f118ab5204bae01", checked := Try.checked }
namespace Rows
def none {H : Type} : Left H := { results := [], args := [] }

/-- 'quiltmakerlaw02.SeqTells': WHATEVER THE INPUT: true; the input reads as it did. -/
def seqTellsSpec : ChangeSpec := { name := "seqTells", fn := fun _ => fun
  | [d1, d2, d3, d4] => { results := [.lit (.bool true)], args := [d1, d2, d3, d4] }
  | _ => none }
def seqTellsRow : OpenClaim := { program := "ytbiibpcejeedlaa", sum := "64b420d9deddfea1602438d2e4c625268a686a9bb4cd64f11f118ab5204bae01", func := "quiltmaker/quiltmakerlaw02.SeqTells", spec := "seqTells", apart := false }
def SeqTellsSaid : Prop := seqTellsRow.holds Try.pinned (OpenSpec.ofChange seqTellsSpec)

/-- ITS FALSE NEIGHBOUR: 'it returns false'. Refute it at one input. -/
def seqTellsWrong : ChangeSpec := { name := "seqTells", fn := fun _ => fun
  | [d1, d2, d3, d4] => { results := [.lit (.bool false)], args := [d1, d2, d3, d4] }
  | _ => none }
def SeqTellsWrongFalsely : Prop := seqTellsRow.holds Try.pinned (OpenSpec.ofChange seqTellsWrong)

/-- 'quiltmakerlaw02.SeqBack': WHATEVER THE INPUT: true; the input reads as it did. -/
def seqBackSpec : ChangeSpec := { name := "seqBack", fn := fun _ => fun
  | [d1, d2, d3, d4] => { results := [.lit (.bool true)], args := [d1, d2, d3, d4] }
  | _ => none }
def seqBackRow : OpenClaim := { program := "ytbiibpcejeedlaa", sum := "64b420d9deddfea1602438d2e4c625268a686a9bb4cd64f11f118ab5204bae01", func := "quiltmaker/quiltmakerlaw02.SeqBack", spec := "seqBack", apart := false }
def SeqBackSaid : Prop := seqBackRow.holds Try.pinned (OpenSpec.ofChange seqBackSpec)

/-- ITS FALSE NEIGHBOUR: 'it returns false'. Refute it at one input. -/
def seqBackWrong : ChangeSpec := { name := "seqBack", fn := fun _ => fun
  | [d1, d2, d3, d4] => { results := [.lit (.bool false)], args := [d1, d2, d3, d4] }
  | _ => none }
def SeqBackWrongFalsely : Prop := seqBackRow.holds Try.pinned (OpenSpec.ofChange seqBackWrong)

/-- 'quiltmakerlaw02.SeqApart': WHATEVER THE INPUT: true; the input reads as it did. -/
def seqApartSpec : ChangeSpec := { name := "seqApart", fn := fun _ => fun
  | [d1, d2, d3, d4, d5, d6, d7] => { results := [.lit (.bool true)], args := [d1, d2, d3, d4, d5, d6, d7] }
  | _ => none }
def seqApartRow : OpenClaim := { program := "ytbiibpcejeedlaa", sum := "64b420d9deddfea1602438d2e4c625268a686a9bb4cd64f11f118ab5204bae01", func := "quiltmaker/quiltmakerlaw02.SeqApart", spec := "seqApart", apart := false }
def SeqApartSaid : Prop := seqApartRow.holds Try.pinned (OpenSpec.ofChange seqApartSpec)

/-- ITS FALSE NEIGHBOUR: 'it returns false'. Refute it at one input. -/
def seqApartWrong : ChangeSpec := { name := "seqApart", fn := fun _ => fun
  | [d1, d2, d3, d4, d5, d6, d7] => { results := [.lit (.bool false)], args := [d1, d2, d3, d4, d5, d6, d7] }
  | _ => none }
def SeqApartWrongFalsely : Prop := seqApartRow.holds Try.pinned (OpenSpec.ofChange seqApartWrong)

/-- 'quiltmakerlaw02.SeqCommon': WHATEVER THE INPUT: true; the input reads as it did. -/
def seqCommonSpec : ChangeSpec := { name := "seqCommon", fn := fun _ => fun
  | [d1, d2] => { results := [.lit (.bool true)], args := [d1, d2] }
  | _ => none }
def seqCommonRow : OpenClaim := { program := "ytbiibpcejeedlaa", sum := "64b420d9deddfea1602438d2e4c625268a686a9bb4cd64f11f118ab5204bae01", func := "quiltmaker/quiltmakerlaw02.SeqCommon", spec := "seqCommon", apart := false }
def SeqCommonSaid : Prop := seqCommonRow.holds Try.pinned (OpenSpec.ofChange seqCommonSpec)

/-- ITS FALSE NEIGHBOUR: 'it returns false'. Refute it at one input. -/
def seqCommonWrong : ChangeSpec := { name := "seqCommon", fn := fun _ => fun
  | [d1, d2] => { results := [.lit (.bool false)], args := [d1, d2] }
  | _ => none }
def SeqCommonWrongFalsely : Prop := seqCommonRow.holds Try.pinned (OpenSpec.ofChange seqCommonWrong)

/-- 'quiltmakerlaw02.SeqNone': WHATEVER THE INPUT: true; the input reads as it did. -/
def seqNoneSpec : ChangeSpec := { name := "seqNone", fn := fun _ => fun
  | [d1, d2, d3] => { results := [.lit (.bool true)], args := [d1, d2, d3] }
  | _ => none }
def seqNoneRow : OpenClaim := { program := "ytbiibpcejeedlaa", sum := "64b420d9deddfea1602438d2e4c625268a686a9bb4cd64f11f118ab5204bae01", func := "quiltmaker/quiltmakerlaw02.SeqNone", spec := "seqNone", apart := false }
def SeqNoneSaid : Prop := seqNoneRow.holds Try.pinned (OpenSpec.ofChange seqNoneSpec)

/-- ITS FALSE NEIGHBOUR: 'it returns false'. Refute it at one input. -/
def seqNoneWrong : ChangeSpec := { name := "seqNone", fn := fun _ => fun
  | [d1, d2, d3] => { results := [.lit (.bool false)], args := [d1, d2, d3] }
  | _ => none }
def SeqNoneWrongFalsely : Prop := seqNoneRow.holds Try.pinned (OpenSpec.ofChange seqNoneWrong)

/- THE SECOND FORM. 'bulk': how many values and letters a reading holds, each counted each time it is reached (what is shared counts as often as it is met; a slice's spare places count too). A statement '..UptoSaid' is the law's where the arguments, and the package variables that the reading takes, are together of bulk at most 1048576: NARROWER than '..Said'. Prove '..Said' where nothing that the law and all that it calls make is longer than what came in: it says more and counts as full. Else prove '..UptoSaid'. A law counts once. -/
mutual
def uptoBulk {H : Type} : DataW H → Nat
  | .lit (.string bytes) => bytes.length + 1
  | .lit _ => 1
  | .nil => 1
  | .ptr d => uptoBulk d + 1
  | .slice elems spare => uptoBulkAll elems + uptoBulkAll spare + 1
  | .agg parts => uptoBulkAll parts + 1
  | .iface _ d => uptoBulk d + 1
  | .map entries => uptoBulkEntries entries + 1
  | .held _ => 1
def uptoBulkAll {H : Type} : List (DataW H) → Nat
  | [] => 0
  | d :: r => uptoBulk d + uptoBulkAll r
def uptoBulkEntries {H : Type} : List (Lit × DataW H) → Nat
  | [] => 0
  | x :: r => uptoBulkEntry x + uptoBulkEntries r
def uptoBulkEntry {H : Type} : Lit × DataW H → Nat
  | (.string bytes, d) => bytes.length + uptoBulk d + 1
  | (_, d) => uptoBulk d + 1
 end
def uptoSmall : (H : Type) → List (DataW H) → Bool := fun _ ds => decide (uptoBulkAll ds ≤ 1048576)
def OpenSpec.upto (s : _root_.Go.ChangeSpec) : _root_.Go.OpenSpec := { _root_.Go.OpenSpec.ofChange s with cond := some uptoSmall }

/-- 'quiltmakerlaw02.SeqTells', WHERE WHAT IT READS IS OF BULK AT MOST 1048576: true; the input reads as it did. -/
def seqTellsUptoRow : OpenClaim := { program := "ytbiibpcejeedlaa", sum := "64b420d9deddfea1602438d2e4c625268a686a9bb4cd64f11f118ab5204bae01", func := "quiltmaker/quiltmakerlaw02.SeqTells", spec := "seqTells", apart := false, narrowed := true }
def SeqTellsUptoSaid : Prop := seqTellsUptoRow.holds Try.pinned (OpenSpec.upto seqTellsSpec)

/-- 'quiltmakerlaw02.SeqBack', WHERE WHAT IT READS IS OF BULK AT MOST 1048576: true; the input reads as it did. -/
def seqBackUptoRow : OpenClaim := { program := "ytbiibpcejeedlaa", sum := "64b420d9deddfea1602438d2e4c625268a686a9bb4cd64f11f118ab5204bae01", func := "quiltmaker/quiltmakerlaw02.SeqBack", spec := "seqBack", apart := false, narrowed := true }
def SeqBackUptoSaid : Prop := seqBackUptoRow.holds Try.pinned (OpenSpec.upto seqBackSpec)

/-- 'quiltmakerlaw02.SeqApart', WHERE WHAT IT READS IS OF BULK AT MOST 1048576: true; the input reads as it did. -/
def seqApartUptoRow : OpenClaim := { program := "ytbiibpcejeedlaa", sum := "64b420d9deddfea1602438d2e4c625268a686a9bb4cd64f11f118ab5204bae01", func := "quiltmaker/quiltmakerlaw02.SeqApart", spec := "seqApart", apart := false, narrowed := true }
def SeqApartUptoSaid : Prop := seqApartUptoRow.holds Try.pinned (OpenSpec.upto seqApartSpec)

/-- 'quiltmakerlaw02.SeqCommon', WHERE WHAT IT READS IS OF BULK AT MOST 1048576: true; the input reads as it did. -/
def seqCommonUptoRow : OpenClaim := { program := "ytbiibpcejeedlaa", sum := "64b420d9deddfea1602438d2e4c625268a686a9bb4cd64f11f118ab5204bae01", func := "quiltmaker/quiltmakerlaw02.SeqCommon", spec := "seqCommon", apart := false, narrowed := true }
def SeqCommonUptoSaid : Prop := seqCommonUptoRow.holds Try.pinned (OpenSpec.upto seqCommonSpec)

/-- 'quiltmakerlaw02.SeqNone', WHERE WHAT IT READS IS OF BULK AT MOST 1048576: true; the input reads as it did. -/
def seqNoneUptoRow : OpenClaim := { program := "ytbiibpcejeedlaa", sum := "64b420d9deddfea1602438d2e4c625268a686a9bb4cd64f11f118ab5204bae01", func := "quiltmaker/quiltmakerlaw02.SeqNone", spec := "seqNone", apart := false, narrowed := true }
def SeqNoneUptoSaid : Prop := seqNoneUptoRow.holds Try.pinned (OpenSpec.upto seqNoneSpec)

end Rows
end Go.Proofs.Ytbiibpcejeedlaa
