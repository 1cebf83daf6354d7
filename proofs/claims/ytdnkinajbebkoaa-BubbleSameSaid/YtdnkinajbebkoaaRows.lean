/-
  No cell of these rows narrows 'for every input' (looked for: loops, veiled, ifaces, maps, wideKeys, modest, calm, conditions, laid).
  DERIVED. THE GIVEN ROWS OF THIS SEAT. 7 by the template 'for every input the law returns true; each argument reads behind the call as it read before'; 0 by the template 'total and deterministic' (their statements: YtdnkinajbebkoaaTotals.lean).
  GIVEN WITH THE SEED: the statements are not yours to turn. If you find one false, say at which input.
  Laid BY PROGRAM, IN A SANDBOX (cutbox-rows.mjs): the forced cells as the released guide's own fill.sh prints them over the translation 281b43255febe746… (all of the seat's roots in one cut). By AI agents, Wed Nov 11 2026. No macro, syntax, notation, axiom, sorry.
-/
import Derived.Test.YtdnkinajbebkoaaChecked
import GoSem.Claim
import GoSem.ClaimJoined
import GoSem.ClaimMapViews
import Derived.JoinedTies
import Derived.KernelRfl
namespace Go.Proofs.Ytdnkinajbebkoaa
/- THE CELL 'sum', in the pinned program and in every row, IS THE sha256 OF THE DUMP (.gsa) THAT YtdnkinajbebkoaaProg.lean LOADS. Nothing in Lean hashes anything: it is a label: what it is worth is what the hold of that sum in a sandbox is worth. -/
noncomputable def Try.pinned : Pinned := { name := "ytdnkinajbebkoaa", sum := "281b43255febe746353c9a84b17800750fe2055b7339259700e42a2978c0c175", checked := Try.checked }
namespace Rows
def none {H : Type} : Left H := { results := [], args := [] }

/-- 'quiltmakerlaw16.BubbleTells': WHATEVER THE INPUT: true; the input reads as it did. -/
def bubbleTellsSpec : ChangeSpec := { name := "bubbleTells", fn := fun _ => fun
  | [d1, d2] => { results := [.lit (.bool true)], args := [d1, d2] }
  | _ => none }
def bubbleTellsRow : OpenClaim := { program := "ytdnkinajbebkoaa", sum := "281b43255febe746353c9a84b17800750fe2055b7339259700e42a2978c0c175", func := "quiltmaker/quiltmakerlaw16.BubbleTells", spec := "bubbleTells", inPlace := ["internal/bytealg.IndexByteString"], unfollowed := true, recurses := true, apart := false }
def BubbleTellsSaid : Prop := bubbleTellsRow.holds Try.pinned (OpenSpec.ofChange bubbleTellsSpec)

/-- ITS FALSE NEIGHBOUR: 'it returns false'. Refute it at one input. -/
def bubbleTellsWrong : ChangeSpec := { name := "bubbleTells", fn := fun _ => fun
  | [d1, d2] => { results := [.lit (.bool false)], args := [d1, d2] }
  | _ => none }
def BubbleTellsWrongFalsely : Prop := bubbleTellsRow.holds Try.pinned (OpenSpec.ofChange bubbleTellsWrong)

/-- 'quiltmakerlaw16.BubbleSame': WHATEVER THE INPUT: true; the input reads as it did. -/
def bubbleSameSpec : ChangeSpec := { name := "bubbleSame", fn := fun _ => fun
  | [d1, d2, d3] => { results := [.lit (.bool true)], args := [d1, d2, d3] }
  | _ => none }
def bubbleSameRow : OpenClaim := { program := "ytdnkinajbebkoaa", sum := "281b43255febe746353c9a84b17800750fe2055b7339259700e42a2978c0c175", func := "quiltmaker/quiltmakerlaw16.BubbleSame", spec := "bubbleSame", inPlace := ["internal/bytealg.IndexByteString", "slices.overlaps[quiltmaker/api.File]"], unfollowed := true, recurses := true, apart := false }
def BubbleSameSaid : Prop := bubbleSameRow.holds Try.pinned (OpenSpec.ofChange bubbleSameSpec)

/-- ITS FALSE NEIGHBOUR: 'it returns false'. Refute it at one input. -/
def bubbleSameWrong : ChangeSpec := { name := "bubbleSame", fn := fun _ => fun
  | [d1, d2, d3] => { results := [.lit (.bool false)], args := [d1, d2, d3] }
  | _ => none }
def BubbleSameWrongFalsely : Prop := bubbleSameRow.holds Try.pinned (OpenSpec.ofChange bubbleSameWrong)

/-- 'quiltmakerlaw16.BubbleAll': WHATEVER THE INPUT: true; the input reads as it did. -/
def bubbleAllSpec : ChangeSpec := { name := "bubbleAll", fn := fun _ => fun
  | [d1, d2] => { results := [.lit (.bool true)], args := [d1, d2] }
  | _ => none }
def bubbleAllRow : OpenClaim := { program := "ytdnkinajbebkoaa", sum := "281b43255febe746353c9a84b17800750fe2055b7339259700e42a2978c0c175", func := "quiltmaker/quiltmakerlaw16.BubbleAll", spec := "bubbleAll", inPlace := ["internal/bytealg.IndexByteString"], unfollowed := true, recurses := true, apart := false }
def BubbleAllSaid : Prop := bubbleAllRow.holds Try.pinned (OpenSpec.ofChange bubbleAllSpec)

/-- ITS FALSE NEIGHBOUR: 'it returns false'. Refute it at one input. -/
def bubbleAllWrong : ChangeSpec := { name := "bubbleAll", fn := fun _ => fun
  | [d1, d2] => { results := [.lit (.bool false)], args := [d1, d2] }
  | _ => none }
def BubbleAllWrongFalsely : Prop := bubbleAllRow.holds Try.pinned (OpenSpec.ofChange bubbleAllWrong)

/-- 'quiltmakerlaw16.BubbleHangs': WHATEVER THE INPUT: true; the input reads as it did. -/
def bubbleHangsSpec : ChangeSpec := { name := "bubbleHangs", fn := fun _ => fun
  | [d1, d2] => { results := [.lit (.bool true)], args := [d1, d2] }
  | _ => none }
def bubbleHangsRow : OpenClaim := { program := "ytdnkinajbebkoaa", sum := "281b43255febe746353c9a84b17800750fe2055b7339259700e42a2978c0c175", func := "quiltmaker/quiltmakerlaw16.BubbleHangs", spec := "bubbleHangs", inPlace := ["internal/bytealg.IndexByteString"], unfollowed := true, recurses := true, apart := false }
def BubbleHangsSaid : Prop := bubbleHangsRow.holds Try.pinned (OpenSpec.ofChange bubbleHangsSpec)

/-- ITS FALSE NEIGHBOUR: 'it returns false'. Refute it at one input. -/
def bubbleHangsWrong : ChangeSpec := { name := "bubbleHangs", fn := fun _ => fun
  | [d1, d2] => { results := [.lit (.bool false)], args := [d1, d2] }
  | _ => none }
def BubbleHangsWrongFalsely : Prop := bubbleHangsRow.holds Try.pinned (OpenSpec.ofChange bubbleHangsWrong)

/-- 'quiltmakerlaw16.BubbleStays': WHATEVER THE INPUT: true; the input reads as it did. -/
def bubbleStaysSpec : ChangeSpec := { name := "bubbleStays", fn := fun _ => fun
  | [d1, d2] => { results := [.lit (.bool true)], args := [d1, d2] }
  | _ => none }
def bubbleStaysRow : OpenClaim := { program := "ytdnkinajbebkoaa", sum := "281b43255febe746353c9a84b17800750fe2055b7339259700e42a2978c0c175", func := "quiltmaker/quiltmakerlaw16.BubbleStays", spec := "bubbleStays", inPlace := ["internal/bytealg.IndexByteString"], unfollowed := true, recurses := true, apart := false }
def BubbleStaysSaid : Prop := bubbleStaysRow.holds Try.pinned (OpenSpec.ofChange bubbleStaysSpec)

/-- ITS FALSE NEIGHBOUR: 'it returns false'. Refute it at one input. -/
def bubbleStaysWrong : ChangeSpec := { name := "bubbleStays", fn := fun _ => fun
  | [d1, d2] => { results := [.lit (.bool false)], args := [d1, d2] }
  | _ => none }
def BubbleStaysWrongFalsely : Prop := bubbleStaysRow.holds Try.pinned (OpenSpec.ofChange bubbleStaysWrong)

/-- 'quiltmakerlaw16.BubbleNeeds': WHATEVER THE INPUT: true; the input reads as it did. -/
def bubbleNeedsSpec : ChangeSpec := { name := "bubbleNeeds", fn := fun _ => fun
  | [d1, d2] => { results := [.lit (.bool true)], args := [d1, d2] }
  | _ => none }
def bubbleNeedsRow : OpenClaim := { program := "ytdnkinajbebkoaa", sum := "281b43255febe746353c9a84b17800750fe2055b7339259700e42a2978c0c175", func := "quiltmaker/quiltmakerlaw16.BubbleNeeds", spec := "bubbleNeeds", inPlace := ["internal/bytealg.IndexByteString"], unfollowed := true, recurses := true, apart := false }
def BubbleNeedsSaid : Prop := bubbleNeedsRow.holds Try.pinned (OpenSpec.ofChange bubbleNeedsSpec)

/-- ITS FALSE NEIGHBOUR: 'it returns false'. Refute it at one input. -/
def bubbleNeedsWrong : ChangeSpec := { name := "bubbleNeeds", fn := fun _ => fun
  | [d1, d2] => { results := [.lit (.bool false)], args := [d1, d2] }
  | _ => none }
def BubbleNeedsWrongFalsely : Prop := bubbleNeedsRow.holds Try.pinned (OpenSpec.ofChange bubbleNeedsWrong)

/-- 'quiltmakerlaw16.BubbleNone': WHATEVER THE INPUT: true; the input reads as it did. -/
def bubbleNoneSpec : ChangeSpec := { name := "bubbleNone", fn := fun _ => fun
  | [d1, d2] => { results := [.lit (.bool true)], args := [d1, d2] }
  | _ => none }
def bubbleNoneRow : OpenClaim := { program := "ytdnkinajbebkoaa", sum := "281b43255febe746353c9a84b17800750fe2055b7339259700e42a2978c0c175", func := "quiltmaker/quiltmakerlaw16.BubbleNone", spec := "bubbleNone", inPlace := ["internal/bytealg.IndexByteString"], unfollowed := true, recurses := true, apart := false }
def BubbleNoneSaid : Prop := bubbleNoneRow.holds Try.pinned (OpenSpec.ofChange bubbleNoneSpec)

/-- ITS FALSE NEIGHBOUR: 'it returns false'. Refute it at one input. -/
def bubbleNoneWrong : ChangeSpec := { name := "bubbleNone", fn := fun _ => fun
  | [d1, d2] => { results := [.lit (.bool false)], args := [d1, d2] }
  | _ => none }
def BubbleNoneWrongFalsely : Prop := bubbleNoneRow.holds Try.pinned (OpenSpec.ofChange bubbleNoneWrong)

/- THE SECOND FORM. 'bulk': how many values and letters a reading holds, each counted each time it is reached (what is shared counts as often as it is met; a slice's spare places count too). A statement '..UptoSaid' is the law's where the arguments, and the package variables that the reading takes, are together of bulk at most 1048576: NARROWER than '..Said'. Prove '..Said' where nothing that the law and all that it calls make is longer than what came in: it says more and counts as full. Else prove '..UptoSaid'. A law counts once. -/
mutual
def uptoBulk {H : Type} : DataW H → Nat
  | .lit (.string bytes) => bytes.length + 1
  | .lit _ => 1
  | .nil => 1
  | .ptr d => uptoBulk d + 1
  | .slice elems spare => uptoBulkAll elems + uptoBulkAll spare + 1
  | .agg parts => uptoBulkAll parts + 1
  | .iface _ d => uptoBulk d + 1
  | .map entries => uptoBulkEntries entries + 1
  | .held _ => 1
def uptoBulkAll {H : Type} : List (DataW H) → Nat
  | [] => 0
  | d :: r => uptoBulk d + uptoBulkAll r
def uptoBulkEntries {H : Type} : List (Lit × DataW H) → Nat
  | [] => 0
  | x :: r => uptoBulkEntry x + uptoBulkEntries r
def uptoBulkEntry {H : Type} : Lit × DataW H → Nat
  | (.string bytes, d) => bytes.length + uptoBulk d + 1
  | (_, d) => uptoBulk d + 1
 end
def uptoSmall : (H : Type) → List (DataW H) → Bool := fun _ ds => decide (uptoBulkAll ds ≤ 1048576)
def OpenSpec.upto (s : _root_.Go.ChangeSpec) : _root_.Go.OpenSpec := { _root_.Go.OpenSpec.ofChange s with cond := some uptoSmall }

/-- 'quiltmakerlaw16.BubbleTells', WHERE WHAT IT READS IS OF BULK AT MOST 1048576: true; the input reads as it did. -/
def bubbleTellsUptoRow : OpenClaim := { program := "ytdnkinajbebkoaa", sum := "281b43255febe746353c9a84b17800750fe2055b7339259700e42a2978c0c175", func := "quiltmaker/quiltmakerlaw16.BubbleTells", spec := "bubbleTells", inPlace := ["internal/bytealg.IndexByteString"], unfollowed := true, recurses := true, apart := false, narrowed := true }
def BubbleTellsUptoSaid : Prop := bubbleTellsUptoRow.holds Try.pinned (OpenSpec.upto bubbleTellsSpec)

/-- 'quiltmakerlaw16.BubbleSame', WHERE WHAT IT READS IS OF BULK AT MOST 1048576: true; the input reads as it did. -/
def bubbleSameUptoRow : OpenClaim := { program := "ytdnkinajbebkoaa", sum := "281b43255febe746353c9a84b17800750fe2055b7339259700e42a2978c0c175", func := "quiltmaker/quiltmakerlaw16.BubbleSame", spec := "bubbleSame", inPlace := ["internal/bytealg.IndexByteString", "slices.overlaps[quiltmaker/api.File]"], unfollowed := true, recurses := true, apart := false, narrowed := true }
def BubbleSameUptoSaid : Prop := bubbleSameUptoRow.holds Try.pinned (OpenSpec.upto bubbleSameSpec)

/-- 'quiltmakerlaw16.BubbleAll', WHERE WHAT IT READS IS OF BULK AT MOST 1048576: true; the input reads as it did. -/
def bubbleAllUptoRow : OpenClaim := { program := "ytdnkinajbebkoaa", sum := "281b43255febe746353c9a84b17800750fe2055b7339259700e42a2978c0c175", func := "quiltmaker/quiltmakerlaw16.BubbleAll", spec := "bubbleAll", inPlace := ["internal/bytealg.IndexByteString"], unfollowed := true, recurses := true, apart := false, narrowed := true }
def BubbleAllUptoSaid : Prop := bubbleAllUptoRow.holds Try.pinned (OpenSpec.upto bubbleAllSpec)

/-- 'quiltmakerlaw16.BubbleHangs', WHERE WHAT IT READS IS OF BULK AT MOST 1048576: true; the input reads as it did. -/
def bubbleHangsUptoRow : OpenClaim := { program := "ytdnkinajbebkoaa", sum := "281b43255febe746353c9a84b17800750fe2055b7339259700e42a2978c0c175", func := "quiltmaker/quiltmakerlaw16.BubbleHangs", spec := "bubbleHangs", inPlace := ["internal/bytealg.IndexByteString"], unfollowed := true, recurses := true, apart := false, narrowed := true }
def BubbleHangsUptoSaid : Prop := bubbleHangsUptoRow.holds Try.pinned (OpenSpec.upto bubbleHangsSpec)

/-- 'quiltmakerlaw16.BubbleStays', WHERE WHAT IT READS IS OF BULK AT MOST 1048576: true; the input reads as it did. -/
def bubbleStaysUptoRow : OpenClaim := { program := "ytdnkinajbebkoaa", sum := "281b43255febe746353c9a84b17800750fe2055b7339259700e42a2978c0c175", func := "quiltmaker/quiltmakerlaw16.BubbleStays", spec := "bubbleStays", inPlace := ["internal/bytealg.IndexByteString"], unfollowed := true, recurses := true, apart := false, narrowed := true }
def BubbleStaysUptoSaid : Prop := bubbleStaysUptoRow.holds Try.pinned (OpenSpec.upto bubbleStaysSpec)

/-- 'quiltmakerlaw16.BubbleNeeds', WHERE WHAT IT READS IS OF BULK AT MOST 1048576: true; the input reads as it did. -/
def bubbleNeedsUptoRow : OpenClaim := { program := "ytdnkinajbebkoaa", sum := "281b43255febe746353c9a84b17800750fe2055b7339259700e42a2978c0c175", func := "quiltmaker/quiltmakerlaw16.BubbleNeeds", spec := "bubbleNeeds", inPlace := ["internal/bytealg.IndexByteString"], unfollowed := true, recurses := true, apart := false, narrowed := true }
def BubbleNeedsUptoSaid : Prop := bubbleNeedsUptoRow.holds Try.pinned (OpenSpec.upto bubbleNeedsSpec)

/-- 'quiltmakerlaw16.BubbleNone', WHERE WHAT IT READS IS OF BULK AT MOST 1048576: true; the input reads as it did. -/
def bubbleNoneUptoRow : OpenClaim := { program := "ytdnkinajbebkoaa", sum := "281b43255febe746353c9a84b17800750fe2055b7339259700e42a2978c0c175", func := "quiltmaker/quiltmakerlaw16.BubbleNone", spec := "bubbleNone", inPlace := ["internal/bytealg.IndexByteString"], unfollowed := true, recurses := true, apart := false, narrowed := true }
def BubbleNoneUptoSaid : Prop := bubbleNoneUptoRow.holds Try.pinned (OpenSpec.upto bubbleNoneSpec)

end Rows
end Go.Proofs.Ytdnkinajbebkoaa
