/-
  No cell of these rows narrows 'for every input' (looked for: loops, veiled, ifaces, maps, wideKeys, modest, calm, conditions, laid).
  DERIVED. THE GIVEN ROWS OF THIS SEAT. 5 by the template 'for every input the law returns true; each argument reads behind the call as it read before'; 0 by the template 'total and deterministic' (their statements: YtbiiabfhngdeiaaTotals.lean).
  GIVEN WITH THE SEED: the statements are not yours to turn. If you find one false, say at which input.
  Laid BY PROGRAM, IN A SANDBOX (cutbox-rows.mjs): the forced cells as the released guide's own fill.sh prints them over the translation d88f076e22560332… (all of the seat's roots in one cut). By AI agents, Wed Nov 11 2026. No macro, syntax, notation, axiom, sorry.
-/
import Derived.Test.YtbiiabfhngdeiaaChecked
import GoSem.Claim
import GoSem.ClaimJoined
import GoSem.ClaimMapViews
import Derived.JoinedTies
import Derived.KernelRfl
namespace Go.Proofs.Ytbiiabfhngdeiaa
/- THE CELL 'sum', in the pinned program and in every row, IS THE sha256 OF THE DUMP (.gsa) THAT YtbiiabfhngdeiaaProg.lean LOADS. Nothing in Lean hashes anything: it is a label: what it is worth is what the hold of that sum in a sandbox is worth. -/
noncomputable def Try.pinned : Pinned := { name := "ytbiiabfhngdeiaa", sum := "d88f076e225603324ef38661f05452c6addfb34cd2200007ea70a2b9e478fff7", checked := Try.checked }
namespace Rows
def none {H : Type} : Left H := { results := [], args := [] }

/-- 'quiltmakerlaw15.TradeTells': WHATEVER THE INPUT: true; the input reads as it did. -/
def tradeTellsSpec : ChangeSpec := { name := "tradeTells", fn := fun _ => fun
  | [d1, d2, d3] => { results := [.lit (.bool true)], args := [d1, d2, d3] }
  | _ => none }
def tradeTellsRow : OpenClaim := { program := "ytbiiabfhngdeiaa", sum := "d88f076e225603324ef38661f05452c6addfb34cd2200007ea70a2b9e478fff7", func := "quiltmaker/quiltmakerlaw15.TradeTells", spec := "tradeTells", inPlace := ["internal/bytealg.IndexByteString"], unfollowed := true, recurses := true, apart := false }
def TradeTellsSaid : Prop := tradeTellsRow.holds Try.pinned (OpenSpec.ofChange tradeTellsSpec)

/-- ITS FALSE NEIGHBOUR: 'it returns false'. Refute it at one input. -/
def tradeTellsWrong : ChangeSpec := { name := "tradeTells", fn := fun _ => fun
  | [d1, d2, d3] => { results := [.lit (.bool false)], args := [d1, d2, d3] }
  | _ => none }
def TradeTellsWrongFalsely : Prop := tradeTellsRow.holds Try.pinned (OpenSpec.ofChange tradeTellsWrong)

/-- 'quiltmakerlaw15.TradeSame': WHATEVER THE INPUT: true; the input reads as it did. -/
def tradeSameSpec : ChangeSpec := { name := "tradeSame", fn := fun _ => fun
  | [d1, d2, d3] => { results := [.lit (.bool true)], args := [d1, d2, d3] }
  | _ => none }
def tradeSameRow : OpenClaim := { program := "ytbiiabfhngdeiaa", sum := "d88f076e225603324ef38661f05452c6addfb34cd2200007ea70a2b9e478fff7", func := "quiltmaker/quiltmakerlaw15.TradeSame", spec := "tradeSame", inPlace := ["internal/bytealg.IndexByteString", "slices.overlaps[quiltmaker/api.File]"], unfollowed := true, recurses := true, apart := false }
def TradeSameSaid : Prop := tradeSameRow.holds Try.pinned (OpenSpec.ofChange tradeSameSpec)

/-- ITS FALSE NEIGHBOUR: 'it returns false'. Refute it at one input. -/
def tradeSameWrong : ChangeSpec := { name := "tradeSame", fn := fun _ => fun
  | [d1, d2, d3] => { results := [.lit (.bool false)], args := [d1, d2, d3] }
  | _ => none }
def TradeSameWrongFalsely : Prop := tradeSameRow.holds Try.pinned (OpenSpec.ofChange tradeSameWrong)

/-- 'quiltmakerlaw15.TradeBack': WHATEVER THE INPUT: true; the input reads as it did. -/
def tradeBackSpec : ChangeSpec := { name := "tradeBack", fn := fun _ => fun
  | [d1, d2] => { results := [.lit (.bool true)], args := [d1, d2] }
  | _ => none }
def tradeBackRow : OpenClaim := { program := "ytbiiabfhngdeiaa", sum := "d88f076e225603324ef38661f05452c6addfb34cd2200007ea70a2b9e478fff7", func := "quiltmaker/quiltmakerlaw15.TradeBack", spec := "tradeBack", inPlace := ["internal/bytealg.IndexByteString"], unfollowed := true, recurses := true, apart := false }
def TradeBackSaid : Prop := tradeBackRow.holds Try.pinned (OpenSpec.ofChange tradeBackSpec)

/-- ITS FALSE NEIGHBOUR: 'it returns false'. Refute it at one input. -/
def tradeBackWrong : ChangeSpec := { name := "tradeBack", fn := fun _ => fun
  | [d1, d2] => { results := [.lit (.bool false)], args := [d1, d2] }
  | _ => none }
def TradeBackWrongFalsely : Prop := tradeBackRow.holds Try.pinned (OpenSpec.ofChange tradeBackWrong)

/-- 'quiltmakerlaw15.TradeOver': WHATEVER THE INPUT: true; the input reads as it did. -/
def tradeOverSpec : ChangeSpec := { name := "tradeOver", fn := fun _ => fun
  | [d1, d2, d3] => { results := [.lit (.bool true)], args := [d1, d2, d3] }
  | _ => none }
def tradeOverRow : OpenClaim := { program := "ytbiiabfhngdeiaa", sum := "d88f076e225603324ef38661f05452c6addfb34cd2200007ea70a2b9e478fff7", func := "quiltmaker/quiltmakerlaw15.TradeOver", spec := "tradeOver", inPlace := ["internal/bytealg.IndexByteString", "slices.overlaps[quiltmaker/api.File]"], unfollowed := true, recurses := true, apart := false }
def TradeOverSaid : Prop := tradeOverRow.holds Try.pinned (OpenSpec.ofChange tradeOverSpec)

/-- ITS FALSE NEIGHBOUR: 'it returns false'. Refute it at one input. -/
def tradeOverWrong : ChangeSpec := { name := "tradeOver", fn := fun _ => fun
  | [d1, d2, d3] => { results := [.lit (.bool false)], args := [d1, d2, d3] }
  | _ => none }
def TradeOverWrongFalsely : Prop := tradeOverRow.holds Try.pinned (OpenSpec.ofChange tradeOverWrong)

/-- 'quiltmakerlaw15.TradeDeps': WHATEVER THE INPUT: true; the input reads as it did. -/
def tradeDepsSpec : ChangeSpec := { name := "tradeDeps", fn := fun _ => fun
  | [d1, d2] => { results := [.lit (.bool true)], args := [d1, d2] }
  | _ => none }
def tradeDepsRow : OpenClaim := { program := "ytbiiabfhngdeiaa", sum := "d88f076e225603324ef38661f05452c6addfb34cd2200007ea70a2b9e478fff7", func := "quiltmaker/quiltmakerlaw15.TradeDeps", spec := "tradeDeps", inPlace := ["internal/bytealg.IndexByteString"], unfollowed := true, recurses := true, apart := false }
def TradeDepsSaid : Prop := tradeDepsRow.holds Try.pinned (OpenSpec.ofChange tradeDepsSpec)

/-- ITS FALSE NEIGHBOUR: 'it returns false'. Refute it at one input. -/
def tradeDepsWrong : ChangeSpec := { name := "tradeDeps", fn := fun _ => fun
  | [d1, d2] => { results := [.lit (.bool false)], args := [d1, d2] }
  | _ => none }
def TradeDepsWrongFalsely : Prop := tradeDepsRow.holds Try.pinned (OpenSpec.ofChange tradeDepsWrong)

/- THE SECOND FORM. 'bulk': how many values and letters a reading holds, each counted each time it is reached (what is shared counts as often as it is met; a slice's spare places count too). A statement '..UptoSaid' is the law's where the arguments, and the package variables that the reading takes, are together of bulk at most 1048576: NARROWER than '..Said'. Prove '..Said' where nothing that the law and all that it calls make is longer than what came in: it says more and counts as full. Else prove '..UptoSaid'. A law counts once. -/
mutual
def uptoBulk {H : Type} : DataW H → Nat
  | .lit (.string bytes) => bytes.length + 1
  | .lit _ => 1
  | .nil => 1
  | .ptr d => uptoBulk d + 1
  | .slice elems spare => uptoBulkAll elems + uptoBulkAll spare + 1
  | .agg parts => uptoBulkAll parts + 1
  | .iface _ d => uptoBulk d + 1
  | .map entries => uptoBulkEntries entries + 1
  | .held _ => 1
def uptoBulkAll {H : Type} : List (DataW H) → Nat
  | [] => 0
  | d :: r => uptoBulk d + uptoBulkAll r
def uptoBulkEntries {H : Type} : List (Lit × DataW H) → Nat
  | [] => 0
  | x :: r => uptoBulkEntry x + uptoBulkEntries r
def uptoBulkEntry {H : Type} : Lit × DataW H → Nat
  | (.string bytes, d) => bytes.length + uptoBulk d + 1
  | (_, d) => uptoBulk d + 1
 end
def uptoSmall : (H : Type) → List (DataW H) → Bool := fun _ ds => decide (uptoBulkAll ds ≤ 1048576)
def OpenSpec.upto (s : _root_.Go.ChangeSpec) : _root_.Go.OpenSpec := { _root_.Go.OpenSpec.ofChange s with cond := some uptoSmall }

/-- 'quiltmakerlaw15.TradeTells', WHERE WHAT IT READS IS OF BULK AT MOST 1048576: true; the input reads as it did. -/
def tradeTellsUptoRow : OpenClaim := { program := "ytbiiabfhngdeiaa", sum := "d88f076e225603324ef38661f05452c6addfb34cd2200007ea70a2b9e478fff7", func := "quiltmaker/quiltmakerlaw15.TradeTells", spec := "tradeTells", inPlace := ["internal/bytealg.IndexByteString"], unfollowed := true, recurses := true, apart := false, narrowed := true }
def TradeTellsUptoSaid : Prop := tradeTellsUptoRow.holds Try.pinned (OpenSpec.upto tradeTellsSpec)

/-- 'quiltmakerlaw15.TradeSame', WHERE WHAT IT READS IS OF BULK AT MOST 1048576: true; the input reads as it did. -/
def tradeSameUptoRow : OpenClaim := { program := "ytbiiabfhngdeiaa", sum := "d88f076e225603324ef38661f05452c6addfb34cd2200007ea70a2b9e478fff7", func := "quiltmaker/quiltmakerlaw15.TradeSame", spec := "tradeSame", inPlace := ["internal/bytealg.IndexByteString", "slices.overlaps[quiltmaker/api.File]"], unfollowed := true, recurses := true, apart := false, narrowed := true }
def TradeSameUptoSaid : Prop := tradeSameUptoRow.holds Try.pinned (OpenSpec.upto tradeSameSpec)

/-- 'quiltmakerlaw15.TradeBack', WHERE WHAT IT READS IS OF BULK AT MOST 1048576: true; the input reads as it did. -/
def tradeBackUptoRow : OpenClaim := { program := "ytbiiabfhngdeiaa", sum := "d88f076e225603324ef38661f05452c6addfb34cd2200007ea70a2b9e478fff7", func := "quiltmaker/quiltmakerlaw15.TradeBack", spec := "tradeBack", inPlace := ["internal/bytealg.IndexByteString"], unfollowed := true, recurses := true, apart := false, narrowed := true }
def TradeBackUptoSaid : Prop := tradeBackUptoRow.holds Try.pinned (OpenSpec.upto tradeBackSpec)

/-- 'quiltmakerlaw15.TradeOver', WHERE WHAT IT READS IS OF BULK AT MOST 1048576: true; the input reads as it did. -/
def tradeOverUptoRow : OpenClaim := { program := "ytbiiabfhngdeiaa", sum := "d88f076e225603324ef38661f05452c6addfb34cd2200007ea70a2b9e478fff7", func := "quiltmaker/quiltmakerlaw15.TradeOver", spec := "tradeOver", inPlace := ["internal/bytealg.IndexByteString", "slices.overlaps[quiltmaker/api.File]"], unfollowed := true, recurses := true, apart := false, narrowed := true }
def TradeOverUptoSaid : Prop := tradeOverUptoRow.holds Try.pinned (OpenSpec.upto tradeOverSpec)

/-- 'quiltmakerlaw15.TradeDeps', WHERE WHAT IT READS IS OF BULK AT MOST 1048576: true; the input reads as it did. -/
def tradeDepsUptoRow : OpenClaim := { program := "ytbiiabfhngdeiaa", sum := "d88f076e225603324ef38661f05452c6addfb34cd2200007ea70a2b9e478fff7", func := "quiltmaker/quiltmakerlaw15.TradeDeps", spec := "tradeDeps", inPlace := ["internal/bytealg.IndexByteString"], unfollowed := true, recurses := true, apart := false, narrowed := true }
def TradeDepsUptoSaid : Prop := tradeDepsUptoRow.holds Try.pinned (OpenSpec.upto tradeDepsSpec)

end Rows
end Go.Proofs.Ytbiiabfhngdeiaa
