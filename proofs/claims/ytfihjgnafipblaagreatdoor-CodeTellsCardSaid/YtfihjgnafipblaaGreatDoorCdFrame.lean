/-
  What layer 12's statements ask of the library's own variables: that they hold it (of the rows' lists), and a world that holds it. No function of the program is walked.
-/
import Derived.Test.YtfihjgnafipblaaGreatDoorCards
import Derived.Test.YtfihjgnafipblaaGreatDoorTie
import Derived.Test.YtfihjgnafipblaaGreatDoorShelf
import Derived.Test.YtfihjgnafipblaaGreatDoorCdVars
import Derived.ProofKit
import Derived.OpenShut
import Derived.Deep.DeepHandedRow
import Derived.Deep.DeepWitnessRowRef
import Derived.Deep.DeepLaidRun
import Derived.Stop.LaidErr
set_option maxRecDepth 100000
namespace Go.Proofs.YtfihjgnafipblaaGreatDoor
open Go.RowKit
set_option linter.unusedVariables false
namespace Cd
open Tx

/-- The list of every row. -/
abbrev laidL : List (String × DataW Unit) := [("math/bits.deBruijn32tab", Rows.laid_math_bits_deBruijn32tab), ("math/bits.deBruijn64tab", Rows.laid_math_bits_deBruijn64tab), ("internal/strconv.uint64pow10", Rows.laid_internal_strconv_uint64pow10), ("unicode/utf8.acceptRanges", Rows.laid_unicode_utf8_acceptRanges), ("strconv.ErrRange", Rows.laid_strconv_ErrRange), ("strconv.ErrSyntax", Rows.laid_strconv_ErrSyntax), ("unicode/utf8.first", Rows.laid_unicode_utf8_first)]
theorem own : ownKnob Tryz.prog.godebug = none := by kernel_rfl
theorem gPow : Tryz.prog.globalNamed "internal/strconv.uint64pow10" = some 3 := by kernel_rfl
theorem gPowT : (Tryz.prog.globals[3]?).map (·.type) = some 121 := by kernel_rfl
theorem cPow : Tryz.prog.cellsOf 121 = 20 := by kernel_rfl
theorem c64 : Tryz.prog.cellsOf 98 = 1 := by kernel_rfl
theorem gEr : Tryz.prog.globalNamed "strconv.ErrRange" = some 1 := by kernel_rfl
theorem gErT : (Tryz.prog.globals[1]?).map (·.type) = some 46 := by kernel_rfl
theorem gEs : Tryz.prog.globalNamed "strconv.ErrSyntax" = some 0 := by kernel_rfl
theorem gEsT : (Tryz.prog.globals[0]?).map (·.type) = some 46 := by kernel_rfl
theorem cStr : Tryz.prog.cellsOf 9 = 1 := by kernel_rfl
theorem cErr : Tryz.prog.cellsOf 118 = 1 := by kernel_rfl
theorem star : "*" ++ "errors.errorString" = "*errors.errorString" := by decide
theorem rowErr (u : TypeId) (h : Tryz.prog.typeName? 3 u = some "*errors.errorString") : u = 116 :=
  typeName_ptr_named (nm := "errors.errorString") (by rw [star]; kernel_rfl) (by kernel_rfl) (by decide) u (by rw [star]; exact h)

/-- What the row's list gives, and a world's shape. -/
theorem vars_of {W : World} (hL : laidMetH Tryz.prog laidL W) (hs : W.ShapedOpen Tryz.prog) : Vars W := by
  have h0 : laidMet Tryz.prog laidL W := hL
  have h2 := h0.tail.tail
  have h4 := h2.tail.tail
  refine ⟨Lib.tabIs_of_head gPow gPowT Tryz.underlying121 Tryz.underlying98 c64 cPow h2, ?_, ?_, ?_⟩
  · obtain ⟨a, s, hv, _, _, _⟩ := laid_sentinel h4.tail gEs gEsT Tryz.underlying46 rowErr Tryz.underlying116 Tryz.underlying118 rfl rfl Tryz.underlying9 cErr cStr
    exact ⟨_, _, hv⟩
  · obtain ⟨a, s, hv, _, _, _⟩ := laid_sentinel h4 gEr gErT Tryz.underlying46 rowErr Tryz.underlying116 Tryz.underlying118 rfl rfl Tryz.underlying9 cErr cStr
    exact ⟨_, _, hv⟩
  · exact Tryz.laysM146.s1_3 W hs

/-- A world for the witness: the variables hold what is laid. -/
noncomputable def laidWorld (os : Os) : World :=
  let w0 := World.holding Tryz.prog os ⟨#[], #[], []⟩
  let n := w0.heap.size
  let put (h : Array Obj) (g : Nat) (cs : Array Value) : Array Obj := h.modify g fun
    | .cells _ t frozen => .cells cs t frozen
    | o => o
  let u8 (l : List Nat) : Array Value := (l.map fun (z : Nat) => Value.int .u8 z).toArray
  let h1 := put w0.heap 4 (u8 [0, 1, 28, 2, 29, 14, 24, 3, 30, 22, 20, 15, 25, 17, 4, 8, 31, 27, 13, 23, 21, 19, 16, 7, 26, 12, 18, 6, 11, 5, 10, 9])
  let h2 := put h1 5 (u8 [0, 1, 56, 2, 57, 49, 28, 3, 61, 58, 42, 50, 38, 29, 17, 4, 62, 47, 59, 36, 45, 43, 51, 22, 53, 39, 33, 30, 24, 18, 12, 5, 63, 55, 48, 27, 60, 41, 37, 16, 46, 35, 44, 21, 52, 32, 23, 11, 54, 26, 40, 15, 34, 20, 31, 10, 25, 14, 19, 9, 13, 8, 7, 6])
  let h3 := put h2 3 (Lib.pow10Tab.map fun z => Value.int .u64 z).toArray
  let h4 := put h3 7 (u8 [128, 191, 160, 191, 128, 159, 144, 191, 128, 143, 0, 0, 0, 0, 0, 0, 0, 0, 0, 0, 0, 0, 0, 0, 0, 0, 0, 0, 0, 0, 0, 0])
  let h5 := put h4 6 (u8 Pinned.utf8FirstZ)
  let h6 := put h5 1 #[.iface 116 (.pointer (some ⟨n, 0, none⟩))]
  let h7 := put h6 0 #[.iface 116 (.pointer (some ⟨n + 1, 0, none⟩))]
  { w0 with heap := (h7.push (.cells #[.string ⟨#[118, 97, 108, 117, 101, 32, 111, 117, 116, 32, 111, 102, 32, 114, 97, 110, 103, 101]⟩] 118)).push (.cells #[.string ⟨#[105, 110, 118, 97, 108, 105, 100, 32, 115, 121, 110, 116, 97, 120]⟩] 118) }
set_option maxRecDepth 100000 in
theorem laid_met (os : Os) (args : Array Value) : laidMet Tryz.prog laidL ((laidWorld os).forCall (fun _ _ => 0) ⟨#[], args, []⟩).memory :=
  laidMet_of_run3 10 (by kernel_rfl) (by kernel_rfl) (by kernel_rfl)

end Cd
end Go.Proofs.YtfihjgnafipblaaGreatDoor
