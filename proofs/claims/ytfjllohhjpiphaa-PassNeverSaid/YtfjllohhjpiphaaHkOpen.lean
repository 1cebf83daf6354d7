/-
  What a reading of an argument tells the walks: a hunk by value.
-/
import Derived.Test.YtfjllohhjpiphaaGQ
import Derived.Test.YtfjllohhjpiphaaHkMem
import Derived.Lib.SmallJoins
set_option maxRecDepth 100000
namespace Go.Proofs.Ytfjllohhjpiphaa
open Go.ChangeShapes Go.WideShapes Go.ChangeAt Go.RowKit Go.Deep Go.Joins
set_option linter.unusedVariables false
namespace Hk
open Tx Df

section
variable {H : Type} {enc : TypeId × Value → H} {W : World} {base : Nat} {spare : Nat → Bool} {held : Bool}

theorem hunk_in {r : Reach} {b0 : Nat} {v : Value} {d : DataW H} {p : List MemPlace} (hv : Value.okWide Try.prog W r b0 24 v) (h : DataW.Trod enc Try.prog W base spare held 24 v d p) :
    ∃ A n c A' n' c' h, v = hkV h.pos A n c A' n' c' ∧ HV W W.heap.size A n c A' n' c' h := by
  obtain ⟨v0, v1, v2, y0, y1, y2, m, rfl, _, _, h0, h1, h2⟩ := open_agg3 Try.underlying24 (by kernel_rfl) (by kernel_rfl) hv h
  obtain ⟨q, e0, _, w0⟩ := DataW.trod_int Try.underlying3 h0
  injection e0 with e0
  subst e0
  obtain ⟨A, n, c, l, rfl, s⟩ := strs_any h1
  obtain ⟨A', n', c', l', rfl, s'⟩ := strs_any h2
  exact ⟨A, n, c, A', n', c', ⟨q, l, l'⟩, rfl, ⟨s.len, s'.len, s.cap, s'.cap, s.le, s'.le, s.rd, s'.rd, i64_wf w0⟩⟩
end

end Hk
end Go.Proofs.Ytfjllohhjpiphaa
