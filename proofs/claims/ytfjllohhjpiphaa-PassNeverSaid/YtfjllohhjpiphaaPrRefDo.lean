/-
  What the document's own Apply of layer 8 returns (walk).
-/
import Derived.Test.YtfjllohhjpiphaaPrRef2
import Derived.Test.YtfjllohhjpiphaaPrRefTurn
import Derived.Test.YtfjllohhjpiphaaTrRefDel
import Derived.Test.YtfjllohhjpiphaaTrRefPut
import Derived.Deep.RegionHeld3
set_option maxRecDepth 100000
namespace Go.Proofs.Ytfjllohhjpiphaa
open Go.RowKit
set_option linter.unusedVariables false
set_option linter.unusedSimpArgs false
namespace Pr
open Tx Df Sq Hk Tr

/-- How a call ends that changes a tree: the error and the tree. -/
def DoEnd (w : World) (r : Int × TR) (e : Ending) (w' : World) : Prop :=
  ∃ A k c, e = .returned (.tuple #[.slice A k c, .int .i64 r.1]) ∧ k ≤ c ∧ r.2.length = k ∧ RdT w' w'.heap.size A r.2 ∧ Below w.heap.size w w'
theorem doEnd_err {w w' : World} {r : Int × TR} {i : Int} (h : r = (i, [])) (hb : Below w.heap.size w w') : DoEnd w r (.returned (.tuple #[.slice none 0 0, .int .i64 i])) w' := by
  subst h
  exact ⟨none, 0, 0, rfl, Nat.le_refl _, rfl, .inl rfl, hb⟩
theorem doEnd_ok {w w' : World} {r : Int × TR} {P : TR} {A : Option Addr} {c : Nat} (h : r = (0, P)) (hc : P.length ≤ c) (hR : RdT w' w'.heap.size A P) (hb : Below w.heap.size w w') : DoEnd w r (.returned (.tuple #[.slice A P.length c, .int .i64 0])) w' := by
  subst h
  exact ⟨A, P.length, c, rfl, hc, rfl, hR, hb⟩
theorem rdT_mv {w w' : World} {A : Option Addr} {t : TR} (h : RdT w w.heap.size A t) (hb : Below w.heap.size w w') : RdT w' w'.heap.size A t := (h.below hb).up hb.size
theorem rdS_to {w w' : World} {A : Option Addr} {l : List (List UInt8)} (h : RdS w w.heap.size A l) (hb : Below w.heap.size w w') : RdS w' w'.heap.size A l := (Rd.below h hb).up hb.size
theorem below_to {w0 w w' : World} (h : Below w0.heap.size w0 w) (hb : Below w.heap.size w w') : Below w0.heap.size w0 w' := h.trans (hb.mono h.size)

/-- What a change does to a tree, from what is told of its file. -/
def doG (t : TR) (p : Ch) (g : Option (List (List UInt8))) : Int × TR :=
  match g with
  | none => (5, [])
  | some l =>
    if p.k = 1 then (if l = [] then (0, del t p.nm) else (5, []))
    else if p.k = 2 then (if (get t p.to).isSome then (5, []) else (0, put lt (del t p.nm) p.to l))
    else if lineE l p = 0 then (0, put lt t p.nm (lineL l p)) else (lineE l p, [])

theorem lightT_get {t : TR} {s : List UInt8} {l : List (List UInt8)} (h : lightT t = true) (hg : get t s = some l) : l.length ≤ 300 := by
  have hm := get_mem hg
  simp only [lightT, Bool.and_eq_true, decide_eq_true_eq, List.all_eq_true] at h
  have := (h.2 _ hm).1
  simp only [light, Bool.and_eq_true, decide_eq_true_eq] at this
  exact this.1
theorem lightP_h {p : Ch} (h : lightP p = true) : p.h.old.length ≤ 300 ∧ p.h.new.length ≤ 300 := by
  simp only [lightP, light, Bool.and_eq_true, decide_eq_true_eq] at h
  exact ⟨h.1.1.1, h.1.2.1⟩


end Pr
end Go.Proofs.Ytfjllohhjpiphaa
