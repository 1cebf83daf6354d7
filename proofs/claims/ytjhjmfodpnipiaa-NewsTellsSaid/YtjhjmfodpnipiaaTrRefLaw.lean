/-
  Words for the statements of layer 7: the document's calls, their results under names.
-/
import Derived.Test.YtjhjmfodpnipiaaGU
import Derived.Test.YtjhjmfodpnipiaaGT
import Derived.Test.YtjhjmfodpnipiaaTrRefNames
set_option maxRecDepth 100000
namespace Go.Proofs.Ytjhjmfodpnipiaa
open Go.RowKit
set_option linter.unusedVariables false
namespace Tr
open Tx

theorem fit_of {t : TR} (h : Small t) : ∀ x ∈ t, FitF x := fun x hx => by
  have := h.all x hx
  exact ⟨Nat.le_trans this.n (by decide), Nat.le_trans this.l (by decide), fun l hl => Nat.le_trans (this.s l hl) (by decide)⟩

section
variable {A A' : Option Addr} {n c m c' B : Nat} {t u P : TR} {s : List UInt8} {l L : List (List UInt8)} {w : World} {b : Bool} {k : Nat}
theorem refGetC (hn : t.length = n) (hs : Small t) (hR : RdT w w.heap.size A t) (hL : (get t s).getD [] = L) (hb : (get t s).isSome = b) (hk : L.length = k) : Calls Try.prog 23 #[.slice A n c, strV s] w (GEnd w L k b) := by
  subst hL hb hk
  exact refGet s A c n _ t w hn hs (Nat.le_refl _) hR
theorem refNamesC (h40 : t.length ≤ 40) (h40' : u.length ≤ 40) (hn : t.length = n) (hm : u.length = m) (hs : Small t) (hs' : Small u) (hR : RdT w w.heap.size A t) (hR' : RdT w w.heap.size A' u) (hL : names Op.bytesLess (t.map (·.1) ++ u.map (·.1)) = L) (hk : L.length = k) :
    Calls Try.prog 22 #[.slice A n c, .slice A' m c'] w (LEnd w L k) := by
  subst hL hk
  exact refNames A A' n c m c' _ t u w hn hm (by omega) (by omega) (Nat.le_refl _) hR hR'
theorem refMayC (hn : t.length = n) (hs : Small t) (hR : RdT w w.heap.size A t) (hb : mayT t = b) : Calls Try.prog 21 #[.slice A n c] w (BoolEnd w b) := by
  subst hb
  exact refMayT A c n _ t w hn (by rw [← hn]; exact hs.len) (fit_of hs) (Nat.le_refl _) hR
end

end Tr
end Go.Proofs.Ytjhjmfodpnipiaa
