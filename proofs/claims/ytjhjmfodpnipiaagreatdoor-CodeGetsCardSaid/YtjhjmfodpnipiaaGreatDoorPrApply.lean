/-
  What the program's own Apply of layer 8 returns, and the methods that it calls (walks).
-/
import Derived.Test.YtjhjmfodpnipiaaGreatDoorPrMay
import Derived.Test.YtjhjmfodpnipiaaGreatDoorGR
import Derived.Test.YtjhjmfodpnipiaaGreatDoorGT
import Derived.Test.YtjhjmfodpnipiaaGreatDoorGU
import Derived.Test.YtjhjmfodpnipiaaGreatDoorGH
import Derived.Deep.RegionHeld3
import Derived.Deep.Cut
import Derived.Laws.EntriesVeiled
set_option maxRecDepth 100000
namespace Go.Proofs.YtjhjmfodpnipiaaGreatDoor
open Go.RowKit
set_option linter.unusedVariables false
set_option linter.unusedSimpArgs false
namespace Pr
open Tx Df Sq Hk Tr

theorem wide_get {t : TR} {s : List UInt8} {l : List (List UInt8)} (h : Wide t) (hg : get t s = some l) : l.length ≤ 8796093021952 := h.all _ (get_mem hg)
theorem wide_del {t : TR} (h : Wide t) (s : List UInt8) : Wide (del t s) := ⟨Nat.le_trans (del_sub t s).length_le h.len, fun x hx => h.all x ((del_sub t s).subset hx)⟩


theorem doP_g (t : TR) (p : Ch) (h : mayP p = true) (hk : p.k ≠ 0) : doP t p = doG t p (get t p.nm) := by
  unfold doP
  rw [if_neg (by rw [h]; decide), if_neg hk]
  rfl
theorem doP_add (t : TR) (p : Ch) (h : mayP p = true) (hk : p.k = 0) : doP t p = if (get t p.nm).isSome then (5, []) else (0, put lt t p.nm []) := by
  unfold doP
  rw [if_neg (by rw [h]; decide), if_pos hk]

end Pr
end Go.Proofs.YtjhjmfodpnipiaaGreatDoor
