/-
  Words and contracts, joined: TrPut TrDelT TrSame TrLaw.
-/
import Derived.Test.YtjhjmfodpnipiaaGreatDoorGT
import Derived.Test.YtjhjmfodpnipiaaGreatDoorTrIns
import Derived.Deep.AppendLies
import Derived.Deep.RegionHeld3
import Derived.Test.YtjhjmfodpnipiaaGreatDoorTrDel
import Derived.Test.YtjhjmfodpnipiaaGreatDoorGQ
import Derived.BigQuiet
set_option maxRecDepth 100000
namespace Go.Proofs.YtjhjmfodpnipiaaGreatDoor
open Go.RowKit
set_option linter.unusedVariables false
namespace Tr
open Tx

end Tr
end Go.Proofs.YtjhjmfodpnipiaaGreatDoor

namespace Go.Proofs.YtjhjmfodpnipiaaGreatDoor
open Go.RowKit
set_option linter.unusedVariables false
namespace Tr
open Tx

end Tr
end Go.Proofs.YtjhjmfodpnipiaaGreatDoor

namespace Go.Proofs.YtjhjmfodpnipiaaGreatDoor
open Go.RowKit
set_option linter.unusedVariables false
namespace Tr
open Tx

end Tr
end Go.Proofs.YtjhjmfodpnipiaaGreatDoor

namespace Go.Proofs.YtjhjmfodpnipiaaGreatDoor
open Go.RowKit
set_option linter.unusedVariables false
namespace Tr
open Tx

def SmallL (l : List (List UInt8)) : Prop := l.length ≤ 100000 ∧ ∀ x ∈ l, x.length ≤ 100000
theorem light_small {l : List (List UInt8)} {k : Nat} (h : light l k = true) (hk : k ≤ 1000) : SmallL l := by
  simp only [light, Bool.and_eq_true, decide_eq_true_eq, List.all_eq_true] at h
  exact ⟨by omega, fun x hx => by have := h.2 x hx; omega⟩
theorem small_put {t : TR} {s : List UInt8} {l : List (List UInt8)} {k : Nat} (h : Small t) (hk : t.length ≤ k) (hk2 : k + 1 ≤ 100000) (hs : s.length ≤ 100000) (hl : SmallL l) : Small (put Op.bytesLess t s l) ∧ (put Op.bytesLess t s l).length ≤ k + 1 := by
  have hle : (put Op.bytesLess t s l).length ≤ k + 1 := by rw [put_len]; split <;> omega
  refine ⟨⟨by omega, fun x hx => ?_⟩, hle⟩
  rcases put_mem hx with rfl | hx
  · exact ⟨hs, hl.1, hl.2⟩
  · exact h.all x hx
theorem small_del {t : TR} {s : List UInt8} {k : Nat} (h : Small t) (hk : t.length ≤ k) : Small (del t s) ∧ (del t s).length ≤ k := by
  have hs := del_sub t s
  exact ⟨⟨Nat.le_trans hs.length_le h.len, fun x hx => h.all x (hs.subset hx)⟩, Nat.le_trans hs.length_le hk⟩
theorem small_get {t : TR} {s : List UInt8} (h : Small t) : SmallL ((get t s).getD []) := by
  cases hg : get t s with
  | none => exact ⟨by simp, fun x hx => by simp at hx⟩
  | some l => have := h.all _ (get_mem hg); exact ⟨this.l, this.s⟩

theorem small_names {t u : TR} (h : Small t) (h' : Small u) (hk : t.length ≤ 40) (hk' : u.length ≤ 40) : SmallL (names Op.bytesLess (t.map (·.1) ++ u.map (·.1))) := by
  refine ⟨?_, fun x hx => ?_⟩
  · have := names_len (lt := Op.bytesLess) (t.map (·.1) ++ u.map (·.1))
    rw [List.length_append, List.length_map, List.length_map] at this
    omega
  · rw [names_mem, List.mem_append] at hx
    rcases hx with hx | hx
    · obtain ⟨y, hy, rfl⟩ := List.mem_map.1 hx; exact (h.all y hy).n
    · obtain ⟨y, hy, rfl⟩ := List.mem_map.1 hx; exact (h'.all y hy).n

section
variable {A A' : Option Addr} {n c m c' B : Nat} {t u P : TR} {s : List UInt8} {l L : List (List UInt8)} {w : World} {b : Bool} {k : Nat}
/-- How a call ends that makes the tree P of k files. -/
def TEnd (w : World) (P : TR) (k : Nat) (e : Ending) (w' : World) : Prop := ∃ A c, e = .returned (.slice A k c) ∧ k ≤ c ∧ RdT w' w'.heap.size A P ∧ Below w.heap.size w w'
def LEnd (w : World) (L : List (List UInt8)) (k : Nat) (e : Ending) (w' : World) : Prop := ∃ A c, e = .returned (.slice A k c) ∧ k ≤ c ∧ RdS w' w'.heap.size A L ∧ Below w.heap.size w w'
def GEnd (w : World) (L : List (List UInt8)) (k : Nat) (b : Bool) (e : Ending) (w' : World) : Prop := ∃ A c, e = .returned (.tuple #[.slice A k c, .bool b]) ∧ k ≤ c ∧ RdS w' w'.heap.size A L ∧ Below w.heap.size w w'
theorem SameSC (hn : l.length = n) (hm : L.length = m) (hn5 : n ≤ 100000) (hR : RdS w w.heap.size A l) (hR' : RdS w w.heap.size A' L) (hb : decide (l = L) = b) : Calls Tryz.prog 58 #[.slice A n c, .slice A' m c'] w (BoolEnd w b) := by
  subst hb
  refine (Tx.Same A A' c c' n m _ l L w hn hm (Nat.le_trans hn5 (by decide)) hR hR').mono ?_
  rintro e w' ⟨rfl, d, rfl⟩
  exact ⟨rfl, below_drewN (Below.refl _ _) d⟩
end

theorem RdT.mv {w w' : World} {A : Option Addr} {t : TR} (h : RdT w w.heap.size A t) (hb : Below w.heap.size w w') : RdT w' w'.heap.size A t := (h.below hb).up hb.size
theorem rdS_mv {w w' : World} {A : Option Addr} {l : List (List UInt8)} (h : RdS w w.heap.size A l) (hb : Below w.heap.size w w') : RdS w' w'.heap.size A l := (Rd.below h hb).up hb.size
theorem below_mv {w0 w w' : World} (h : Below w0.heap.size w0 w) (hb : Below w.heap.size w w') : Below w0.heap.size w0 w' := h.trans (hb.mono h.size)

end Tr
end Go.Proofs.YtjhjmfodpnipiaaGreatDoor
