/-
  Words and contracts, joined: TrPut TrDelT TrSame TrLaw.
-/
import Derived.Test.YtjhjmfodpnipiabGT
import Derived.Test.YtjhjmfodpnipiabTrIns
import Derived.Deep.AppendLies
import Derived.Deep.RegionHeld3
import Derived.Test.YtjhjmfodpnipiabTrDel
import Derived.Test.YtjhjmfodpnipiabGQ
import Derived.BigQuiet
set_option maxRecDepth 100000
namespace Go.Proofs.Ytjhjmfodpnipiab
open Go.RowKit
set_option linter.unusedVariables false
namespace Tr
open Tx

/-- A file in the place of another one. -/
theorem put_upd {w w4 : World} {g n k h m : Nat} {t : TR} {xs : List Value} {s : List UInt8} {l : List (List UInt8)} (hrow : w4.ownsRow w.heap.size 37 2 (.slice (some ⟨g, 0, none⟩) n n) n xs) (hF : FCells w4 (some g) t xs) (hn : t.length = n) (hi : ixF (isN s) t = some k)
    (hm : l.length = m) (hr : RdX w4 (some g) (some ⟨h, 0, none⟩) l) (hb : Below w.heap.size w w4) :
    TreeEnd w (upd t s l) (.returned (.slice (some ⟨g, 0, none⟩) n n)) ((w4.setCell ⟨g, k * 2, none⟩ (strV s)).setCell ⟨g, k * 2 + 1, none⟩ (.slice (some ⟨h, 0, none⟩) m m)) := by
  subst hm
  obtain ⟨hk, _⟩ := ixF_some hi
  have hu := upd_set (l := l) hi
  obtain ⟨⟨xs', r1, r2⟩, r3⟩ := store_file (k := k) (t2 := upd t s l) (x := (s, l)) (A := some ⟨h, 0, none⟩) (c := l.length) hrow hF (fun j y hne hy => by
      rw [hu, List.getElem?_set_ne (fun e => hne e.symm)] at hy
      exact hy) (fun y hy => by
      rw [hu, List.getElem?_set_self hk] at hy
      injection hy with hy
      exact hy.symm) (by omega) (Nat.le_refl _) hr
  have hlen : (upd t s l).length = n := by rw [upd_len]; exact hn
  refine treeEnd_own (base := w.heap.size) ⟨xs', by rw [hlen]; exact r1, r2⟩ ?_
  have hg : w.heap.size ≤ g := (hrow.lt g rfl).1
  exact (hb.setCell (p := ⟨g, k * 2, none⟩) hg _).setCell (p := ⟨g, k * 2 + 1, none⟩) hg _

/-- One file more. -/
theorem put_ins {w w4 W W' : World} {g n p h m : Nat} {t : TR} {xs : List Value} {s : List UInt8} {l : List (List UInt8)} {e : Ending} (hxl : xs.length = n * 2) (hF : FCells w4 (some g) t xs) (hn : t.length = n) (hp : (ixF (gtN s) t).getD n = p)
    (hm : l.length = m) (hr : RdX w4 (some g) (some ⟨h, 0, none⟩) l) (hb : Below w.heap.size w w4) (hbW : Below w4.heap.size w4 W) (he : InsEnd W n p xs [strV s, .slice (some ⟨h, 0, none⟩) m m] e W') :
    TreeEnd w (ins Op.bytesLess t s l) e W' := by
  obtain ⟨g', cap, rfl, hown, hb2⟩ := he
  have hpl : p ≤ t.length := by rw [← hp, ← hn]; exact place_le
  have hF2 := (hF.ins (s := s) (by rw [hn]; exact hxl) hpl hm (Nat.le_refl _) hr)
  have hi : ins Op.bytesLess t s l = t.take p ++ (s, l) :: t.drop p := by rw [ins_ix, ← hn] at *; rw [hp]
  have hsz : w.heap.size ≤ W.heap.size := Nat.le_trans hb.size hbW.size
  have hF3 := hF2.turn (W' := W') (row' := some g') (hbW.trans (hb2.mono hbW.size)) (fun g0 e => by injection e with e; subst e; exact Nat.le_trans hbW.size (hown.lt g' rfl).1)
  rw [← hi] at hF3
  have hlen : (ins Op.bytesLess t s l).length = n + 1 := by rw [ins_len, hn]
  exact treeEnd_own (base := W.heap.size) ⟨_, by rw [hlen]; exact hown, hF3⟩ ((hb.trans (hbW.mono hb.size)).trans (hb2.mono hsz))

end Tr
end Go.Proofs.Ytjhjmfodpnipiab

namespace Go.Proofs.Ytjhjmfodpnipiab
open Go.RowKit
set_option linter.unusedVariables false
namespace Tr
open Tx

theorem del_end {w w4 w' : World} {g n k : Nat} {t : TR} {xs : List Value} {s : List UInt8} {e : Ending} (hrow : w4.ownsRow w.heap.size 37 2 (.slice (some ⟨g, 0, none⟩) n n) n xs) (hF : FCells w4 (some g) t xs) (hn : t.length = n) (hi : ixF (isN s) t = some k) (hb : Below w.heap.size w w4)
    (he : DeleteEnd w4 w.heap.size g n k xs e w') : TreeEnd w (del t s) e w' := by
  obtain ⟨rfl, ho, hg⟩ := he
  obtain ⟨hk, h1, _, h3⟩ := get_ix hi
  have hd := del_at hk h1 h3
  have hlen : (del t s).length = k + (n - (k + 1)) := by rw [hd, List.length_append, List.length_take, List.length_drop]; omega
  have hF2 := (hF.gr hg).del (p := k) (by rw [hn]; exact hrow.1) (Nat.le_of_lt hk)
  rw [← hd] at hF2
  refine treeEnd_own (base := w.heap.size) ⟨_, by rw [hlen]; exact ho, hF2⟩ (hb.grown hg (Nat.le_trans hb.size (Nat.le_refl _)) fun j e => by injection e with e; subst e; exact (hrow.lt _ rfl).1)

end Tr
end Go.Proofs.Ytjhjmfodpnipiab

namespace Go.Proofs.Ytjhjmfodpnipiab
open Go.RowKit
set_option linter.unusedVariables false
namespace Tr
open Tx

end Tr
end Go.Proofs.Ytjhjmfodpnipiab

namespace Go.Proofs.Ytjhjmfodpnipiab
open Go.RowKit
set_option linter.unusedVariables false
namespace Tr
open Tx

def SmallL (l : List (List UInt8)) : Prop := l.length ≤ 100000 ∧ ∀ x ∈ l, x.length ≤ 100000
theorem light_small {l : List (List UInt8)} {k : Nat} (h : light l k = true) (hk : k ≤ 1000) : SmallL l := by
  simp only [light, Bool.and_eq_true, decide_eq_true_eq, List.all_eq_true] at h
  exact ⟨by omega, fun x hx => by have := h.2 x hx; omega⟩
theorem small_put {t : TR} {s : List UInt8} {l : List (List UInt8)} {k : Nat} (h : Small t) (hk : t.length ≤ k) (hk2 : k + 1 ≤ 100000) (hs : s.length ≤ 100000) (hl : SmallL l) : Small (put Op.bytesLess t s l) ∧ (put Op.bytesLess t s l).length ≤ k + 1 := by
  have hle : (put Op.bytesLess t s l).length ≤ k + 1 := by rw [put_len]; split <;> omega
  refine ⟨⟨by omega, fun x hx => ?_⟩, hle⟩
  rcases put_mem hx with rfl | hx
  · exact ⟨hs, hl.1, hl.2⟩
  · exact h.all x hx
theorem small_del {t : TR} {s : List UInt8} {k : Nat} (h : Small t) (hk : t.length ≤ k) : Small (del t s) ∧ (del t s).length ≤ k := by
  have hs := del_sub t s
  exact ⟨⟨Nat.le_trans hs.length_le h.len, fun x hx => h.all x (hs.subset hx)⟩, Nat.le_trans hs.length_le hk⟩
theorem small_get {t : TR} {s : List UInt8} (h : Small t) : SmallL ((get t s).getD []) := by
  cases hg : get t s with
  | none => exact ⟨by simp, fun x hx => by simp at hx⟩
  | some l => have := h.all _ (get_mem hg); exact ⟨this.l, this.s⟩

theorem small_names {t u : TR} (h : Small t) (h' : Small u) (hk : t.length ≤ 40) (hk' : u.length ≤ 40) : SmallL (names Op.bytesLess (t.map (·.1) ++ u.map (·.1))) := by
  refine ⟨?_, fun x hx => ?_⟩
  · have := names_len (lt := Op.bytesLess) (t.map (·.1) ++ u.map (·.1))
    rw [List.length_append, List.length_map, List.length_map] at this
    omega
  · rw [names_mem, List.mem_append] at hx
    rcases hx with hx | hx
    · obtain ⟨y, hy, rfl⟩ := List.mem_map.1 hx; exact (h.all y hy).n
    · obtain ⟨y, hy, rfl⟩ := List.mem_map.1 hx; exact (h'.all y hy).n

section
variable {A A' : Option Addr} {n c m c' B : Nat} {t u P : TR} {s : List UInt8} {l L : List (List UInt8)} {w : World} {b : Bool} {k : Nat}
/-- How a call ends that makes the tree P of k files. -/
def TEnd (w : World) (P : TR) (k : Nat) (e : Ending) (w' : World) : Prop := ∃ A c, e = .returned (.slice A k c) ∧ k ≤ c ∧ RdT w' w'.heap.size A P ∧ Below w.heap.size w w'
def LEnd (w : World) (L : List (List UInt8)) (k : Nat) (e : Ending) (w' : World) : Prop := ∃ A c, e = .returned (.slice A k c) ∧ k ≤ c ∧ RdS w' w'.heap.size A L ∧ Below w.heap.size w w'
def GEnd (w : World) (L : List (List UInt8)) (k : Nat) (b : Bool) (e : Ending) (w' : World) : Prop := ∃ A c, e = .returned (.tuple #[.slice A k c, .bool b]) ∧ k ≤ c ∧ RdS w' w'.heap.size A L ∧ Below w.heap.size w w'
theorem GetC (hn : t.length = n) (hs : Small t) (hR : RdT w w.heap.size A t) (hL : (get t s).getD [] = L) (hb : (get t s).isSome = b) (hk : L.length = k) : Calls Try.prog 19 #[.slice A n c, strV s] w (GEnd w L k b) := by
  subst hL hb hk
  exact Get s A c n _ t w hn hs.wide (Nat.le_refl _) hR
theorem MayC (hn : t.length = n) (hs : Small t) (hR : RdT w w.heap.size A t) (hb : mayT t = b) : Calls Try.prog 6 #[.slice A n c] w (BoolEnd w b) := by
  subst hb
  exact May A c n _ t w hn (small_fit hs) (Nat.le_refl _) hR
end

theorem RdT.mv {w w' : World} {A : Option Addr} {t : TR} (h : RdT w w.heap.size A t) (hb : Below w.heap.size w w') : RdT w' w'.heap.size A t := (h.below hb).up hb.size
theorem rdS_mv {w w' : World} {A : Option Addr} {l : List (List UInt8)} (h : RdS w w.heap.size A l) (hb : Below w.heap.size w w') : RdS w' w'.heap.size A l := (Rd.below h hb).up hb.size
theorem below_mv {w0 w w' : World} (h : Below w0.heap.size w0 w) (hb : Below w.heap.size w w') : Below w0.heap.size w0 w' := h.trans (hb.mono h.size)

end Tr
end Go.Proofs.Ytjhjmfodpnipiab
