/-
  What the program's own May of layer 8 returns, and the methods that it calls (walks).
-/
import Derived.Test.YtjhjmfodpnipiabGR
import Derived.Test.YtjhjmfodpnipiabGH
import Derived.Test.YtjhjmfodpnipiabGQ
import Derived.BigQuiet
import Derived.Deep.RegionHeld3
import Derived.Deep.Cut
import Derived.Laws.EntriesVeiled
set_option maxRecDepth 100000
namespace Go.Proofs.Ytjhjmfodpnipiab
open Go.RowKit
set_option linter.unusedVariables false
set_option linter.unusedSimpArgs false
namespace Pr
open Tx Df Sq Hk Tr

theorem NameB (x : List UInt8) (w : World) (b : Bool) (hx : x.length ≤ maxLen) (hb : name x = b) : Calls Try.prog 9 #[strV x] w fun e w' => e = .returned (.bool b) ∧ w = w' := by
  have := Name ⟨x.toArray⟩ w (by rw [size_strV]; exact hx)
  rw [← hb]
  simpa using this

theorem below_box1 (w : World) (o : Obj) : Below w.heap.size w (w.alloc o) := (Below.refl _ _).alloc (Nat.le_refl _) _
theorem hv_mv {w w' : World} {A A' : Option Addr} {n c n' c' : Nat} {h : HU} (v : HV w w.heap.size A n c A' n' c' h) (hb : Below w.heap.size w w') : HV w' w'.heap.size A n c A' n' c' h := (v.below hb).up hb.size
theorem hv_none (w : World) (B : Nat) : HV w B none 0 0 none 0 0 noneH := ⟨rfl, rfl, Nat.le_refl _, Nat.le_refl _, Nat.zero_le _, Nat.zero_le _, .inl rfl, .inl rfl, by unfold I64; decide⟩
theorem sameH_none (h : HU) : sameH h noneH = noH h := by
  rw [Bool.eq_iff_iff, noH_iff]
  constructor
  · intro hs
    cases h
    simp only [sameH, noneH, Bool.and_eq_true] at hs ⊢
    obtain ⟨h1, h2, h3⟩ := hs
    obtain rfl := of_decide_eq_true h1
    obtain rfl := of_decide_eq_true h2
    obtain rfl := of_decide_eq_true h3
    rfl
  · rintro rfl
    decide
theorem below_via {w0 w w' : World} (h : Below w0.heap.size w0 w) (hb : Below w.heap.size w w') : Below w0.heap.size w0 w' := h.trans (hb.mono h.size)

/-- Five cells are set. -/
theorem blk5 {W : World} {b : Nat} {t : TypeId} {x0 x1 x2 x3 x4 : Value} (h : Blk W b t #[x0, x1, x2, x3, x4]) (v0 v1 v2 v3 v4 : Value) : Blk (((((World.setCell W ⟨b, 0, none⟩ v0).setCell ⟨b, 1, none⟩ v1).setCell ⟨b, 2, none⟩ v2).setCell ⟨b, 3, none⟩ v3).setCell ⟨b, 4, none⟩ v4) b t #[v0, v1, v2, v3, v4] :=
  have b0 : Blk _ b t #[v0, x1, x2, x3, x4] := h.set 0 v0
  have b1 : Blk _ b t #[v0, v1, x2, x3, x4] := b0.set 1 v1
  have b2 : Blk _ b t #[v0, v1, v2, x3, x4] := b1.set 2 v2
  have b3 : Blk _ b t #[v0, v1, v2, v3, x4] := b2.set 3 v3
  have b4 : Blk _ b t #[v0, v1, v2, v3, v4] := b3.set 4 v4
  b4
theorem below5 {w W : World} {b : Nat} (hb : Below b w W) (v0 v1 v2 v3 v4 : Value) : Below b w (((((World.setCell W ⟨b, 0, none⟩ v0).setCell ⟨b, 1, none⟩ v1).setCell ⟨b, 2, none⟩ v2).setCell ⟨b, 3, none⟩ v3).setCell ⟨b, 4, none⟩ v4) :=
  ((((hb.setCell (p := ⟨b, 0, none⟩) (Nat.le_refl _) v0).setCell (p := ⟨b, 1, none⟩) (Nat.le_refl _) v1).setCell (p := ⟨b, 2, none⟩) (Nat.le_refl _) v2).setCell (p := ⟨b, 3, none⟩) (Nat.le_refl _) v3).setCell (p := ⟨b, 4, none⟩) (Nat.le_refl _) v4

end Pr
end Go.Proofs.Ytjhjmfodpnipiab
