/-
  Words for a drawn region that calls and boxes two changes: where they lie. No function of the program is walked here.
-/
import Derived.Test.YteiidklmlelabaaPsRef
set_option maxRecDepth 100000
namespace Go.Proofs.Yteiidklmlelabaa
open Go.RowKit
set_option linter.unusedVariables false
namespace Cut2
open Tx Df Sq Hk Tr Pr

theorem bel0 (w : World) : Below w.heap.size w w := Below.refl _ _
theorem bel1 (w : World) (o : Obj) : Below w.heap.size w (w.alloc o) := (Below.refl _ _).alloc (Nat.le_refl _) _
theorem bel2 (w : World) (o o' : Obj) : Below w.heap.size w ((w.alloc o).alloc o') := ((Below.refl _ _).alloc (Nat.le_refl _) _).alloc (by simp) _
theorem belD0 (w : World) : Below w.heap.size w w.drew := below_drewN (bel0 w) 1
theorem belD1 (w : World) (o : Obj) : Below w.heap.size w (w.alloc o).drew := below_drewN (bel1 w o) 1
theorem belD2 (w : World) (o o' : Obj) : Below w.heap.size w ((w.alloc o).alloc o').drew := below_drewN (bel2 w o o') 1
theorem thr {w W u : World} (h : Below w.heap.size w W) (hb : Below W.heap.size W u) : Below w.heap.size w u := h.trans (hb.mono h.size)
theorem thrD0 {w u : World} (hb : Below w.drew.heap.size w.drew u) : Below w.heap.size w u := thr (belD0 w) hb
theorem thrD1 {w u : World} {o : Obj} (hb : Below (w.alloc o).drew.heap.size (w.alloc o).drew u) : Below w.heap.size w u := thr (belD1 w o) hb
theorem thrD2 {w u : World} {o o' : Obj} (hb : Below ((w.alloc o).alloc o').drew.heap.size ((w.alloc o).alloc o').drew u) : Below w.heap.size w u := thr (belD2 w o o') hb
theorem newD1 {w u : World} {t : TypeId} {cs : Array Value} (hb : Below (w.alloc (.cells cs t)).drew.heap.size (w.alloc (.cells cs t)).drew u) : Blk u w.heap.size t cs := ((Blk.new w t cs).drewN 1).below hb (show w.heap.size < (w.alloc (.cells cs t)).heap.size by simp)
theorem newD2 {w u : World} {t t' : TypeId} {cs cs' : Array Value} (hb : Below ((w.alloc (.cells cs t)).alloc (.cells cs' t')).drew.heap.size ((w.alloc (.cells cs t)).alloc (.cells cs' t')).drew u) : Blk u w.heap.size t cs ∧ Blk u (w.heap.size + 1) t' cs' := by
  have h2 := Blk.new (w.alloc (.cells cs t)) t' cs'
  simp only [World.size_alloc] at h2
  exact ⟨(((Blk.new w t cs).alloc (.cells cs' t')).drewN 1).below hb (show w.heap.size < ((w.alloc (.cells cs t)).alloc (.cells cs' t')).heap.size by simp; omega), (h2.drewN 1).below hb (show w.heap.size + 1 < ((w.alloc (.cells cs t)).alloc (.cells cs' t')).heap.size by simp)⟩

/-- Where two changes lie, made since w. -/
def Lay (w W : World) (T U : Nat) (x y : Array Value) : Prop := Blk W T 43 x ∧ Blk W U 43 y ∧ w.heap.size ≤ T ∧ w.heap.size ≤ U ∧ Below w.heap.size w W
section
variable {w u : World} {T U X Y : Nat} {x0 x1 x2 x3 x4 x5 y0 y1 y2 y3 y4 y5 : Value}
theorem Lay.swap {W : World} {x y : Array Value} (h : Lay w W T U x y) : Lay w W U T y x := ⟨h.2.1, h.1, h.2.2.2.1, h.2.2.1, h.2.2.2.2⟩
theorem lay_aa (hw : Below w.heap.size w u) : Lay w ((u.alloc (.cells #[x0, x1, x2, x3, x4, x5] 43)).alloc (.cells #[y0, y1, y2, y3, y4, y5] 43)) u.heap.size (u.heap.size + 1) #[x0, x1, x2, x3, x4, x5] #[y0, y1, y2, y3, y4, y5] := by
  have h2 := Blk.new (u.alloc (.cells #[x0, x1, x2, x3, x4, x5] 43)) 43 #[y0, y1, y2, y3, y4, y5]
  simp only [World.size_alloc] at h2
  exact ⟨(Blk.new u _ _).alloc _, h2, hw.size, Nat.le_succ_of_le hw.size, hw.trans ((bel2 u _ _).mono hw.size)⟩
theorem size_set6 (W : World) (b : Nat) (v0 v1 v2 v3 v4 v5 : Value) : ((((((W.setCell ⟨b, 0, none⟩ v0).setCell ⟨b, 1, none⟩ v1).setCell ⟨b, 2, none⟩ v2).setCell ⟨b, 3, none⟩ v3).setCell ⟨b, 4, none⟩ v4).setCell ⟨b, 5, none⟩ v5).heap.size = W.heap.size := by simp
theorem bel_set6 {N b : Nat} {W : World} (h : Below N w W) (hb : N ≤ b) (v0 v1 v2 v3 v4 v5 : Value) : Below N w ((((((W.setCell ⟨b, 0, none⟩ v0).setCell ⟨b, 1, none⟩ v1).setCell ⟨b, 2, none⟩ v2).setCell ⟨b, 3, none⟩ v3).setCell ⟨b, 4, none⟩ v4).setCell ⟨b, 5, none⟩ v5) :=
  (((((h.setCell (p := ⟨b, 0, none⟩) hb v0).setCell (p := ⟨b, 1, none⟩) hb v1).setCell (p := ⟨b, 2, none⟩) hb v2).setCell (p := ⟨b, 3, none⟩) hb v3).setCell (p := ⟨b, 4, none⟩) hb v4).setCell (p := ⟨b, 5, none⟩) hb v5
theorem lay_sa (hw : Below w.heap.size w u) (hX : Blk u X 43 #[.int .i64 0, strV [], strV [], .int .i64 0, .slice none 0 0, .slice none 0 0]) (hle : w.heap.size ≤ X) :
    Lay w (((((((u.setCell ⟨X, 0, none⟩ x0).setCell ⟨X, 1, none⟩ x1).setCell ⟨X, 2, none⟩ x2).setCell ⟨X, 3, none⟩ x3).setCell ⟨X, 4, none⟩ x4).setCell ⟨X, 5, none⟩ x5).alloc (.cells #[y0, y1, y2, y3, y4, y5] 43)) X u.heap.size #[x0, x1, x2, x3, x4, x5] #[y0, y1, y2, y3, y4, y5] := by
  have h2 := Blk.new ((((((u.setCell ⟨X, 0, none⟩ x0).setCell ⟨X, 1, none⟩ x1).setCell ⟨X, 2, none⟩ x2).setCell ⟨X, 3, none⟩ x3).setCell ⟨X, 4, none⟩ x4).setCell ⟨X, 5, none⟩ x5) 43 #[y0, y1, y2, y3, y4, y5]
  rw [size_set6] at h2
  have hb := bel_set6 hw hle x0 x1 x2 x3 x4 x5
  exact ⟨(blk6 hX _ _ _ _ _ _).alloc _, h2, hle, hw.size, hb.alloc hb.size _⟩
theorem lay_ss (hw : Below w.heap.size w u) (hX : Blk u X 43 #[.int .i64 0, strV [], strV [], .int .i64 0, .slice none 0 0, .slice none 0 0]) (hY : Blk u Y 43 #[.int .i64 0, strV [], strV [], .int .i64 0, .slice none 0 0, .slice none 0 0]) (hne : X ≠ Y) (hle : w.heap.size ≤ X) (hle' : w.heap.size ≤ Y) :
    Lay w ((((((((((((u.setCell ⟨X, 0, none⟩ x0).setCell ⟨X, 1, none⟩ x1).setCell ⟨X, 2, none⟩ x2).setCell ⟨X, 3, none⟩ x3).setCell ⟨X, 4, none⟩ x4).setCell ⟨X, 5, none⟩ x5).setCell ⟨Y, 0, none⟩ y0).setCell ⟨Y, 1, none⟩ y1).setCell ⟨Y, 2, none⟩ y2).setCell ⟨Y, 3, none⟩ y3).setCell ⟨Y, 4, none⟩ y4).setCell ⟨Y, 5, none⟩ y5) X Y #[x0, x1, x2, x3, x4, x5] #[y0, y1, y2, y3, y4, y5] := by
  obtain ⟨z2, z3⟩ := two_set6 hX hY hne x0 x1 x2 x3 x4 x5 y0 y1 y2 y3 y4 y5
  exact ⟨z2, z3, hle, hle', below_set12 hw hle hle' _ _ _ _ _ _ _ _ _ _ _ _⟩
end

end Cut2
end Go.Proofs.Yteiidklmlelabaa
