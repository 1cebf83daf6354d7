/-
  Words for the statement PassTurns: where two changes lie that a drawn region makes. No program is walked.
-/
import Derived.Test.YtfjllohhjpiphaaPsRef
import Derived.Test.YtfjllohhjpiphaaPsCode
set_option maxRecDepth 100000
namespace Go.Proofs.Ytfjllohhjpiphaa
open Go.RowKit
set_option linter.unusedVariables false
namespace PsT
open Tx Df Sq Hk Tr Pr

theorem bel0 (w : World) : Below w.heap.size w w := Below.refl _ _
theorem bel1 (w : World) (o : Obj) : Below w.heap.size w (w.alloc o) := (Below.refl _ _).alloc (Nat.le_refl _) _
theorem bel2 (w : World) (o o' : Obj) : Below w.heap.size w ((w.alloc o).alloc o') := ((Below.refl _ _).alloc (Nat.le_refl _) _).alloc (by simp) _
theorem belD0 (w : World) : Below w.heap.size w w.drew := below_drewN (bel0 w) 1
theorem belD1 (w : World) (o : Obj) : Below w.heap.size w (w.alloc o).drew := below_drewN (bel1 w o) 1
theorem belD2 (w : World) (o o' : Obj) : Below w.heap.size w ((w.alloc o).alloc o').drew := below_drewN (bel2 w o o') 1
theorem lt1 (w : World) (o : Obj) : w.heap.size < (w.alloc o).heap.size := by simp
theorem lt2 (w : World) (o o' : Obj) : w.heap.size < ((w.alloc o).alloc o').heap.size := by simp; omega
theorem lt2' (w : World) (o o' : Obj) : w.heap.size + 1 < ((w.alloc o).alloc o').heap.size := by simp
theorem thr {w W u : World} (h : Below w.heap.size w W) (hb : Below W.heap.size W u) : Below w.heap.size w u := h.trans (hb.mono h.size)
theorem thr0 {w u : World} (hb : Below w.heap.size w u) : Below w.heap.size w u := hb
theorem thr1 {w u : World} {o : Obj} (hb : Below (w.alloc o).heap.size (w.alloc o) u) : Below w.heap.size w u := thr (bel1 w o) hb
theorem thr2 {w u : World} {o o' : Obj} (hb : Below ((w.alloc o).alloc o').heap.size ((w.alloc o).alloc o') u) : Below w.heap.size w u := thr (bel2 w o o') hb
theorem thrD0 {w u : World} (hb : Below w.drew.heap.size w.drew u) : Below w.heap.size w u := thr (belD0 w) hb
theorem thrD1 {w u : World} {o : Obj} (hb : Below (w.alloc o).drew.heap.size (w.alloc o).drew u) : Below w.heap.size w u := thr (belD1 w o) hb
theorem thrD2 {w u : World} {o o' : Obj} (hb : Below ((w.alloc o).alloc o').drew.heap.size ((w.alloc o).alloc o').drew u) : Below w.heap.size w u := thr (belD2 w o o') hb
theorem new1 {w u : World} {t : TypeId} {cs : Array Value} (hb : Below (w.alloc (.cells cs t)).heap.size (w.alloc (.cells cs t)) u) : Blk u w.heap.size t cs := (Blk.new w t cs).below hb (by simp)
theorem newD1 {w u : World} {t : TypeId} {cs : Array Value} (hb : Below (w.alloc (.cells cs t)).drew.heap.size (w.alloc (.cells cs t)).drew u) : Blk u w.heap.size t cs := ((Blk.new w t cs).drewN 1).below hb (show w.heap.size < (w.alloc (.cells cs t)).heap.size by simp)
theorem new2 {w u : World} {t t' : TypeId} {cs cs' : Array Value} (hb : Below ((w.alloc (.cells cs t)).alloc (.cells cs' t')).heap.size ((w.alloc (.cells cs t)).alloc (.cells cs' t')) u) : Blk u w.heap.size t cs ∧ Blk u (w.heap.size + 1) t' cs' := by
  have h2 := Blk.new (w.alloc (.cells cs t)) t' cs'
  simp only [World.size_alloc] at h2
  exact ⟨((Blk.new w t cs).alloc (.cells cs' t')).below hb (by simp; omega), h2.below hb (by simp)⟩
theorem newD2 {w u : World} {t t' : TypeId} {cs cs' : Array Value} (hb : Below ((w.alloc (.cells cs t)).alloc (.cells cs' t')).drew.heap.size ((w.alloc (.cells cs t)).alloc (.cells cs' t')).drew u) : Blk u w.heap.size t cs ∧ Blk u (w.heap.size + 1) t' cs' := by
  have h2 := Blk.new (w.alloc (.cells cs t)) t' cs'
  simp only [World.size_alloc] at h2
  exact ⟨(((Blk.new w t cs).alloc (.cells cs' t')).drewN 1).below hb (show w.heap.size < ((w.alloc (.cells cs t)).alloc (.cells cs' t')).heap.size by simp; omega), (h2.drewN 1).below hb (show w.heap.size + 1 < ((w.alloc (.cells cs t)).alloc (.cells cs' t')).heap.size by simp)⟩
theorem pv_up {w W : World} {A A' : Option Addr} {n c n' c' : Nat} {p : Ch} (hv : PV w w.heap.size A n c A' n' c' p) (hb : Below w.heap.size w W) : PV W W.heap.size A n c A' n' c' p := hv.mv hb

abbrev Hi4 (lo : Nat) (A B D E : Option Addr) : Prop := Hi lo A ∧ Hi lo B ∧ Hi lo D ∧ Hi lo E
theorem Hi4.swap {lo : Nat} {A B D E : Option Addr} (h : Hi4 lo A B D E) : Hi4 lo D E A B := ⟨h.2.2.1, h.2.2.2, h.1, h.2.1⟩

/-- Where two changes lie. -/
def Lay (w W : World) (T U : Nat) (A : Option Addr) (n c : Nat) (B : Option Addr) (m d : Nat) (x : Ch) (D : Option Addr) (i j : Nat) (E : Option Addr) (k l : Nat) (y : Ch) : Prop :=
  Blk W T 26 #[.int .i64 x.k, strV x.nm, strV x.to, .int .i64 x.h.pos, .slice A n c, .slice B m d] ∧ Blk W U 26 #[.int .i64 y.k, strV y.nm, strV y.to, .int .i64 y.h.pos, .slice D i j, .slice E k l] ∧
    PV W W.heap.size A n c B m d x ∧ PV W W.heap.size D i j E k l y ∧ Below w.heap.size w W
section
variable {w u : World} {T U X Y lo : Nat} {A B D E : Option Addr} {n c m d i j k l : Nat} {x y : Ch}
theorem Lay.swap {W : World} (h : Lay w W T U A n c B m d x D i j E k l y) : Lay w W U T D i j E k l y A n c B m d x := ⟨h.2.1, h.1, h.2.2.2.1, h.2.2.1, h.2.2.2.2⟩
theorem lay_aa (hw : Below w.heap.size w u) (v4 : PV u u.heap.size A n c B m d x) (v5 : PV u u.heap.size D i j E k l y) :
    Lay w ((u.alloc (.cells #[.int .i64 x.k, strV x.nm, strV x.to, .int .i64 x.h.pos, .slice A n c, .slice B m d] 26)).alloc (.cells #[.int .i64 y.k, strV y.nm, strV y.to, .int .i64 y.h.pos, .slice D i j, .slice E k l] 26)) u.heap.size (u.heap.size + 1) A n c B m d x D i j E k l y := by
  have h2 := Blk.new (u.alloc (.cells #[.int .i64 x.k, strV x.nm, strV x.to, .int .i64 x.h.pos, .slice A n c, .slice B m d] 26)) 26 #[.int .i64 y.k, strV y.nm, strV y.to, .int .i64 y.h.pos, .slice D i j, .slice E k l]
  simp only [World.size_alloc] at h2
  exact ⟨(Blk.new u _ _).alloc _, h2, pv_up v4 (bel2 u _ _), pv_up v5 (bel2 u _ _), hw.trans ((bel2 u _ _).mono hw.size)⟩
theorem pv_alc {W : World} {N : Nat} (hv : PV W N A n c B m d x) (hB : N ≤ W.heap.size) (o : Obj) : PV (W.alloc o) (W.alloc o).heap.size A n c B m d x := (hv.below ((Below.refl _ _).alloc hB o)).up (Nat.le_trans hB (by simp))
theorem size_set6 (W : World) (b : Nat) (v0 v1 v2 v3 v4 v5 : Value) : ((((((W.setCell ⟨b, 0, none⟩ v0).setCell ⟨b, 1, none⟩ v1).setCell ⟨b, 2, none⟩ v2).setCell ⟨b, 3, none⟩ v3).setCell ⟨b, 4, none⟩ v4).setCell ⟨b, 5, none⟩ v5).heap.size = W.heap.size := by simp
theorem bel_set6 {N b : Nat} {W : World} (h : Below N w W) (hb : N ≤ b) (v0 v1 v2 v3 v4 v5 : Value) : Below N w ((((((W.setCell ⟨b, 0, none⟩ v0).setCell ⟨b, 1, none⟩ v1).setCell ⟨b, 2, none⟩ v2).setCell ⟨b, 3, none⟩ v3).setCell ⟨b, 4, none⟩ v4).setCell ⟨b, 5, none⟩ v5) :=
  (((((h.setCell (p := ⟨b, 0, none⟩) hb v0).setCell (p := ⟨b, 1, none⟩) hb v1).setCell (p := ⟨b, 2, none⟩) hb v2).setCell (p := ⟨b, 3, none⟩) hb v3).setCell (p := ⟨b, 4, none⟩) hb v4).setCell (p := ⟨b, 5, none⟩) hb v5
theorem lay_sa (hw : Below w.heap.size w u) (hX : Blk u X 26 #[.int .i64 0, strV [], strV [], .int .i64 0, .slice none 0 0, .slice none 0 0]) (hle : w.heap.size ≤ X) (hlo : X < lo) (hi : Hi4 lo A B D E) (v4 : PV u u.heap.size A n c B m d x) (v5 : PV u u.heap.size D i j E k l y) :
    Lay w (((((((u.setCell ⟨X, 0, none⟩ (.int .i64 x.k)).setCell ⟨X, 1, none⟩ (strV x.nm)).setCell ⟨X, 2, none⟩ (strV x.to)).setCell ⟨X, 3, none⟩ (.int .i64 x.h.pos)).setCell ⟨X, 4, none⟩ (.slice A n c)).setCell ⟨X, 5, none⟩ (.slice B m d)).alloc (.cells #[.int .i64 y.k, strV y.nm, strV y.to, .int .i64 y.h.pos, .slice D i j, .slice E k l] 26)) X u.heap.size A n c B m d x D i j E k l y := by
  have h2 := Blk.new ((((((u.setCell ⟨X, 0, none⟩ (.int .i64 x.k)).setCell ⟨X, 1, none⟩ (strV x.nm)).setCell ⟨X, 2, none⟩ (strV x.to)).setCell ⟨X, 3, none⟩ (.int .i64 x.h.pos)).setCell ⟨X, 4, none⟩ (.slice A n c)).setCell ⟨X, 5, none⟩ (.slice B m d)) 26 #[.int .i64 y.k, strV y.nm, strV y.to, .int .i64 y.h.pos, .slice D i j, .slice E k l]
  rw [size_set6] at h2
  have hs : u.heap.size ≤ ((((((u.setCell ⟨X, 0, none⟩ (.int .i64 x.k)).setCell ⟨X, 1, none⟩ (strV x.nm)).setCell ⟨X, 2, none⟩ (strV x.to)).setCell ⟨X, 3, none⟩ (.int .i64 x.h.pos)).setCell ⟨X, 4, none⟩ (.slice A n c)).setCell ⟨X, 5, none⟩ (.slice B m d)).heap.size := by rw [size_set6]; exact Nat.le_refl _
  have hb := bel_set6 hw hle (.int .i64 x.k) (strV x.nm) (strV x.to) (.int .i64 x.h.pos) (.slice A n c) (.slice B m d)
  exact ⟨(blk6 hX _ _ _ _ _ _).alloc _, h2, pv_alc (v4.hi6 hi.1 hi.2.1 hlo _ _ _ _ _ _) hs _, pv_alc (v5.hi6 hi.2.2.1 hi.2.2.2 hlo _ _ _ _ _ _) hs _, hb.alloc hb.size _⟩
theorem lay_ss (hw : Below w.heap.size w u) (hX : Blk u X 26 #[.int .i64 0, strV [], strV [], .int .i64 0, .slice none 0 0, .slice none 0 0]) (hY : Blk u Y 26 #[.int .i64 0, strV [], strV [], .int .i64 0, .slice none 0 0, .slice none 0 0]) (hne : X ≠ Y) (hle : w.heap.size ≤ X) (hle' : w.heap.size ≤ Y)
    (hlo : X < lo) (hlo' : Y < lo) (hi : Hi4 lo A B D E) (v4 : PV u u.heap.size A n c B m d x) (v5 : PV u u.heap.size D i j E k l y) :
    Lay w ((((((((((((u.setCell ⟨X, 0, none⟩ (.int .i64 x.k)).setCell ⟨X, 1, none⟩ (strV x.nm)).setCell ⟨X, 2, none⟩ (strV x.to)).setCell ⟨X, 3, none⟩ (.int .i64 x.h.pos)).setCell ⟨X, 4, none⟩ (.slice A n c)).setCell ⟨X, 5, none⟩ (.slice B m d)).setCell ⟨Y, 0, none⟩ (.int .i64 y.k)).setCell ⟨Y, 1, none⟩ (strV y.nm)).setCell ⟨Y, 2, none⟩ (strV y.to)).setCell ⟨Y, 3, none⟩ (.int .i64 y.h.pos)).setCell ⟨Y, 4, none⟩ (.slice D i j)).setCell ⟨Y, 5, none⟩ (.slice E k l)) X Y A n c B m d x D i j E k l y := by
  obtain ⟨z2, z3⟩ := two_set6 hX hY hne (.int .i64 x.k) (strV x.nm) (strV x.to) (.int .i64 x.h.pos) (.slice A n c) (.slice B m d) (.int .i64 y.k) (strV y.nm) (strV y.to) (.int .i64 y.h.pos) (.slice D i j) (.slice E k l)
  have hs := (below_set12 (b := X) (b' := Y) (Below.refl 0 u) (Nat.zero_le _) (Nat.zero_le _) (.int .i64 x.k) (strV x.nm) (strV x.to) (.int .i64 x.h.pos) (.slice A n c) (.slice B m d) (.int .i64 y.k) (strV y.nm) (strV y.to) (.int .i64 y.h.pos) (.slice D i j) (.slice E k l)).size
  exact ⟨z2, z3, ((v4.hi6 hi.1 hi.2.1 hlo _ _ _ _ _ _).hi6 hi.1 hi.2.1 hlo' _ _ _ _ _ _).up hs, ((v5.hi6 hi.2.2.1 hi.2.2.2 hlo _ _ _ _ _ _).hi6 hi.2.2.1 hi.2.2.2 hlo' _ _ _ _ _ _).up hs, below_set12 hw hle hle' _ _ _ _ _ _ _ _ _ _ _ _⟩
end

end PsT
end Go.Proofs.Ytfjllohhjpiphaa
