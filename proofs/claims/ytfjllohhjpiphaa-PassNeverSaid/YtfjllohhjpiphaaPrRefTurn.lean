/-
  What the document's own Turn of layer 8 returns (walk).
-/
import Derived.Test.YtfjllohhjpiphaaPrRef
import Derived.Deep.Cut
set_option maxRecDepth 100000
namespace Go.Proofs.Ytfjllohhjpiphaa
open Go.RowKit
set_option linter.unusedVariables false
set_option linter.unusedSimpArgs false
namespace Pr
open Tx Df Sq Hk Tr

/-- How a call ends that makes the change q. -/
def PTEnd (w : World) (q : Ch) (e : Ending) (w' : World) : Prop :=
  ∃ A n c A' n' c', e = .returned (prV q.k q.nm q.to q.h.pos A n c A' n' c') ∧ PV w' w'.heap.size A n c A' n' c' q ∧ q.h.old.length = n ∧ q.h.new.length = n' ∧ Below w.heap.size w w'

theorem two_box (w : World) (o o' : Obj) : Below w.heap.size w ((w.alloc o).alloc o') := ((Below.refl _ _).alloc (Nat.le_refl _) o).alloc (by simp) o'

/-- All six cells are set. -/
theorem blk6 {W : World} {b : Nat} {t : TypeId} {x0 x1 x2 x3 x4 x5 : Value} (h : Blk W b t #[x0, x1, x2, x3, x4, x5]) (v0 v1 v2 v3 v4 v5 : Value) : Blk ((((((World.setCell W ⟨b, 0, none⟩ v0).setCell ⟨b, 1, none⟩ v1).setCell ⟨b, 2, none⟩ v2).setCell ⟨b, 3, none⟩ v3).setCell ⟨b, 4, none⟩ v4).setCell ⟨b, 5, none⟩ v5) b t #[v0, v1, v2, v3, v4, v5] :=
  have b0 : Blk _ b t #[v0, x1, x2, x3, x4, x5] := h.set 0 v0
  have b1 : Blk _ b t #[v0, v1, x2, x3, x4, x5] := b0.set 1 v1
  have b2 : Blk _ b t #[v0, v1, v2, x3, x4, x5] := b1.set 2 v2
  have b3 : Blk _ b t #[v0, v1, v2, v3, x4, x5] := b2.set 3 v3
  have b4 : Blk _ b t #[v0, v1, v2, v3, v4, x5] := b3.set 4 v4
  have b5 : Blk _ b t #[v0, v1, v2, v3, v4, v5] := b4.set 5 v5
  b5
/-- The last three. -/
theorem blk3 {W : World} {b : Nat} {t : TypeId} {x0 x1 x2 x3 x4 x5 : Value} (h : Blk W b t #[x0, x1, x2, x3, x4, x5]) (v3 v4 v5 : Value) : Blk (((World.setCell W ⟨b, 3, none⟩ v3).setCell ⟨b, 4, none⟩ v4).setCell ⟨b, 5, none⟩ v5) b t #[x0, x1, x2, v3, v4, v5] :=
  have b3 : Blk _ b t #[x0, x1, x2, v3, x4, x5] := h.set 3 v3
  have b4 : Blk _ b t #[x0, x1, x2, v3, v4, x5] := b3.set 4 v4
  have b5 : Blk _ b t #[x0, x1, x2, v3, v4, v5] := b4.set 5 v5
  b5

/-- How a call ends that turns a change, its lines as they are handed in. -/
def PTEndE (A : Option Addr) (n c : Nat) (A' : Option Addr) (n' c' : Nat) (p : Ch) (w : World) (e : Ending) (w' : World) : Prop :=
  (((p.k = 0 ∨ p.k = 1 ∨ p.k = 2) ∧ e = .returned (prV (turnP p).k (turnP p).nm (turnP p).to (turnP p).h.pos A n c A' n' c')) ∨ (¬ (p.k = 0 ∨ p.k = 1 ∨ p.k = 2) ∧ e = .returned (prV (turnP p).k (turnP p).nm (turnP p).to (turnP p).h.pos A' n' c' A n c))) ∧ Below w.heap.size w w'
theorem PTEndE.end_ {A A' : Option Addr} {n c n' c' B : Nat} {p : Ch} {w w' : World} {e : Ending} (h : PTEndE A n c A' n' c' p w e w') (hB : B ≤ w.heap.size) (hv : PV w B A n c A' n' c' p) : PTEnd w (turnP p) e w' := by
  obtain ⟨h, hb⟩ := h
  have h1 := (hv.below (hb.mono hB)).up (Nat.le_trans hB hb.size)
  rcases h with ⟨hk, rfl⟩ | ⟨hk, rfl⟩
  · refine ⟨A, n, c, A', n', c', rfl, ?_, ?_, ?_, hb⟩
    · rcases hk with hk | hk | hk
      · rw [turnP_0 hk]; exact ⟨h1.h, by unfold I64; dsimp only; omega, h1.nm, h1.to, h1.s, h1.s'⟩
      · rw [turnP_1 hk]; exact ⟨h1.h, by unfold I64; dsimp only; omega, h1.nm, h1.to, h1.s, h1.s'⟩
      · rw [turnP_2 hk]; exact ⟨h1.h, by unfold I64; dsimp only; omega, h1.to, h1.nm, h1.s, h1.s'⟩
    · rcases hk with hk | hk | hk
      · rw [turnP_0 hk]; exact hv.h.l
      · rw [turnP_1 hk]; exact hv.h.l
      · rw [turnP_2 hk]; exact hv.h.l
    · rcases hk with hk | hk | hk
      · rw [turnP_0 hk]; exact hv.h.l'
      · rw [turnP_1 hk]; exact hv.h.l'
      · rw [turnP_2 hk]; exact hv.h.l'
  · have e1 : turnP p = ⟨p.k, p.nm, p.to, turn p.h⟩ := turnP_h (fun h => hk (.inl h)) (fun h => hk (.inr (.inl h))) (fun h => hk (.inr (.inr h)))
    refine ⟨A', n', c', A, n, c, rfl, ?_, ?_, ?_, hb⟩
    · rw [e1]; exact ⟨h1.h.turn, h1.k, h1.nm, h1.to, h1.s', h1.s⟩
    · rw [e1]; exact hv.h.l'
    · rw [e1]; exact hv.h.l

end Pr
end Go.Proofs.Ytfjllohhjpiphaa
