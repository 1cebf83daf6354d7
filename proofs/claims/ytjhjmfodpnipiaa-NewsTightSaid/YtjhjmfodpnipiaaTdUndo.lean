/-
  What package tidy's undoes returns, and the document's own (walks).
-/
import Derived.Test.YtjhjmfodpnipiaaGF
import Derived.Test.YtjhjmfodpnipiaaPrTurn
import Derived.Test.YtjhjmfodpnipiaaGR
import Derived.Test.YtjhjmfodpnipiaaGV
set_option maxRecDepth 100000
namespace Go.Proofs.Ytjhjmfodpnipiaa
open Go.RowKit
set_option linter.unusedVariables false
set_option linter.unusedSimpArgs false
namespace Td
open Tx Df Sq Hk Tr Pr Fl

theorem same_dec (p q : Ch) : sameP p q = decide (p = q) := by
  rw [Bool.eq_iff_iff, decide_eq_true_eq]; exact sameP_iff

set_option maxRecDepth 100000 in
set_option maxHeartbeats 4000000 in
theorem undoes (A : Option Addr) (n c : Nat) (A' : Option Addr) (n' c' : Nat) (D : Option Addr) (m e : Nat) (D' : Option Addr) (m' e' : Nat) (p o : Ch) (w : World) (b : Bool) (hp : PV w w.heap.size A n c A' n' c' p) (ho : PV w w.heap.size D m e D' m' e' o) (hlo : m ≤ 1000 ∧ m' ≤ 1000) (hb : decide (p = turnP o) = b) :
    Calls Try.prog 29 #[prV p.k p.nm p.to p.h.pos A n c A' n' c', prV o.k o.nm o.to o.h.pos D m e D' m' e'] w (TestEnd w b) := by
  have hb2 := two_box w (.cells #[.int .i64 p.k, strV p.nm, strV p.to, .int .i64 p.h.pos, .slice A n c, .slice A' n' c'] 39) (.cells #[.int .i64 o.k, strV o.nm, strV o.to, .int .i64 o.h.pos, .slice D m e, .slice D' m' e'] 39)
  have b0 := (Blk.new w 39 #[.int .i64 p.k, strV p.nm, strV p.to, .int .i64 p.h.pos, .slice A n c, .slice A' n' c']).alloc (.cells #[.int .i64 o.k, strV o.nm, strV o.to, .int .i64 o.h.pos, .slice D m e, .slice D' m' e'] 39)
  have b1 := Blk.new (w.alloc (.cells #[.int .i64 p.k, strV p.nm, strV p.to, .int .i64 p.h.pos, .slice A n c, .slice A' n' c'] 39)) 39 #[.int .i64 o.k, strV o.nm, strV o.to, .int .i64 o.h.pos, .slice D m e, .slice D' m' e']
  simp only [World.size_alloc] at b1
  have HVp := Lib.hid (hp.mv hb2); have HVo := Lib.hid (ho.mv hb2)
  have HE : Hid (sameP p (turnP o) = b) := Lib.hid (by rw [same_dec]; exact hb)
  have HL := Lib.hid hlo
  clear hp ho hb hlo
  have HB2 := Lib.hid hb2; have HB0 := Lib.hid b0; have HB1 := Lib.hid b1
  clear hb2 b0 b1
  go_enter Try.func29, Try.ntmps29
  go_upto_region 1 with fail
  generalize ((w.alloc (.cells #[.int .i64 p.k, strV p.nm, strV p.to, .int .i64 p.h.pos, .slice A n c, .slice A' n' c'] 39)).alloc (.cells #[.int .i64 o.k, strV o.nm, strV o.to, .int .i64 o.h.pos, .slice D m e, .slice D' m' e'] 39)) = W at *
  obtain ⟨z, hz⟩ : ∃ z, w.heap.size = z := ⟨_, rfl⟩
  rw [hz] at HB0 HB1 ⊢
  have HZ := Lib.hid hz
  clear hz
  have HC : Hid (∀ X, Below W.heap.size W X → X.cell? ⟨z, 0, none⟩ = some (.int .i64 p.k) ∧ X.cell? ⟨z, 1, none⟩ = some (strV p.nm) ∧ X.cell? ⟨z, 2, none⟩ = some (strV p.to) ∧ X.cell? ⟨z, 3, none⟩ = some (.int .i64 p.h.pos) ∧ X.cell? ⟨z, 4, none⟩ = some (.slice A n c) ∧ X.cell? ⟨z, 5, none⟩ = some (.slice A' n' c') ∧ X.cell? ⟨z + 1, 0, none⟩ = some (.int .i64 o.k) ∧ X.cell? ⟨z + 1, 1, none⟩ = some (strV o.nm) ∧ X.cell? ⟨z + 1, 2, none⟩ = some (strV o.to) ∧ X.cell? ⟨z + 1, 3, none⟩ = some (.int .i64 o.h.pos) ∧ X.cell? ⟨z + 1, 4, none⟩ = some (.slice D m e) ∧ X.cell? ⟨z + 1, 5, none⟩ = some (.slice D' m' e')) := Lib.hid (fun X hb => by
    have h0 := HB0.out.below hb HB0.out.lt
    have h1 := HB1.out.below hb HB1.out.lt
    exact ⟨h0.cell 0 rfl, h0.cell 1 rfl, h0.cell 2 rfl, h0.cell 3 rfl, h0.cell 4 rfl, h0.cell 5 rfl, h1.cell 0 rfl, h1.cell 1 rfl, h1.cell 2 rfl, h1.cell 3 rfl, h1.cell 4 rfl, h1.cell 5 rfl⟩)
  have HKD := Lib.hid (HC.out W.drew (below_drewN (Below.refl _ _) 1))
  have PX : Hid (∀ X, Below W.heap.size W X → Calls Try.prog 53 #[prV o.k o.nm o.to o.h.pos D m e D' m' e'] X (PTEnd X (turnP o))) := Lib.hid (fun X hb => (TurnPH D m e D' m' e' o X HL.out.1 HL.out.2 (HVo.out.mv hb)).mono fun e u h => h.end_)
  obtain ⟨x0, x1, x2, x3, x4, x5, y0, y1, y2, y3, y4, y5⟩ := HC.out W (Below.refl _ _)
  clear HB0 HB1
  go_region_held3 (fun X => X.cell? ⟨z, 0, none⟩ = some (.int .i64 p.k) ∧ X.cell? ⟨z, 1, none⟩ = some (strV p.nm) ∧ X.cell? ⟨z, 2, none⟩ = some (strV p.to) ∧ X.cell? ⟨z, 3, none⟩ = some (.int .i64 p.h.pos) ∧ X.cell? ⟨z, 4, none⟩ = some (.slice A n c) ∧ X.cell? ⟨z, 5, none⟩ = some (.slice A' n' c') ∧ X.cell? ⟨z + 1, 0, none⟩ = some (.int .i64 o.k) ∧ X.cell? ⟨z + 1, 1, none⟩ = some (strV o.nm) ∧ X.cell? ⟨z + 1, 2, none⟩ = some (strV o.to) ∧ X.cell? ⟨z + 1, 3, none⟩ = some (.int .i64 o.h.pos) ∧ X.cell? ⟨z + 1, 4, none⟩ = some (.slice D m e) ∧ X.cell? ⟨z + 1, 5, none⟩ = some (.slice D' m' e'))
    (first | (with_reducible exact HKD.out) | (with_reducible exact hS5) | (with_reducible exact hS6))
    (first
      | (go_at_call 53; (with_reducible refine (PX.out W.drew (below_drewN (Below.refl _ _) 1)).mono ?_); rintro e w5 ⟨T1, t1, u1, T2, t2, u2, rfl, hv5, _, _, hb5⟩; have hu := (below_drewN (Below.refl W.heap.size W) 1).trans hb5; have hS5 := HC.out w5 hu; have HU5 := Lib.hid hu; have HT5 := Lib.hid hv5; clear hb5 hu hv5)
      | (go_at_call 52; (with_reducible refine (SameP A n c A' n' c' T1 t1 u1 T2 t2 u2 p (turnP o) w5 b (HVp.out.mv HU5.out) HT5.out HE.out).mono ?_); rintro e w6 ⟨rfl, hb6⟩; have hu := HU5.out.trans (hb6.mono HU5.out.size); have hS6 := HC.out w6 hu; have HU6 := Lib.hid hu; clear hb6 hu))
  go_wp2
  go_ret
  exact ⟨rfl, HB2.out.trans (HU6.out.mono HB2.out.size)⟩

end Td
end Go.Proofs.Ytjhjmfodpnipiaa
