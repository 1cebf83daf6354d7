/-
  Words for layer 9: what is told of two changes that pass, where the lines are those that are handed in. No function of the program is walked here.
-/
import Derived.Test.YtfjllohhjpiphaaPsMem
set_option maxRecDepth 100000
namespace Go.Proofs.Ytfjllohhjpiphaa
open Go.RowKit
set_option linter.unusedVariables false
namespace Pr
open Tx Df Sq Hk Tr

/-- How a call ends that tells the lines that are handed in, as they are. -/
def PPEndE (A : Option Addr) (n c : Nat) (A' : Option Addr) (n' c' : Nat) (D : Option Addr) (m k : Nat) (D' : Option Addr) (m' k' : Nat) (w : World) (o : Option (Ch × Ch)) (e : Ending) (w' : World) : Prop :=
  (∀ z, o = some z → e = .returned (.tuple #[prV z.1.k z.1.nm z.1.to z.1.h.pos D m k D' m' k', prV z.2.k z.2.nm z.2.to z.2.h.pos A n c A' n' c', .bool true])) ∧
  (o = none → e = .returned (.tuple #[.agg #[.int .i64 0, strV [], strV [], .int .i64 0, .slice none 0 0, .slice none 0 0], .agg #[.int .i64 0, strV [], strV [], .int .i64 0, .slice none 0 0, .slice none 0 0], .bool false])) ∧ Below w.heap.size w w'
section
variable {A A' D D' : Option Addr} {n c n' c' m k m' k' : Nat} {w w' : World} {o : Option (Ch × Ch)} {e : Ending} {p q x y : Ch} {b : Bool}
theorem ppEndE_none (ho : o = none) (hb : Below w.heap.size w w') : PPEndE A n c A' n' c' D m k D' m' k' w o (.returned (.tuple #[.agg #[.int .i64 0, strV [], strV [], .int .i64 0, .slice none 0 0, .slice none 0 0], .agg #[.int .i64 0, strV [], strV [], .int .i64 0, .slice none 0 0, .slice none 0 0], .bool false])) w' := by
  subst ho
  exact ⟨fun z h => (by cases h), fun _ => rfl, hb⟩
theorem ppEndE_some (hb : Below w.heap.size w w') : PPEndE A n c A' n' c' D m k D' m' k' w (some (x, y)) (.returned (.tuple #[prV x.k x.nm x.to x.h.pos D m k D' m' k', prV y.k y.nm y.to y.h.pos A n c A' n' c', .bool true])) w' :=
  ⟨fun z h => (by injection h with h; subst h; rfl), fun h => (by cases h), hb⟩

/-- What is told reads as the lines that are handed in. -/
theorem way_pv {N : Nat} (h : Way p q x y) (hv : PV w N A n c A' n' c' p) (gv : PV w N D m k D' m' k' q) : PV w N D m k D' m' k' x ∧ PV w N A n c A' n' c' y := by
  cases h with
  | apart h => exact ⟨gv, hv⟩
  | out kp kq hn => exact ⟨gv.name p.nm hv.nm, hv⟩
  | into kq kp hn => exact ⟨gv, hv.name q.to gv.to⟩
  | both kp kq hn u v h =>
    obtain ⟨m1, m2⟩ := Sw.passH_mays h
    obtain ⟨_, b1, b2, b3, b4⟩ := Sw.pass_moves (x := u) (y := v) (Sw.passH_may h).2.2.1
    have g1 := Sw.mayH_pos m1
    have g2 := Sw.mayH_pos m2
    refine ⟨gv.hunk (h := u) ⟨by rw [b1]; exact gv.h.l, by rw [b2]; exact gv.h.l', gv.h.k, gv.h.k', gv.h.m, gv.h.m', by rw [b1]; exact gv.h.r, by rw [b2]; exact gv.h.r', ⟨by omega, by omega⟩⟩ b1 b2, ?_⟩
    exact hv.hunk (h := v) ⟨by rw [b3]; exact hv.h.l, by rw [b4]; exact hv.h.l', hv.h.k, hv.h.k', hv.h.m, hv.h.m', by rw [b3]; exact hv.h.r, by rw [b4]; exact hv.h.r', ⟨by omega, by omega⟩⟩ b3 b4
theorem PPEndE.end_ (h : PPEndE A n c A' n' c' D m k D' m' k' w (passP p q) e w') (hl : n ≤ 1000 ∧ n' ≤ 1000) (gl : m ≤ 1000 ∧ m' ≤ 1000) (hv : PV w w.heap.size A n c A' n' c' p) (gv : PV w w.heap.size D m k D' m' k' q) (ho : outP (passP p q) = (x, y)) (hb : (passP p q).isSome = b) : PPEnd w x y b e w' := by
  obtain ⟨h1, h2, hw⟩ := h
  cases hz : passP p q with
  | none => rw [h2 hz]; exact ppEnd_none ho hb hz hw
  | some z =>
    rw [h1 z hz]
    obtain ⟨v1, v2⟩ := way_pv (passP_way (x := z.1) (y := z.2) hz).2.2 (hv.mv hw) (gv.mv hw)
    exact ppEnd_some ho hb (x' := z.1) (y' := z.2) hz v1 v2 gl hl hw
end

end Pr
end Go.Proofs.Ytfjllohhjpiphaa
