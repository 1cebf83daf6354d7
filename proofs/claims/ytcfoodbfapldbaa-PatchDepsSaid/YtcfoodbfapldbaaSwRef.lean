/-
  What the document's own Pass of layer 6 returns (walk): the same two hunks as the program's, or nothing.
-/
import Derived.Test.YtcfoodbfapldbaaGW
import Derived.Test.YtcfoodbfapldbaaGH
set_option maxRecDepth 100000
namespace Go.Proofs.Ytcfoodbfapldbaa
open Go.RowKit
set_option linter.unusedVariables false
namespace Sw
open Tx Df Hk

/-- How a call ends that tells the lines that are handed in, as they are. -/
def PassEndE (A : Option Addr) (n c : Nat) (A' : Option Addr) (n' c' : Nat) (D : Option Addr) (m k : Nat) (D' : Option Addr) (m' k' : Nat) (w : World) (o : Option (HU × HU)) (e : Ending) (w' : World) : Prop :=
  (∀ z, o = some z → e = .returned (.tuple #[hkV z.1.pos D m k D' m' k', hkV z.2.pos A n c A' n' c', .bool true])) ∧
  (o = none → e = .returned (.tuple #[hkV 0 none 0 0 none 0 0, hkV 0 none 0 0 none 0 0, .bool false])) ∧ Below w.heap.size w w'
section
variable {A A' D D' : Option Addr} {n c n' c' m k m' k' : Nat} {w w' : World} {o : Option (HU × HU)} {e : Ending}
theorem passEndE_none (ho : o = none) (hb : Below w.heap.size w w') : PassEndE A n c A' n' c' D m k D' m' k' w o (.returned (.tuple #[hkV 0 none 0 0 none 0 0, hkV 0 none 0 0 none 0 0, .bool false])) w' := by
  subst ho
  exact ⟨fun z h => (by cases h), fun _ => rfl, hb⟩
theorem passEndE_some {x y : HU} (hb : Below w.heap.size w w') : PassEndE A n c A' n' c' D m k D' m' k' w (some (x, y)) (.returned (.tuple #[hkV x.pos D m k D' m' k', hkV y.pos A n c A' n' c', .bool true])) w' :=
  ⟨fun z h => (by injection h with h; subst h; rfl), fun h => (by cases h), hb⟩
theorem PassEndE.end_ {B : Nat} {p q : HU} (h : PassEndE A n c A' n' c' D m k D' m' k' w (passH p q) e w') (hB : B ≤ w.heap.size) (hv : HV w B A n c A' n' c' p) (gv : HV w B D m k D' m' k' q) : PassEnd w (passH p q) e w' := by
  obtain ⟨h1, h2, hb⟩ := h
  cases ho : passH p q with
  | none => rw [h2 ho]; exact passEnd_none rfl hb
  | some z =>
    have e1 := h1 z ho
    obtain ⟨_, b1, b2, b3, b4⟩ := pass_moves (x := z.1) (y := z.2) (passH_may (z := z) ho).2.2.1
    obtain ⟨a1, a2⟩ := pass_pos (x := z.1) (y := z.2) (passH_may (z := z) ho).2.2.1 (mayH_pos (passH_may ho).1).1 (mayH_pos (passH_may ho).2.1).1
    have l1 := (passH_may ho).2.2.2.1; have l2 := (passH_may ho).2.2.2.2
    have hv' := (hv.below (hb.mono hB)).up (Nat.le_trans hB hb.size); have gv' := (gv.below (hb.mono hB)).up (Nat.le_trans hB hb.size)
    refine ⟨D, m, k, D', m', k', A, n, c, A', n', c', e1, ?_, ?_, hb⟩
    · exact ⟨by show z.1.old.length = m; rw [b1]; exact gv.l, by show z.1.new.length = m'; rw [b2]; exact gv.l', gv.k, gv.k', gv.m, gv.m', by show RdS _ _ _ z.1.old; rw [b1]; exact gv'.r, by show RdS _ _ _ z.1.new; rw [b2]; exact gv'.r', ⟨by show _ ≤ z.1.pos; omega, by show z.1.pos ≤ _; omega⟩⟩
    · exact ⟨by show z.2.old.length = n; rw [b3]; exact hv.l, by show z.2.new.length = n'; rw [b4]; exact hv.l', hv.k, hv.k', hv.m, hv.m', by show RdS _ _ _ z.2.old; rw [b3]; exact hv'.r, by show RdS _ _ _ z.2.new; rw [b4]; exact hv'.r', ⟨by show _ ≤ z.2.pos; omega, by show z.2.pos ≤ _; omega⟩⟩
end

end Sw
end Go.Proofs.Ytcfoodbfapldbaa
