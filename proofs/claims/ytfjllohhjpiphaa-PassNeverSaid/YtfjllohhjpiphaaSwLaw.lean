/-
  Words for the statements of layer 6: Pass of short hunks, and plain laws of what it tells.
-/
import Derived.Test.YtfjllohhjpiphaaSwPass
import Derived.Test.YtfjllohhjpiphaaHkLaw
set_option maxRecDepth 100000
namespace Go.Proofs.Ytfjllohhjpiphaa
open Go.RowKit
set_option linter.unusedVariables false
namespace Sw
open Tx Df Sq Hk

theorem outH_lines (p q : HU) : outH (passH p q) = (zeroH, zeroH) ∨ ((outH (passH p q)).1.old = q.old ∧ (outH (passH p q)).1.new = q.new ∧ (outH (passH p q)).2.old = p.old ∧ (outH (passH p q)).2.new = p.new) := by
  cases h : passH p q with
  | none => exact .inl rfl
  | some z =>
    obtain ⟨_, _, h3, _⟩ := passH_may h
    exact .inr (pass_moves (x := z.1) (y := z.2) h3).2

/-- What Pass tells of short hunks: short hunks. -/
theorem passL_end {w w' : World} {p q x y : HU} {b : Bool} {e : Ending} {n n' m m' : Nat} (h : PassEnd w (passH p q) e w') (b1 : p.old.length = n) (b2 : p.new.length = n') (b3 : q.old.length = m) (b4 : q.new.length = m') (hn : n ≤ 1000) (hn' : n' ≤ 1000) (hm : m ≤ 1000) (hm' : m' ≤ 1000)
    (hx : outH (passH p q) = (x, y)) (hb : (passH p q).isSome = b) :
    ∃ A n c A' n' c' D m k D' m' k', e = .returned (.tuple #[hkV x.pos A n c A' n' c', hkV y.pos D m k D' m' k', .bool b]) ∧
      HV w' w'.heap.size A n c A' n' c' x ∧ HV w' w'.heap.size D m k D' m' k' y ∧ (n ≤ 1000 ∧ n' ≤ 1000 ∧ m ≤ 1000 ∧ m' ≤ 1000) ∧ Below w.heap.size w w' := by
  have hl := outH_lines p q
  unfold PassEnd at h
  rw [hx, hb] at h
  rw [hx] at hl
  obtain ⟨A1, n1, c1, A2, n2, c2, D1, m1, k1, D2, m2, k2, rfl, v1, v2, hbl⟩ := h
  refine ⟨A1, n1, c1, A2, n2, c2, D1, m1, k1, D2, m2, k2, rfl, v1, v2, ?_, hbl⟩
  have a1 := v1.l; have a2 := v1.l'; have a3 := v2.l; have a4 := v2.l'
  rcases hl with hl | ⟨l1, l2, l3, l4⟩
  · injection hl with l1 l2
    subst l1 l2
    simp only [zeroH, List.length_nil] at a1 a2 a3 a4
    omega
  · rw [l1] at a1; rw [l2] at a2; rw [l3] at a3; rw [l4] at a4
    omega

theorem PassL (A : Option Addr) (n c : Nat) (A' : Option Addr) (n' c' : Nat) (D : Option Addr) (m k : Nat) (D' : Option Addr) (m' k' B : Nat) (p q : HU) (w : World) (x y : HU) (b : Bool) (hB : B ≤ w.heap.size) (hn : n ≤ 1000) (hn' : n' ≤ 1000) (hm : m ≤ 1000) (hm' : m' ≤ 1000)
    (hv : HV w B A n c A' n' c' p) (gv : HV w B D m k D' m' k' q) (hx : outH (passH p q) = (x, y)) (hb : (passH p q).isSome = b) :
    Calls Try.prog 25 #[hkV p.pos A n c A' n' c', hkV q.pos D m k D' m' k'] w (fun e w' => ∃ A n c A' n' c' D m k D' m' k', e = .returned (.tuple #[hkV x.pos A n c A' n' c', hkV y.pos D m k D' m' k', .bool b]) ∧
      HV w' w'.heap.size A n c A' n' c' x ∧ HV w' w'.heap.size D m k D' m' k' y ∧ (n ≤ 1000 ∧ n' ≤ 1000 ∧ m ≤ 1000 ∧ m' ≤ 1000) ∧ Below w.heap.size w w') :=
  (Pass A n c A' n' c' D m k D' m' k' B p q w hB hn hn' hm hm' hv gv).mono (fun e w' h => passL_end h hv.l hv.l' gv.l gv.l' hn hn' hm hm' hx hb)

theorem PassLHi (A : Option Addr) (n c : Nat) (A' : Option Addr) (n' c' : Nat) (D : Option Addr) (m k : Nat) (D' : Option Addr) (m' k' B : Nat) (p q : HU) (w : World) (x y : HU) (b : Bool) (hB : B ≤ w.heap.size) (hn : n ≤ 1000) (hn' : n' ≤ 1000) (hm : m ≤ 1000) (hm' : m' ≤ 1000)
    (hv : HV w B A n c A' n' c' p) (gv : HV w B D m k D' m' k' q) (hx : outH (passH p q) = (x, y)) (hb : (passH p q).isSome = b) :
    Calls Try.prog 25 #[hkV p.pos A n c A' n' c', hkV q.pos D m k D' m' k'] w (fun e w' => ∃ A n c A' n' c' D m k D' m' k', e = .returned (.tuple #[hkV x.pos A n c A' n' c', hkV y.pos D m k D' m' k', .bool b]) ∧
      HV w' w'.heap.size A n c A' n' c' x ∧ HV w' w'.heap.size D m k D' m' k' y ∧ (n ≤ 1000 ∧ n' ≤ 1000 ∧ m ≤ 1000 ∧ m' ≤ 1000) ∧ (Hi w.heap.size A ∧ Hi w.heap.size A' ∧ Hi w.heap.size D ∧ Hi w.heap.size D') ∧ Below w.heap.size w w') :=
  (PassHi A n c A' n' c' D m k D' m' k' B p q w hB hn hn' hm hm' hv gv).mono (fun e w' h => by
    obtain ⟨E1, i1, j1, E2, i2, j2, E3, i3, j3, E4, i4, j4, rfl, v1, v2, hh, hb'⟩ := h
    have h' : PassEnd w (passH p q) (.returned (.tuple #[hkV (outH (passH p q)).1.pos E1 i1 j1 E2 i2 j2, hkV (outH (passH p q)).2.pos E3 i3 j3 E4 i4 j4, .bool (passH p q).isSome])) w' := ⟨E1, i1, j1, E2, i2, j2, E3, i3, j3, E4, i4, j4, rfl, v1, v2, hb'⟩
    have hl := outH_lines p q
    rw [hx] at v1 v2 hl
    rw [hx, hb]
    have a1 := v1.l; have a2 := v1.l'; have a3 := v2.l; have a4 := v2.l'
    have b1 := hv.l; have b2 := hv.l'; have b3 := gv.l; have b4 := gv.l'
    refine ⟨E1, i1, j1, E2, i2, j2, E3, i3, j3, E4, i4, j4, rfl, v1, v2, ?_, hh, hb'⟩
    rcases hl with hl | ⟨l1, l2, l3, l4⟩
    · injection hl with l1 l2
      subst l1 l2
      simp only [zeroH, List.length_nil] at a1 a2 a3 a4
      omega
    · dsimp only at l1 l2 l3 l4
      rw [l1] at a1; rw [l2] at a2; rw [l3] at a3; rw [l4] at a4
      omega)

theorem Same_self (A : Option Addr) (n c : Nat) (A' : Option Addr) (n' c' : Nat) (D : Option Addr) (m k : Nat) (D' : Option Addr) (m' k' B : Nat) (h : HU) (w : World) (hB : B ≤ w.heap.size) (hv : HV w B A n c A' n' c' h) (gv : HV w B D m k D' m' k' h) :
    Calls Try.prog 38 #[hkV h.pos A n c A' n' c', hkV h.pos D m k D' m' k'] w (TestEnd w true) := by
  have := SameH A n c A' n' c' D m k D' m' k' B h h w hB hv gv
  rw [sameH_self] at this
  exact this

theorem mayH_moved {g h : HU} (hm : mayH g = true) (ho : h.old = g.old) (hn : h.new = g.new) (h0 : 0 ≤ h.pos) (h1 : h.pos ≤ 1048576) : mayH h = true := by
  unfold mayH at hm ⊢
  rw [ho, hn]
  simp only [Bool.and_eq_true, decide_eq_true_eq] at hm ⊢
  exact ⟨⟨h0, h1⟩, hm.2⟩
/-- What passed may be. -/
theorem passH_mays {p q x y : HU} (h : passH p q = some (x, y)) : mayH x = true ∧ mayH y = true := by
  obtain ⟨h1, h2, h3, h4, h5⟩ := passH_may h
  obtain ⟨a1, a2⟩ := pass_pos (x := x) (y := y) h3 (mayH_pos h1).1 (mayH_pos h2).1
  obtain ⟨_, b1, b2, b3, b4⟩ := pass_moves (x := x) (y := y) h3
  exact ⟨mayH_moved h2 b1 b2 a1 h4, mayH_moved h1 b3 b4 a2 h5⟩
theorem passH_back {p q x y : HU} (h : passH p q = some (x, y)) : passH x y = some (p, q) := by
  obtain ⟨h1, h2, h3, h4, h5⟩ := passH_may h
  obtain ⟨m1, m2⟩ := passH_mays h
  exact passH_some m1 m2 (pass_back (x := x) (y := y) h3) (mayH_pos h1).2 (mayH_pos h2).2
theorem passH_touch {p q : HU} (h1 : p.pos ≤ q.pos) (h2 : q.pos ≤ p.pos + p.new.length) : passH p q = none := by
  unfold passH
  rw [pass_touch h1 h2]
  split <;> rfl
theorem passH_three {p q r q1 p1 r1 p2 r2 q2 r3 q3 r4 p3 q4 p4 : HU} (i : passH p q = some (q1, p1)) (j : passH p1 r = some (r1, p2)) (k : passH q1 r1 = some (r2, q2))
    (l : passH q r = some (r3, q3)) (m : passH p r3 = some (r4, p3)) (n : passH p3 q3 = some (q4, p4)) : r2 = r4 ∧ q2 = q4 ∧ p2 = p4 :=
  pass_three (passH_may i).2.2.1 (passH_may j).2.2.1 (passH_may k).2.2.1 (passH_may l).2.2.1 (passH_may m).2.2.1 (passH_may n).2.2.1
/-- Where both change a list, those that are told do so, to the same. -/
theorem passH_same {l : List (List UInt8)} {p q x y : HU} (h : passH p q = some (x, y)) (h1 : applyE l p = 0) (h2 : applyE (applyL l p) q = 0) : applyE l x = 0 ∧ applyE (applyL l x) y = 0 ∧ applyL (applyL l x) y = applyL (applyL l p) q := by
  obtain ⟨m1, m2⟩ := passH_mays h
  obtain ⟨k, e1, e2⟩ := pass_same (passH_may h).2.2.1 (apply_done h1) (apply_done h2)
  obtain ⟨a1, a2⟩ := done_apply m1 e1
  subst a2
  obtain ⟨b1, b2⟩ := done_apply m2 e2
  exact ⟨a1, b1, b2⟩
/-- Turned they pass just if they do, in the other order. -/
theorem passH_turn {p q x y : HU} (h : passH p q = some (x, y)) : passH (turn q) (turn p) = some (turn y, turn x) := by
  obtain ⟨h1, h2, h3, h4, h5⟩ := passH_may h
  exact passH_some (by rw [mayH_turn]; exact h2) (by rw [mayH_turn]; exact h1) (pass_turn (x := x) (y := y) h3) h5 h4
theorem passH_turn_none {p q : HU} (h : passH p q = none) : passH (turn q) (turn p) = none := by
  cases hb : passH (turn q) (turn p) with
  | none => rfl
  | some z =>
    have := passH_turn (x := z.1) (y := z.2) hb
    rw [turn_turn, turn_turn, h] at this
    cases this
theorem none_of {α : Type} {o : Option α} (h : o.isSome = false) : o = none := by cases o with | none => rfl | some _ => cases h
theorem outH_none {o : Option (HU × HU)} {x y : HU} (h : outH o = (x, y)) (hb : o.isSome = false) : x = zeroH ∧ y = zeroH := by
  cases o with
  | none => injection h with h1 h2; exact ⟨h1.symm, h2.symm⟩
  | some z => cases hb

theorem outH_some {o : Option (HU × HU)} {x y : HU} (h : o = some (x, y)) : outH o = (x, y) := by subst h; rfl
theorem outH_of {o : Option (HU × HU)} {x y : HU} (h : outH o = (x, y)) (hb : o.isSome = true) : o = some (x, y) := by
  cases o with
  | none => cases hb
  | some z => exact congrArg some h

end Sw
end Go.Proofs.Ytfjllohhjpiphaa
