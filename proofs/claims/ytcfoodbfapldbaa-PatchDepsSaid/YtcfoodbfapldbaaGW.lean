/-
  Words and contracts, joined: SwLeaf SwPass SwLaw.
-/
import Derived.Test.YtcfoodbfapldbaaGH
import Derived.Test.YtcfoodbfapldbaaGP
import Derived.Test.YtcfoodbfapldbaaGQ
import Derived.BigQuiet
set_option maxRecDepth 100000
namespace Go.Proofs.Ytcfoodbfapldbaa
open Go.RowKit
set_option linter.unusedVariables false
namespace Sw
open Tx Df Hk

/-- How a way to pass ends. -/
def WayEnd (w : World) (x y : Int) (b : Bool) (e : Ending) (w' : World) : Prop := e = .returned (.tuple #[.int .i64 x, .int .i64 y, .bool b]) ∧ ∃ d, w' = w.drewN d

/-- A way to pass, as a value: it holds where the two lie. -/
abbrev wayV (f : Nat) (a b : Nat) : Value := .func (.func f) #[] #[.pointer (some ⟨b, 0, none⟩), .pointer (some ⟨a, 0, none⟩)]
/-- How placed ends. -/
def PlacedEnd (w : World) (n n' : Nat) (h : HU) (e : Ending) (w' : World) : Prop :=
  ∃ D k D' k', e = .returned (hkV h.pos D n k D' n' k') ∧ HV w' w'.heap.size D n k D' n' k' h ∧ (Hi w.heap.size D ∧ Hi w.heap.size D') ∧ Below w.heap.size w w'

end Sw
end Go.Proofs.Ytcfoodbfapldbaa

namespace Go.Proofs.Ytcfoodbfapldbaa
open Go.RowKit
set_option linter.unusedVariables false
namespace Sw
open Tx Df Hk

/-- What Pass tells: nothing if one may not be, or if one would stand above the limit. -/
def passH (p q : HU) : Option (HU × HU) := if mayH p && mayH q then (pass p q).bind (fun z => if z.1.pos ≤ 1048576 ∧ z.2.pos ≤ 1048576 then some z else none) else none
def zeroH : HU := ⟨0, [], []⟩
def outH (o : Option (HU × HU)) : HU × HU := o.getD (zeroH, zeroH)

/-- How Pass ends. -/
def PassEnd (w : World) (o : Option (HU × HU)) (e : Ending) (w' : World) : Prop :=
  ∃ A n c A' n' c' D m k D' m' k', e = .returned (.tuple #[hkV (outH o).1.pos A n c A' n' c', hkV (outH o).2.pos D m k D' m' k', .bool o.isSome]) ∧
    HV w' w'.heap.size A n c A' n' c' (outH o).1 ∧ HV w' w'.heap.size D m k D' m' k' (outH o).2 ∧ Below w.heap.size w w'

/-- The same, of lines in memory of their own. -/
def PassEndH (w : World) (o : Option (HU × HU)) (e : Ending) (w' : World) : Prop :=
  ∃ A n c A' n' c' D m k D' m' k', e = .returned (.tuple #[hkV (outH o).1.pos A n c A' n' c', hkV (outH o).2.pos D m k D' m' k', .bool o.isSome]) ∧
    HV w' w'.heap.size A n c A' n' c' (outH o).1 ∧ HV w' w'.heap.size D m k D' m' k' (outH o).2 ∧ (Hi w.heap.size A ∧ Hi w.heap.size A' ∧ Hi w.heap.size D ∧ Hi w.heap.size D') ∧ Below w.heap.size w w'
theorem PassEndH.end_ {w w' : World} {o : Option (HU × HU)} {e : Ending} (h : PassEndH w o e w') : PassEnd w o e w' := by
  obtain ⟨A, n, c, A', n', c', D, m, k, D', m', k', h1, h2, h3, _, h4⟩ := h
  exact ⟨A, n, c, A', n', c', D, m, k, D', m', k', h1, h2, h3, h4⟩
theorem passH_may {p q : HU} {z : HU × HU} (h : passH p q = some z) : mayH p = true ∧ mayH q = true ∧ pass p q = some z ∧ z.1.pos ≤ 1048576 ∧ z.2.pos ≤ 1048576 := by
  unfold passH at h
  split at h
  · rename_i hm
    rw [Bool.and_eq_true] at hm
    cases hp : pass p q with
    | none => rw [hp] at h; cases h
    | some y =>
      rw [hp, Option.bind_some] at h
      split at h
      · rename_i hl
        cases h
        exact ⟨hm.1, hm.2, rfl, hl.1, hl.2⟩
      · cases h
  · cases h
theorem passH_some {p q : HU} {z : HU × HU} (h1 : mayH p = true) (h2 : mayH q = true) (h : pass p q = some z) (h3 : z.1.pos ≤ 1048576) (h4 : z.2.pos ≤ 1048576) : passH p q = some z := by
  unfold passH
  rw [h1, h2, h, Option.bind_some]
  simp [h3, h4]
theorem passH_no1 {p q : HU} (h : mayH p = false) : passH p q = none := by unfold passH; rw [h]; rfl
theorem passH_no2 {p q : HU} (h : mayH q = false) : passH p q = none := by unfold passH; rw [h, Bool.and_false]; rfl
theorem mayH_pos {h : HU} (hm : mayH h = true) : 0 ≤ h.pos ∧ h.pos ≤ 1048576 := by
  unfold mayH at hm
  simp only [Bool.and_eq_true, decide_eq_true_eq] at hm
  exact hm.1

/-- The first way is shut; the second one is. -/
def Shut1 (p q : HU) (n n' : Nat) : Prop := ¬ (p.pos + n' < q.pos ∧ q.pos - n' + n ≤ 1048576 ∧ p.pos ≤ 1048576)
def Shut2 (p q : HU) (m m' : Nat) : Prop := ¬ (q.pos + m < p.pos ∧ q.pos ≤ 1048576 ∧ p.pos - m + m' ≤ 1048576)
theorem passH_shut {p q : HU} {n n' m m' : Nat} (hn : p.old.length = n) (hn' : p.new.length = n') (hm : q.old.length = m) (hm' : q.new.length = m') (h1 : Shut1 p q n n') (h2 : Shut2 p q m m') : passH p q = none := by
  subst hn hn' hm hm'
  unfold Shut1 at h1
  unfold Shut2 at h2
  cases h : passH p q with
  | none => rfl
  | some z =>
    obtain ⟨_, _, h3, h4, h5⟩ := passH_may h
    rcases pass_cases (x := z.1) (y := z.2) h3 with ⟨a1, a2, a3⟩ | ⟨a1, a2, a3⟩
    · rw [a2] at h4; rw [a3] at h5; exact absurd ⟨a1, h4, h5⟩ h1
    · rw [a2] at h4; rw [a3] at h5; exact absurd ⟨a1, h4, h5⟩ h2
theorem passH_open1 {p q : HU} {n n' : Nat} (hn : p.old.length = n) (hn' : p.new.length = n') (h1 : mayH p = true) (h2 : mayH q = true) (h : p.pos + n' < q.pos) (h3 : q.pos - n' + n ≤ 1048576) (h4 : p.pos ≤ 1048576) : passH p q = some (at_ q (q.pos - n' + n), p) := by
  subst hn hn'
  exact passH_some h1 h2 (pass_ahead h) h3 h4
theorem passH_open2 {p q : HU} {m m' : Nat} (hm : q.old.length = m) (hm' : q.new.length = m') (h1 : mayH p = true) (h2 : mayH q = true) (h : q.pos + m < p.pos) (h3 : q.pos ≤ 1048576) (h4 : p.pos - m + m' ≤ 1048576) : passH p q = some (q, at_ p (p.pos - m + m')) := by
  subst hm hm'
  exact passH_some h1 h2 (pass_behind h) h3 h4

theorem zero_HV (w : World) (B : Nat) : HV w B none 0 0 none 0 0 zeroH := ⟨rfl, rfl, Nat.le_refl _, Nat.le_refl _, Nat.zero_le _, Nat.zero_le _, .inl rfl, .inl rfl, ⟨by decide, by decide⟩⟩
theorem passEnd_none {w w' : World} {o : Option (HU × HU)} (ho : o = none) (hb : Below w.heap.size w w') : PassEnd w o (.returned (.tuple #[hkV 0 none 0 0 none 0 0, hkV 0 none 0 0 none 0 0, .bool false])) w' := by
  subst ho
  exact ⟨none, 0, 0, none, 0, 0, none, 0, 0, none, 0, 0, rfl, zero_HV _ _, zero_HV _ _, hb⟩

theorem passEndH_none {w w' : World} {o : Option (HU × HU)} (ho : o = none) (hb : Below w.heap.size w w') : PassEndH w o (.returned (.tuple #[hkV 0 none 0 0 none 0 0, hkV 0 none 0 0 none 0 0, .bool false])) w' := by
  subst ho
  exact ⟨none, 0, 0, none, 0, 0, none, 0, 0, none, 0, 0, rfl, zero_HV _ _, zero_HV _ _, ⟨hi_none _, hi_none _, hi_none _, hi_none _⟩, hb⟩

theorem passEnd_some {w w' : World} {x y : HU} {e : Ending} (h : PassEnd w (some (x, y)) e w') :
    ∃ A c A' c' D k D' k', e = .returned (.tuple #[hkV x.pos A x.old.length c A' x.new.length c', hkV y.pos D y.old.length k D' y.new.length k', .bool true]) ∧
      HV w' w'.heap.size A x.old.length c A' x.new.length c' x ∧ HV w' w'.heap.size D y.old.length k D' y.new.length k' y ∧ Below w.heap.size w w' := by
  obtain ⟨A, n, c, A', n', c', D, m, k, D', m', k', rfl, v1, v2, hb⟩ := h
  obtain rfl : x.old.length = n := v1.l
  obtain rfl : x.new.length = n' := v1.l'
  obtain rfl : y.old.length = m := v2.l
  obtain rfl : y.new.length = m' := v2.l'
  exact ⟨A, c, A', c', D, k, D', k', rfl, v1, v2, hb⟩

/-- Two structs stored, one behind the other. -/
theorem two_set {W : World} {b b' : Nat} {t : TypeId} {x0 x1 x2 y0 y1 y2 : Value} (h : Blk W b t #[x0, x1, x2]) (h' : Blk W b' t #[y0, y1, y2]) (hne : b ≠ b') (v0 v1 v2 u0 u1 u2 : Value) :
    Blk ((((((W.setCell ⟨b, 0, none⟩ v0).setCell ⟨b, 1, none⟩ v1).setCell ⟨b, 2, none⟩ v2).setCell ⟨b', 0, none⟩ u0).setCell ⟨b', 1, none⟩ u1).setCell ⟨b', 2, none⟩ u2) b t #[v0, v1, v2] ∧
    Blk ((((((W.setCell ⟨b, 0, none⟩ v0).setCell ⟨b, 1, none⟩ v1).setCell ⟨b, 2, none⟩ v2).setCell ⟨b', 0, none⟩ u0).setCell ⟨b', 1, none⟩ u1).setCell ⟨b', 2, none⟩ u2) b' t #[u0, u1, u2] :=
  ⟨(((((h.set 0 v0).set 1 v1).set 2 v2).set_ne hne 0 u0).set_ne hne 1 u1).set_ne hne 2 u2,
   (((((h'.set_ne hne.symm 0 v0).set_ne hne.symm 1 v1).set_ne hne.symm 2 v2).set 0 u0).set 1 u1).set 2 u2⟩
theorem below_set6 {B : Nat} {w W : World} {b b' : Nat} (h : Below B w W) (hb : B ≤ b) (hb' : B ≤ b') (v0 v1 v2 u0 u1 u2 : Value) :
    Below B w ((((((W.setCell ⟨b, 0, none⟩ v0).setCell ⟨b, 1, none⟩ v1).setCell ⟨b, 2, none⟩ v2).setCell ⟨b', 0, none⟩ u0).setCell ⟨b', 1, none⟩ u1).setCell ⟨b', 2, none⟩ u2) :=
  (((((h.setCell (p := ⟨b, 0, none⟩) hb v0).setCell (p := ⟨b, 1, none⟩) hb v1).setCell (p := ⟨b, 2, none⟩) hb v2).setCell (p := ⟨b', 0, none⟩) hb' u0).setCell (p := ⟨b', 1, none⟩) hb' u1).setCell (p := ⟨b', 2, none⟩) hb' u2

/-- What reads as lines reads so still where a hunk's variable is set. -/
theorem rdS_hset {W : World} {B b : Nat} {t : TypeId} {x0 : Int} {A1 A2 : Option Addr} {n1 c1 n2 c2 : Nat} {A : Option Addr} {ls : List (List UInt8)} (hb : Blk W b t #[.int .i64 x0, .slice A1 n1 c1, .slice A2 n2 c2]) (j : Nat) (v : Value) (hR : RdS W B A ls) : RdS (W.setCell ⟨b, j, none⟩ v) B A ls := by
  rcases hR with h | ⟨a, e, hlt, hc⟩
  · exact .inl h
  · refine .inr ⟨a, e, hlt, fun i u hu => ?_⟩
    have hcell := hc i u hu
    refine cell_set hcell (fun eq => ?_) j v
    rw [List.getElem?_map, Option.map_eq_some_iff] at hu
    obtain ⟨l, _, rfl⟩ := hu
    unfold World.cell? at hcell
    rw [eq, show W.heap[b]? = _ from hb] at hcell
    simp only at hcell
    split at hcell
    · cases hcell
    · match hi : (a.add i).off with
      | 0 => rw [hi] at hcell; simp [strV] at hcell
      | 1 => rw [hi] at hcell; simp [strV] at hcell
      | 2 => rw [hi] at hcell; simp [strV] at hcell
      | k + 3 => rw [hi] at hcell; simp at hcell
theorem hv_set3 {W : World} {B b : Nat} {t : TypeId} {x0 : Int} {A1 A2 : Option Addr} {n1 c1 n2 c2 : Nat} {A A' : Option Addr} {n c n' c' : Nat} {h : HU} (hb : Blk W b t #[.int .i64 x0, .slice A1 n1 c1, .slice A2 n2 c2]) (i : Int) (D : Option Addr) (m k : Nat) (D' : Option Addr) (m' k' : Nat)
    (hv : HV W B A n c A' n' c' h) : HV (((W.setCell ⟨b, 0, none⟩ (.int .i64 i)).setCell ⟨b, 1, none⟩ (.slice D m k)).setCell ⟨b, 2, none⟩ (.slice D' m' k')) B A n c A' n' c' h :=
  have b1 : Blk (W.setCell ⟨b, 0, none⟩ (.int .i64 i)) b t #[.int .i64 i, .slice A1 n1 c1, .slice A2 n2 c2] := hb.set 0 _
  have b2 : Blk ((W.setCell ⟨b, 0, none⟩ (.int .i64 i)).setCell ⟨b, 1, none⟩ (.slice D m k)) b t #[.int .i64 i, .slice D m k, .slice A2 n2 c2] := b1.set 1 _
  ⟨hv.l, hv.l', hv.k, hv.k', hv.m, hv.m', rdS_hset b2 _ _ (rdS_hset b1 _ _ (rdS_hset hb _ _ hv.r)), rdS_hset b2 _ _ (rdS_hset b1 _ _ (rdS_hset hb _ _ hv.r')), hv.p⟩
theorem hv_set6 {W : World} {B b b' : Nat} {t : TypeId} {x0 y0 : Int} {A1 A2 E1 E2 : Option Addr} {n1 c1 n2 c2 m1 k1 m2 k2 : Nat} {A A' : Option Addr} {n c n' c' : Nat} {h : HU} (hb : Blk W b t #[.int .i64 x0, .slice A1 n1 c1, .slice A2 n2 c2]) (hb' : Blk W b' t #[.int .i64 y0, .slice E1 m1 k1, .slice E2 m2 k2]) (hne : b ≠ b')
    (i : Int) (D : Option Addr) (m k : Nat) (D' : Option Addr) (m' k' : Nat) (j : Int) (G : Option Addr) (o l : Nat) (G' : Option Addr) (o' l' : Nat) (hv : HV W B A n c A' n' c' h) :
    HV ((((((W.setCell ⟨b, 0, none⟩ (.int .i64 i)).setCell ⟨b, 1, none⟩ (.slice D m k)).setCell ⟨b, 2, none⟩ (.slice D' m' k')).setCell ⟨b', 0, none⟩ (.int .i64 j)).setCell ⟨b', 1, none⟩ (.slice G o l)).setCell ⟨b', 2, none⟩ (.slice G' o' l')) B A n c A' n' c' h :=
  hv_set3 (((hb'.set_ne hne.symm 0 _).set_ne hne.symm 1 _).set_ne hne.symm 2 _) j G o l G' o' l' (hv_set3 hb i D m k D' m' k' hv)

end Sw
end Go.Proofs.Ytcfoodbfapldbaa

namespace Go.Proofs.Ytcfoodbfapldbaa
open Go.RowKit
set_option linter.unusedVariables false
namespace Sw
open Tx Df Sq Hk

theorem outH_lines (p q : HU) : outH (passH p q) = (zeroH, zeroH) ∨ ((outH (passH p q)).1.old = q.old ∧ (outH (passH p q)).1.new = q.new ∧ (outH (passH p q)).2.old = p.old ∧ (outH (passH p q)).2.new = p.new) := by
  cases h : passH p q with
  | none => exact .inl rfl
  | some z =>
    obtain ⟨_, _, h3, _⟩ := passH_may h
    exact .inr (pass_moves (x := z.1) (y := z.2) h3).2

/-- What Pass tells of short hunks: short hunks. -/
theorem passL_end {w w' : World} {p q x y : HU} {b : Bool} {e : Ending} {n n' m m' : Nat} (h : PassEnd w (passH p q) e w') (b1 : p.old.length = n) (b2 : p.new.length = n') (b3 : q.old.length = m) (b4 : q.new.length = m') (hn : n ≤ 1000) (hn' : n' ≤ 1000) (hm : m ≤ 1000) (hm' : m' ≤ 1000)
    (hx : outH (passH p q) = (x, y)) (hb : (passH p q).isSome = b) :
    ∃ A n c A' n' c' D m k D' m' k', e = .returned (.tuple #[hkV x.pos A n c A' n' c', hkV y.pos D m k D' m' k', .bool b]) ∧
      HV w' w'.heap.size A n c A' n' c' x ∧ HV w' w'.heap.size D m k D' m' k' y ∧ (n ≤ 1000 ∧ n' ≤ 1000 ∧ m ≤ 1000 ∧ m' ≤ 1000) ∧ Below w.heap.size w w' := by
  have hl := outH_lines p q
  unfold PassEnd at h
  rw [hx, hb] at h
  rw [hx] at hl
  obtain ⟨A1, n1, c1, A2, n2, c2, D1, m1, k1, D2, m2, k2, rfl, v1, v2, hbl⟩ := h
  refine ⟨A1, n1, c1, A2, n2, c2, D1, m1, k1, D2, m2, k2, rfl, v1, v2, ?_, hbl⟩
  have a1 := v1.l; have a2 := v1.l'; have a3 := v2.l; have a4 := v2.l'
  rcases hl with hl | ⟨l1, l2, l3, l4⟩
  · injection hl with l1 l2
    subst l1 l2
    simp only [zeroH, List.length_nil] at a1 a2 a3 a4
    omega
  · rw [l1] at a1; rw [l2] at a2; rw [l3] at a3; rw [l4] at a4
    omega

theorem Same_self (A : Option Addr) (n c : Nat) (A' : Option Addr) (n' c' : Nat) (D : Option Addr) (m k : Nat) (D' : Option Addr) (m' k' B : Nat) (h : HU) (w : World) (hB : B ≤ w.heap.size) (hv : HV w B A n c A' n' c' h) (gv : HV w B D m k D' m' k' h) :
    Calls Try.prog 58 #[hkV h.pos A n c A' n' c', hkV h.pos D m k D' m' k'] w (TestEnd w true) := by
  have := SameH A n c A' n' c' D m k D' m' k' B h h w hB hv gv
  rw [sameH_self] at this
  exact this

theorem mayH_moved {g h : HU} (hm : mayH g = true) (ho : h.old = g.old) (hn : h.new = g.new) (h0 : 0 ≤ h.pos) (h1 : h.pos ≤ 1048576) : mayH h = true := by
  unfold mayH at hm ⊢
  rw [ho, hn]
  simp only [Bool.and_eq_true, decide_eq_true_eq] at hm ⊢
  exact ⟨⟨h0, h1⟩, hm.2⟩
/-- What passed may be. -/
theorem passH_mays {p q x y : HU} (h : passH p q = some (x, y)) : mayH x = true ∧ mayH y = true := by
  obtain ⟨h1, h2, h3, h4, h5⟩ := passH_may h
  obtain ⟨a1, a2⟩ := pass_pos (x := x) (y := y) h3 (mayH_pos h1).1 (mayH_pos h2).1
  obtain ⟨_, b1, b2, b3, b4⟩ := pass_moves (x := x) (y := y) h3
  exact ⟨mayH_moved h2 b1 b2 a1 h4, mayH_moved h1 b3 b4 a2 h5⟩
theorem passH_back {p q x y : HU} (h : passH p q = some (x, y)) : passH x y = some (p, q) := by
  obtain ⟨h1, h2, h3, h4, h5⟩ := passH_may h
  obtain ⟨m1, m2⟩ := passH_mays h
  exact passH_some m1 m2 (pass_back (x := x) (y := y) h3) (mayH_pos h1).2 (mayH_pos h2).2
theorem passH_touch {p q : HU} (h1 : p.pos ≤ q.pos) (h2 : q.pos ≤ p.pos + p.new.length) : passH p q = none := by
  unfold passH
  rw [pass_touch h1 h2]
  split <;> rfl
theorem passH_three {p q r q1 p1 r1 p2 r2 q2 r3 q3 r4 p3 q4 p4 : HU} (i : passH p q = some (q1, p1)) (j : passH p1 r = some (r1, p2)) (k : passH q1 r1 = some (r2, q2))
    (l : passH q r = some (r3, q3)) (m : passH p r3 = some (r4, p3)) (n : passH p3 q3 = some (q4, p4)) : r2 = r4 ∧ q2 = q4 ∧ p2 = p4 :=
  pass_three (passH_may i).2.2.1 (passH_may j).2.2.1 (passH_may k).2.2.1 (passH_may l).2.2.1 (passH_may m).2.2.1 (passH_may n).2.2.1
/-- Where both change a list, those that are told do so, to the same. -/
theorem passH_same {l : List (List UInt8)} {p q x y : HU} (h : passH p q = some (x, y)) (h1 : applyE l p = 0) (h2 : applyE (applyL l p) q = 0) : applyE l x = 0 ∧ applyE (applyL l x) y = 0 ∧ applyL (applyL l x) y = applyL (applyL l p) q := by
  obtain ⟨m1, m2⟩ := passH_mays h
  obtain ⟨k, e1, e2⟩ := pass_same (passH_may h).2.2.1 (apply_done h1) (apply_done h2)
  obtain ⟨a1, a2⟩ := done_apply m1 e1
  subst a2
  obtain ⟨b1, b2⟩ := done_apply m2 e2
  exact ⟨a1, b1, b2⟩
/-- Turned they pass just if they do, in the other order. -/
theorem passH_turn {p q x y : HU} (h : passH p q = some (x, y)) : passH (turn q) (turn p) = some (turn y, turn x) := by
  obtain ⟨h1, h2, h3, h4, h5⟩ := passH_may h
  exact passH_some (by rw [mayH_turn]; exact h2) (by rw [mayH_turn]; exact h1) (pass_turn (x := x) (y := y) h3) h5 h4
theorem passH_turn_none {p q : HU} (h : passH p q = none) : passH (turn q) (turn p) = none := by
  cases hb : passH (turn q) (turn p) with
  | none => rfl
  | some z =>
    have := passH_turn (x := z.1) (y := z.2) hb
    rw [turn_turn, turn_turn, h] at this
    cases this
theorem none_of {α : Type} {o : Option α} (h : o.isSome = false) : o = none := by cases o with | none => rfl | some _ => cases h
theorem outH_none {o : Option (HU × HU)} {x y : HU} (h : outH o = (x, y)) (hb : o.isSome = false) : x = zeroH ∧ y = zeroH := by
  cases o with
  | none => injection h with h1 h2; exact ⟨h1.symm, h2.symm⟩
  | some z => cases hb

theorem outH_some {o : Option (HU × HU)} {x y : HU} (h : o = some (x, y)) : outH o = (x, y) := by subst h; rfl
theorem outH_of {o : Option (HU × HU)} {x y : HU} (h : outH o = (x, y)) (hb : o.isSome = true) : o = some (x, y) := by
  cases o with
  | none => cases hb
  | some z => exact congrArg some h

end Sw
end Go.Proofs.Ytcfoodbfapldbaa
