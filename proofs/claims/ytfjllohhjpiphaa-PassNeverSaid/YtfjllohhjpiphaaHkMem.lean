/-
  Words for memory, layer 5: a hunk by value, and a slice value that reads as a list of hunks. No function of the program is walked here.
-/
import Derived.Test.YtfjllohhjpiphaaGQ
import Derived.Test.YtfjllohhjpiphaaGP
set_option maxRecDepth 100000
namespace Go.Proofs.Ytfjllohhjpiphaa
open Go.RowKit
set_option linter.unusedVariables false
namespace Hk
open Tx Df

abbrev HU : Type := Hu (List UInt8)

/-- The value of a hunk. -/
abbrev hkV (p : Int) (A : Option Addr) (n c : Nat) (A' : Option Addr) (n' c' : Nat) : Value := .agg #[.int .i64 p, .slice A n c, .slice A' n' c']

/-- Two slice values that read, below block B, as a hunk's lines. -/
structure HV (w : World) (B : Nat) (A : Option Addr) (n c : Nat) (A' : Option Addr) (n' c' : Nat) (h : HU) : Prop where
  l : h.old.length = n
  l' : h.new.length = n'
  k : n ≤ c
  k' : n' ≤ c'
  m : n ≤ maxLen
  m' : n' ≤ maxLen
  r : RdS w B A h.old
  r' : RdS w B A' h.new
  p : I64 h.pos

/-- The cells of a hunk at the address a, its lines below block B. -/
structure HkAt (w : World) (B : Nat) (a : Addr) (k : Nat) (h : HU) : Prop where
  c0 : w.cell? (a.add (k * 3)) = some (.int .i64 h.pos)
  c1 : ∃ A c A' c', w.cell? ⟨(a.add (k * 3)).block, (a.add (k * 3)).off + 1, none⟩ = some (.slice A h.old.length c) ∧ w.cell? ⟨(a.add (k * 3)).block, (a.add (k * 3)).off + 2, none⟩ = some (.slice A' h.new.length c') ∧ HV w B A h.old.length c A' h.new.length c' h

/-- The address A leads, below block B, to hunks; or there are none. -/
def RdH (w : World) (B : Nat) (A : Option Addr) (hs : List HU) : Prop :=
  hs = [] ∨ ∃ a, A = some a ∧ a.block < B ∧ ∀ (k : Nat) x, hs[k]? = some x → HkAt w B a k x

section
variable {w w' : World} {B B' : Nat} {A A' : Option Addr} {n c n' c' : Nat} {h : HU} {hs : List HU}
theorem HV.below (v : HV w B A n c A' n' c' h) (hb : Below B w w') : HV w' B A n c A' n' c' h := ⟨v.l, v.l', v.k, v.k', v.m, v.m', Rd.below v.r hb, Rd.below v.r' hb, v.p⟩
theorem HV.up (v : HV w B A n c A' n' c' h) (hB : B ≤ B') : HV w B' A n c A' n' c' h := ⟨v.l, v.l', v.k, v.k', v.m, v.m', Rd.up v.r hB, Rd.up v.r' hB, v.p⟩
theorem HV.drewN (v : HV w B A n c A' n' c' h) (d : Nat) : HV (w.drewN d) B A n c A' n' c' h := ⟨v.l, v.l', v.k, v.k', v.m, v.m', Rd.drewN v.r d, Rd.drewN v.r' d, v.p⟩
theorem HV.turn (v : HV w B A n c A' n' c' h) : HV w B A' n' c' A n c (turn h) := ⟨v.l', v.l, v.k', v.k, v.m', v.m, v.r', v.r, v.p⟩
theorem HkAt.below {a : Addr} {k : Nat} (x : HkAt w B a k h) (ha : a.block < B) (hb : Below B w w') : HkAt w' B a k h := by
  obtain ⟨c0, A, c, A', c', c1, c2, v⟩ := x
  exact ⟨(hb.cell (by rw [add_block]; exact ha)).trans c0, A, c, A', c', (hb.cell (by show (a.add (k * 3)).block < B; rw [add_block]; exact ha)).trans c1, (hb.cell (by show (a.add (k * 3)).block < B; rw [add_block]; exact ha)).trans c2, v.below hb⟩
theorem HkAt.up {a : Addr} {k : Nat} (x : HkAt w B a k h) (hB : B ≤ B') : HkAt w B' a k h := by
  obtain ⟨c0, A, c, A', c', c1, c2, v⟩ := x
  exact ⟨c0, A, c, A', c', c1, c2, v.up hB⟩
theorem RdH.below (h : RdH w B A hs) (hb : Below B w w') : RdH w' B A hs := by
  rcases h with h | ⟨a, e, hlt, hc⟩
  · exact .inl h
  · exact .inr ⟨a, e, hlt, fun k x hx => (hc k x hx).below hlt hb⟩
theorem RdH.up (h : RdH w B A hs) (hB : B ≤ B') : RdH w B' A hs := by
  rcases h with h | ⟨a, e, hlt, hc⟩
  · exact .inl h
  · exact .inr ⟨a, e, by omega, fun k x hx => (hc k x hx).up hB⟩
theorem RdH.at_ (h : RdH w B A hs) {k : Nat} (hk : k < hs.length) : ∃ a, A = some a ∧ a.block < B ∧ HkAt w B a k hs[k] := by
  rcases h with rfl | ⟨a, e, hlt, hc⟩
  · exact absurd hk (by simp)
  · exact ⟨a, e, hlt, hc k _ (List.getElem?_eq_getElem hk)⟩
end

def mayH (h : HU) : Bool := decide (0 ≤ h.pos) && decide (h.pos ≤ 1048576) && (allMay h.old && allMay h.new)
def sameH (g h : HU) : Bool := decide (g.pos = h.pos) && (decide (g.old = h.old) && decide (g.new = h.new))

theorem below_box {w w' : World} (o : Obj) (h : Below (w.alloc o).heap.size (w.alloc o) w') : Below w.heap.size w w' := ((Below.refl _ _).alloc (Nat.le_refl _) o).trans (h.mono (by simp))

end Hk
end Go.Proofs.Ytfjllohhjpiphaa
