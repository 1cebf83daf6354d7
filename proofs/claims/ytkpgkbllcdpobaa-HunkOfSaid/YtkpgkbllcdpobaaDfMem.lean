/-
  Words for memory, layer 4: a slice value that reads as a list of edits. No function of the program is walked here.
-/
import Derived.Test.YtkpgkbllcdpobaaQMem
import Derived.Test.YtkpgkbllcdpobaaDfPlain
import Derived.IntWalk
namespace Go.Proofs.Ytkpgkbllcdpobaa
open Go.RowKit
set_option linter.unusedVariables false
namespace Df
open Tx

abbrev E : Type := Ed (List UInt8)

def I64 (n : Int) : Prop := -9223372036854775808 ≤ n ∧ n ≤ 9223372036854775807

/-- The cells of an edit at the address p, its New below block B. -/
structure EdAt (w : World) (B : Nat) (a : Addr) (k : Nat) (x : E) : Prop where
  c0 : w.cell? (a.add (k * 3)) = some (.int .i64 x.pos)
  c1 : w.cell? ⟨(a.add (k * 3)).block, (a.add (k * 3)).off + 1, none⟩ = some (.int .i64 x.old)
  c2 : ∃ A c, w.cell? ⟨(a.add (k * 3)).block, (a.add (k * 3)).off + 2, none⟩ = some (.slice A x.new.length c) ∧ x.new.length ≤ c ∧ RdS w B A x.new
  p : I64 x.pos
  o : I64 x.old
  n : x.new.length ≤ maxLen

/-- The address A leads, below block B, to edits; or there are none. -/
def RdE (w : World) (B : Nat) (A : Option Addr) (es : List E) : Prop :=
  es = [] ∨ ∃ a, A = some a ∧ a.block < B ∧ ∀ (k : Nat) x, es[k]? = some x → EdAt w B a k x

section
variable {w w' : World} {B B' : Nat} {A : Option Addr} {es : List E}
theorem EdAt.below {a : Addr} {k : Nat} {x : E} (h : EdAt w B a k x) (ha : a.block < B) (hb : Below B w w') : EdAt w' B a k x := by
  obtain ⟨c0, c1, ⟨A, c, h2, h3, h4⟩, p, o, n⟩ := h
  exact ⟨(hb.cell (by rw [add_block]; exact ha)).trans c0, (hb.cell (by show (a.add (k * 3)).block < B; rw [add_block]; exact ha)).trans c1, ⟨A, c, (hb.cell (by show (a.add (k * 3)).block < B; rw [add_block]; exact ha)).trans h2, h3, Rd.below h4 hb⟩, p, o, n⟩
theorem EdAt.up {a : Addr} {k : Nat} {x : E} (h : EdAt w B a k x) (hB : B ≤ B') : EdAt w B' a k x := by
  obtain ⟨c0, c1, ⟨A, c, h2, h3, h4⟩, p, o, n⟩ := h
  exact ⟨c0, c1, ⟨A, c, h2, h3, Rd.up h4 hB⟩, p, o, n⟩
theorem RdE.below (h : RdE w B A es) (hb : Below B w w') : RdE w' B A es := by
  rcases h with h | ⟨a, e, hlt, hc⟩
  · exact .inl h
  · exact .inr ⟨a, e, hlt, fun k x hx => (hc k x hx).below hlt hb⟩
theorem RdE.up (h : RdE w B A es) (hB : B ≤ B') : RdE w B' A es := by
  rcases h with h | ⟨a, e, hlt, hc⟩
  · exact .inl h
  · exact .inr ⟨a, e, by omega, fun k x hx => (hc k x hx).up hB⟩
theorem RdE.at_ (h : RdE w B A es) {k : Nat} (hk : k < es.length) : ∃ a, A = some a ∧ a.block < B ∧ EdAt w B a k es[k] := by
  rcases h with rfl | ⟨a, e, hlt, hc⟩
  · exact absurd hk (by simp)
  · exact ⟨a, e, hlt, hc k _ (List.getElem?_eq_getElem hk)⟩
end

theorem cost_snoc (l : List E) (x : E) : cost (l ++ [x]) = cost l + (x.old + x.new.length) := by rw [cost_append]; simp [cost]
theorem wrap_none : wrap64 (cost ([] : List E)) = 0 := by simp [cost, wrap64]
theorem wrap_cost (a b c : Int) : wrap64 (wrap64 a + wrap64 (b + c)) = wrap64 (a + (b + c)) := by unfold wrap64; omega

end Df
end Go.Proofs.Ytkpgkbllcdpobaa
