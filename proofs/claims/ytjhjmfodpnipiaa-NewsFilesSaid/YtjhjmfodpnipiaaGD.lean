/-
  Words and contracts, joined: DfMem DfCost DfApply DfOwn.
-/
import Derived.Test.YtjhjmfodpnipiaaGQ
import Derived.Test.YtjhjmfodpnipiaaGP
import Derived.IntWalk
import Derived.RangeFuncBox
set_option maxRecDepth 100000
namespace Go.Proofs.Ytjhjmfodpnipiaa
open Go.RowKit
set_option linter.unusedVariables false
namespace Df
open Tx

abbrev E : Type := Ed (List UInt8)


/-- The cells of an edit at the address p, its New below block B. -/
structure EdAt (w : World) (B : Nat) (a : Addr) (k : Nat) (x : E) : Prop where
  c0 : w.cell? (a.add (k * 3)) = some (.int .i64 x.pos)
  c1 : w.cell? ⟨(a.add (k * 3)).block, (a.add (k * 3)).off + 1, none⟩ = some (.int .i64 x.old)
  c2 : ∃ A c, w.cell? ⟨(a.add (k * 3)).block, (a.add (k * 3)).off + 2, none⟩ = some (.slice A x.new.length c) ∧ x.new.length ≤ c ∧ RdS w B A x.new
  p : I64 x.pos
  o : I64 x.old
  n : x.new.length ≤ maxLen

/-- The address A leads, below block B, to edits; or there are none. -/
def RdE (w : World) (B : Nat) (A : Option Addr) (es : List E) : Prop :=
  es = [] ∨ ∃ a, A = some a ∧ a.block < B ∧ ∀ (k : Nat) x, es[k]? = some x → EdAt w B a k x

section
variable {w w' : World} {B B' : Nat} {A : Option Addr} {es : List E}
theorem EdAt.below {a : Addr} {k : Nat} {x : E} (h : EdAt w B a k x) (ha : a.block < B) (hb : Below B w w') : EdAt w' B a k x := by
  obtain ⟨c0, c1, ⟨A, c, h2, h3, h4⟩, p, o, n⟩ := h
  exact ⟨(hb.cell (by rw [add_block]; exact ha)).trans c0, (hb.cell (by show (a.add (k * 3)).block < B; rw [add_block]; exact ha)).trans c1, ⟨A, c, (hb.cell (by show (a.add (k * 3)).block < B; rw [add_block]; exact ha)).trans h2, h3, Rd.below h4 hb⟩, p, o, n⟩
theorem EdAt.up {a : Addr} {k : Nat} {x : E} (h : EdAt w B a k x) (hB : B ≤ B') : EdAt w B' a k x := by
  obtain ⟨c0, c1, ⟨A, c, h2, h3, h4⟩, p, o, n⟩ := h
  exact ⟨c0, c1, ⟨A, c, h2, h3, Rd.up h4 hB⟩, p, o, n⟩
theorem RdE.below (h : RdE w B A es) (hb : Below B w w') : RdE w' B A es := by
  rcases h with h | ⟨a, e, hlt, hc⟩
  · exact .inl h
  · exact .inr ⟨a, e, hlt, fun k x hx => (hc k x hx).below hlt hb⟩
theorem RdE.up (h : RdE w B A es) (hB : B ≤ B') : RdE w B' A es := by
  rcases h with h | ⟨a, e, hlt, hc⟩
  · exact .inl h
  · exact .inr ⟨a, e, by omega, fun k x hx => (hc k x hx).up hB⟩
theorem RdE.at_ (h : RdE w B A es) {k : Nat} (hk : k < es.length) : ∃ a, A = some a ∧ a.block < B ∧ EdAt w B a k es[k] := by
  rcases h with rfl | ⟨a, e, hlt, hc⟩
  · exact absurd hk (by simp)
  · exact ⟨a, e, hlt, hc k _ (List.getElem?_eq_getElem hk)⟩
end

theorem cost_snoc (l : List E) (x : E) : cost (l ++ [x]) = cost l + (x.old + x.new.length) := by rw [cost_append]; simp [cost]
theorem wrap_none : wrap64 (cost ([] : List E)) = 0 := by simp [cost, wrap64]
theorem wrap_cost (a b c : Int) : wrap64 (wrap64 a + wrap64 (b + c)) = wrap64 (a + (b + c)) := by unfold wrap64; omega

end Df
end Go.Proofs.Ytjhjmfodpnipiaa

namespace Go.Proofs.Ytjhjmfodpnipiaa
open Go.RowKit
set_option linter.unusedVariables false
namespace Df
open Tx

def NumEnd (w : World) (n : Int) (e : Ending) (w' : World) : Prop := e = .returned (.int .i64 n) ∧ Below w.heap.size w w'

end Df
end Go.Proofs.Ytjhjmfodpnipiaa

namespace Go.Proofs.Ytjhjmfodpnipiaa
open Go.RowKit
set_option linter.unusedVariables false
namespace Df
open Tx

def BoolEnd (w : World) (b : Bool) (e : Ending) (w' : World) : Prop := e = .returned (.bool b) ∧ Below w.heap.size w w'

theorem drop_at {α : Type} {l : List α} {k : Nat} (h : k < l.length) : l.drop k = l[k] :: l.drop (k + 1) := List.drop_eq_getElem_cons h

/-- How Apply ends: what the edits make, and whether they fit. -/
def ApplyEnd (w : World) (o : Option (List (List UInt8))) (e : Ending) (w' : World) : Prop :=
  ∃ v, e = .returned (.tuple #[v, .bool o.isSome]) ∧ App w' w.heap.size 9 v (o.getD []).length ((o.getD []).map strV) ∧ Below w.heap.size w w'

theorem app_below {w w' : World} {base : Nat} {e : TypeId} {v : Value} {n : Nat} {xs : List Value} (h : App w base e v n xs) (hb : Below w.heap.size w w') : App w' base e v n xs := by
  obtain ⟨A, c, h1, h2, h3, h4, h5⟩ := h
  refine ⟨A, c, h1, h2, h3, (Rd.below h4 hb).up hb.size, h5.imp id fun h => ?_⟩
  refine ⟨h.1, ?_⟩
  rcases h.2 with h | ⟨g, cap, cur, k1, k2, k3, k4⟩
  · exact .inl h
  · exact .inr ⟨g, cap, cur, k1, k2, (hb.block g (Array.getElem?_eq_some_iff.1 k3).1).trans k3, k4⟩

theorem cell_of {w : World} {g : Nat} {cs : Array Value} {t : TypeId} {fr : Nat × Nat} (h : w.heap[g]? = some (.cells cs t fr)) (j : Nat) {u : Value} (hu : cs[j]? = some u) : w.cell? ⟨g, j, none⟩ = some u := by
  unfold World.cell?; rw [h]; exact hu

theorem mid_map {a : List (List UInt8)} {i j : Nat} : (mid a i j).map strV = ((a.map strV).drop i).take (j - i) := by
  unfold mid; rw [List.map_take, List.map_drop]

end Df
end Go.Proofs.Ytjhjmfodpnipiaa

namespace Go.Proofs.Ytjhjmfodpnipiaa
open Go.RowKit
set_option linter.unusedVariables false
namespace Df
open Tx

theorem own (A : Option Addr) (c n B : Nat) (ls : List (List UInt8)) (w : World) (hn : ls.length = n) (hln : n ≤ 1000000) (hR : RdS w B A ls) :
    Calls Try.prog 83 #[.slice A n c] w (OwnEnd w n (ls.map strV)) := by
  obtain ⟨j0, hj, hy0, hy1, hy2⟩ := info_parts info_str
  have HN := Lib.hid hn; clear hn
  go_enter Try.func83, Try.ntmps83
  go_wp2_with (at_builtin; refine wpList_nil' rfl (.const (.slice none 0 0)) (.tmp 3) 33 rfl 9 j0 (.string ⟨#[]⟩) 16 Try.underlying33 hj hy0 hy1 hy2 rfl rfl B A n c (ls.map strV) rfl (by rw [List.length_map]; exact HN.out) hR (strs_one _) (by unfold maxLen; omega) (by omega) ?_; intro A' c' w' hA hg)
  go_ret
  exact ⟨A', c', rfl, hA, hg⟩

/-- The cells of edits, their New in rows of one's own. -/
def ECells (W : World) (h : Nat) (es : List E) (xs : List Value) : Prop :=
  xs.length = es.length * 3 ∧ ∀ (k : Nat) x, es[k]? = some x → ∃ A c, xs[k * 3]? = some (.int .i64 x.pos) ∧ xs[k * 3 + 1]? = some (.int .i64 x.old) ∧ xs[k * 3 + 2]? = some (.slice A x.new.length c) ∧
    W.ownsRow h 9 1 (.slice A x.new.length c) x.new.length (x.new.map strV) ∧ I64 x.pos ∧ I64 x.old ∧ x.new.length ≤ maxLen

theorem ecells_nil (W : World) (h : Nat) : ECells W h [] [] := ⟨rfl, fun k x hx => by simp at hx⟩
theorem ecells_snoc {W : World} {h : Nat} {es : List E} {xs : List Value} {x : E} {A : Option Addr} {c : Nat} (he : ECells W h es xs)
    (hr : W.ownsRow h 9 1 (.slice A x.new.length c) x.new.length (x.new.map strV)) (hp : I64 x.pos) (ho : I64 x.old) (hl : x.new.length ≤ maxLen) :
    ECells W h (es ++ [x]) (xs ++ [.int .i64 x.pos, .int .i64 x.old, .slice A x.new.length c]) := by
  obtain ⟨h1, h2⟩ := he
  refine ⟨by simp only [List.length_append, h1, List.length_cons, List.length_nil]; omega, fun k y hy => ?_⟩
  rcases Nat.lt_trichotomy k es.length with hk | rfl | hk
  · rw [List.getElem?_append_left hk] at hy
    obtain ⟨A, c, g1, g2, g3, g⟩ := h2 k y hy
    refine ⟨A, c, ?_, ?_, ?_, g⟩
    · rw [List.getElem?_append_left (by omega)]; exact g1
    · rw [List.getElem?_append_left (by omega)]; exact g2
    · rw [List.getElem?_append_left (by omega)]; exact g3
  · rw [List.getElem?_append_right (Nat.le_refl _), Nat.sub_self] at hy
    cases hy
    refine ⟨A, c, ?_, ?_, ?_, hr, hp, ho, hl⟩
    · rw [← h1, List.getElem?_append_right (Nat.le_refl _), Nat.sub_self]; rfl
    · rw [← h1, List.getElem?_append_right (by omega), Nat.add_sub_cancel_left]; rfl
    · rw [← h1, List.getElem?_append_right (by omega), Nat.add_sub_cancel_left]; rfl
  · rw [List.getElem?_eq_none (by simp; omega)] at hy; cases hy

/-- All blocks are as they were but those of numbers, of edits, and of variables that hold edits. -/
def KpE (W W' : World) : Prop := ∀ (k : Nat) c t f, W.heap[k]? = some (.cells c t f) → t ≠ 3 → t ≠ 87 → t ≠ 90 → W'.heap[k]? = some (.cells c t f)
theorem KpE.refl (W : World) : KpE W W := fun _ _ _ _ h _ _ _ => h
theorem KpE.trans {W W1 W2 : World} (h : KpE W W1) (h' : KpE W1 W2) : KpE W W2 := fun k c t f hk a b d => h' k c t f (h k c t f hk a b d) a b d
theorem kpE_none {W W' : World} (hg : W.grownBy W' none) : KpE W W' := fun k c t f hk _ _ _ => (hg.block k (Array.getElem?_eq_some_iff.1 hk).1 (fun e => by cases e)).trans hk
theorem kpE_grown {base n : Nat} {v : Value} {xs : List Value} {W W' : World} (h : W.ownsRow base 90 3 v n xs) (hg : W.grownBy W' v.ownBlock) : KpE W W' := fun k c t f hk _ _ ht => typ_grown h hg k c t f hk ht
theorem kpE_set {W : World} {b : Nat} {t : TypeId} {u : Value} (v : Value) (hb : Boxed W b t u) (ht : t = 3 ∨ t = 87) : KpE W (W.setCell ⟨b, 0, none⟩ v) := by
  intro k c t' f hk a1 a2 a3
  refine (Below.heap_setCell _ _ _ k (fun e => ?_)).trans hk
  subst e
  rw [show W.heap[k]? = _ from hb] at hk; cases hk
  rcases ht with h | h
  · exact a1 h
  · exact a2 h
theorem kpE_row {W W' : World} {h n : Nat} {v : Value} {xs : List Value} (hr : W.ownsRow h 9 1 v n xs) (hk : KpE W W') : W'.ownsRow h 9 1 v n xs := by
  refine ⟨hr.1, ?_⟩
  rcases hr.2 with h | ⟨g, cap, cur, k1, k2, k3, k4⟩
  · exact .inl h
  · exact .inr ⟨g, cap, cur, k1, k2, hk g _ _ _ k3 (by decide) (by decide) (by decide), k4⟩
theorem ECells.kept {W W' : World} {h : Nat} {es : List E} {xs : List Value} (he : ECells W h es xs) (hk : KpE W W') : ECells W' h es xs := by
  refine ⟨he.1, fun k x hx => ?_⟩
  obtain ⟨A, c, g1, g2, g3, g4, g5⟩ := he.2 k x hx
  exact ⟨A, c, g1, g2, g3, kpE_row g4 hk, g5⟩

/-- A row of edits of one's own is read as edits. -/
theorem rdE_own {W : World} {base h n : Nat} {v : Value} {es : List E} {xs : List Value} (hr : W.ownsRow base 90 3 v n xs) (he : ECells W h es xs) (hn : es.length = n) :
    ∃ A c, v = .slice A n c ∧ n ≤ c ∧ RdE W W.heap.size A es := by
  rcases hr.2 with ⟨rfl, rfl⟩ | ⟨g, cap, cur, rfl, _, hg, hc, _⟩
  · exact ⟨none, 0, rfl, Nat.le_refl _, .inl (List.eq_nil_of_length_eq_zero hn)⟩
  · refine ⟨_, cap, rfl, hc, .inr ⟨_, rfl, (Array.getElem?_eq_some_iff.1 hg).1, fun k x hx => ?_⟩⟩
    obtain ⟨A, c, g1, g2, g3, g4, g5, g6, g7⟩ := he.2 k x hx
    have hk : k < es.length := (List.getElem?_eq_some_iff.1 hx).1
    have ea : (⟨g, 0, none⟩ : Addr).add (k * 3) = ⟨g, k * 3, none⟩ := by unfold Addr.add; split <;> simp_all
    obtain ⟨A0, c0, e0, hc0, hrd⟩ := rd_of_own g4
    cases e0
    refine ⟨?_, ?_, ⟨A, c, ?_, hc0, hrd⟩, g5, g6, g7⟩
    · rw [ea, hr.cellAt (k * 3) (by omega)]; exact g1
    · rw [ea]; show W.cell? ⟨g, k * 3 + 1, none⟩ = _; rw [hr.cellAt (k * 3 + 1) (by omega)]; exact g2
    · rw [ea]; show W.cell? ⟨g, k * 3 + 2, none⟩ = _; rw [hr.cellAt (k * 3 + 2) (by omega)]; exact g3

/-- The edits' new lines lie in memory made behind the first lo blocks. -/
def NewHi (w : World) (lo : Nat) (A : Option Addr) (es : List E) : Prop :=
  ∀ (k : Nat) x, es[k]? = some x → ∃ a A' c', A = some a ∧ w.cell? ⟨(a.add (k * 3)).block, (a.add (k * 3)).off + 2, none⟩ = some (.slice A' x.new.length c') ∧ Hi lo A'
theorem NewHi.mono {w : World} {lo lo' : Nat} {A : Option Addr} {es : List E} (h : NewHi w lo A es) (hl : lo' ≤ lo) : NewHi w lo' A es := fun k x hx => by
  obtain ⟨a, A', c', h1, h2, h3⟩ := h k x hx
  exact ⟨a, A', c', h1, h2, h3.mono hl⟩
theorem newHi_own {W : World} {base h n c : Nat} {A : Option Addr} {es : List E} {xs : List Value} (hr : W.ownsRow base 90 3 (.slice A n c) n xs) (he : ECells W h es xs) (hn : es.length = n) : NewHi W h A es := fun k x hx => by
  have hk : k < es.length := (List.getElem?_eq_some_iff.1 hx).1
  obtain ⟨A', c', g1, g2, g3, g4, _⟩ := he.2 k x hx
  rcases hr.2 with ⟨_, h0⟩ | ⟨g, cap, cur, e, _, hg, hc, _⟩
  · omega
  · injection e with e1 e2 e3
    subst e1
    have ea : (⟨g, 0, none⟩ : Addr).add (k * 3) = ⟨g, k * 3, none⟩ := by unfold Addr.add; split <;> simp_all
    refine ⟨_, A', c', rfl, ?_, hi_own g4⟩
    rw [ea]; show W.cell? ⟨g, k * 3 + 2, none⟩ = _; rw [hr.cellAt (k * 3 + 2) (by omega)]; exact g3

end Df
end Go.Proofs.Ytjhjmfodpnipiaa
