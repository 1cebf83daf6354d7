/-
  Files in a row: cut, joined, one more, one less. No function of the program is walked here.
-/
import Derived.Test.YtfjllohhjpiphaaTrMem
set_option maxRecDepth 100000
namespace Go.Proofs.Ytfjllohhjpiphaa
open Go.RowKit
set_option linter.unusedVariables false
namespace Tr
open Tx

theorem FCells.take {W : World} {row : Option Nat} {t : TR} {xs : List Value} (h : FCells W row t xs) (p : Nat) : FCells W row (t.take p) (xs.take (p * 2)) := fun k x hx => by
  rw [List.getElem?_take] at hx
  split at hx
  · rename_i hk
    obtain ⟨A, c, h1, h2, h3, h4⟩ := h k x hx
    exact ⟨A, c, by rw [List.getElem?_take, if_pos (by omega)]; exact h1, by rw [List.getElem?_take, if_pos (by omega)]; exact h2, h3, h4⟩
  · cases hx
theorem FCells.drop {W : World} {row : Option Nat} {t : TR} {xs : List Value} (h : FCells W row t xs) (p : Nat) : FCells W row (t.drop p) (xs.drop (p * 2)) := fun k x hx => by
  rw [List.getElem?_drop] at hx
  obtain ⟨A, c, h1, h2, h3, h4⟩ := h (p + k) x hx
  exact ⟨A, c, by rw [List.getElem?_drop, show p * 2 + k * 2 = (p + k) * 2 by omega]; exact h1, by rw [List.getElem?_drop, show p * 2 + (k * 2 + 1) = (p + k) * 2 + 1 by omega]; exact h2, h3, h4⟩
theorem FCells.append {W : World} {row : Option Nat} {t u : TR} {xs ys : List Value} (h : FCells W row t xs) (hl : xs.length = t.length * 2) (h' : FCells W row u ys) : FCells W row (t ++ u) (xs ++ ys) := fun k x hx => by
  rcases Nat.lt_or_ge k t.length with hk | hk
  · rw [List.getElem?_append_left hk] at hx
    obtain ⟨A, c, h1, h2, h3, h4⟩ := h k x hx
    exact ⟨A, c, by rw [List.getElem?_append_left (by omega)]; exact h1, by rw [List.getElem?_append_left (by omega)]; exact h2, h3, h4⟩
  · rw [List.getElem?_append_right hk] at hx
    obtain ⟨A, c, h1, h2, h3, h4⟩ := h' _ x hx
    refine ⟨A, c, ?_, ?_, h3, h4⟩
    · rw [List.getElem?_append_right (by omega), hl, show k * 2 - t.length * 2 = (k - t.length) * 2 by omega]; exact h1
    · rw [List.getElem?_append_right (by omega), hl, show k * 2 + 1 - t.length * 2 = (k - t.length) * 2 + 1 by omega]; exact h2
theorem FCells.one {W : World} {row : Option Nat} {x : FL} {A : Option Addr} {m c : Nat} (hm : x.2.length = m) (hc : m ≤ c) (hr : RdX W row A x.2) : FCells W row [x] [strV x.1, .slice A m c] := fun k y hy => by
  cases k with
  | zero =>
    cases hy
    subst hm
    exact ⟨A, c, rfl, rfl, hc, hr⟩
  | succ k => simp at hy
/-- One file more. -/
theorem FCells.ins {W : World} {row : Option Nat} {t : TR} {xs : List Value} {s : List UInt8} {l : List (List UInt8)} {A : Option Addr} {m c p : Nat} (h : FCells W row t xs) (hl : xs.length = t.length * 2) (hp : p ≤ t.length) (hm : l.length = m) (hc : m ≤ c) (hr : RdX W row A l) :
    FCells W row (t.take p ++ (s, l) :: t.drop p) (xs.take (p * 2) ++ ([strV s, .slice A m c] ++ xs.drop (p * 2))) :=
  (h.take p).append (by rw [List.length_take, List.length_take, hl]; omega) ((FCells.one (x := (s, l)) hm hc hr).append rfl (h.drop p))
/-- One file less. -/
theorem FCells.del {W : World} {row : Option Nat} {t : TR} {xs : List Value} {p : Nat} (h : FCells W row t xs) (hl : xs.length = t.length * 2) (hp : p ≤ t.length) : FCells W row (t.take p ++ t.drop (p + 1)) (xs.take (p * 2) ++ xs.drop ((p + 1) * 2)) :=
  (h.take p).append (by rw [List.length_take, List.length_take, hl]; omega) (h.drop (p + 1))

theorem FCells.one_cell {W : World} {row : Option Nat} {t : TR} {xs : List Value} (h : FCells W row t xs) (hl : xs.length = t.length * 2) : ∀ u ∈ xs, u.oneCell' = true := by
  intro u hu
  obtain ⟨j, hj, rfl⟩ := List.mem_iff_getElem.1 hu
  have hk : j / 2 < t.length := by omega
  obtain ⟨A, c, h1, h2, _⟩ := h (j / 2) t[j / 2] (List.getElem?_eq_getElem hk)
  rcases Nat.mod_two_eq_zero_or_one j with e | e
  · have : xs[j]? = some (strV t[j / 2].1) := by rw [← h1]; congr 1; omega
    rw [List.getElem?_eq_getElem hj] at this
    injection this with this
    rw [this]; simp [Value.oneCell']
  · have : xs[j]? = some (.slice A t[j / 2].2.length c) := by rw [← h2]; congr 1; omega
    rw [List.getElem?_eq_getElem hj] at this
    injection this with this
    rw [this]; simp [Value.oneCell']

theorem upd_set {t : TR} {n : List UInt8} {l : List (List UInt8)} {k : Nat} (h : ixF (isN n) t = some k) : upd t n l = t.set k (n, l) := by
  obtain ⟨hk, h1, _, h3⟩ := get_ix h
  rw [upd_at hk h1 h3, List.set_eq_take_append_cons_drop, if_pos hk]

end Tr
end Go.Proofs.Ytfjllohhjpiphaa
