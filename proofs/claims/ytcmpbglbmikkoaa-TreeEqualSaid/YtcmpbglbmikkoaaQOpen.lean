/-
  What a reading of an argument tells the walks: a slice of strings leads to the cells of a list.
-/
import Derived.Test.YtcmpbglbmikkoaaRows
import Derived.Test.YtcmpbglbmikkoaaQMem
import Derived.ProofKit
import Derived.OpenShut
import Derived.ShutString
import Derived.ChangeOld
import Derived.Below
namespace Go.Proofs.Ytcmpbglbmikkoaa
open Go.ChangeShapes Go.WideShapes Go.ChangeAt Go.RowKit
namespace Tx

theorem lt_of_cell {w : World} {a : Addr} {v : Value} (h : w.cell? a = some v) : a.block < w.heap.size := by
  rcases Nat.lt_or_ge a.block w.heap.size with h' | h'
  · exact h'
  · simp [World.cell?, Array.getElem?_eq_none h'] at h

theorem rd_in {w : World} {a : Addr} {xs : List Value} (h : ∀ j u, xs[j]? = some u → w.cell? (a.add j) = some u) : Rd w w.heap.size (some a) xs := by
  cases xs with
  | nil => exact .inl rfl
  | cons x xs =>
    have h0 := lt_of_cell (h 0 x rfl)
    rw [add_block] at h0
    exact .inr ⟨a, rfl, h0, h⟩

theorem list_of {α : Type} {P : Nat → α → Prop} : ∀ (n : Nat), (∀ i, i < n → ∃ x, P i x) → ∃ l : List α, l.length = n ∧ ∀ i x, l[i]? = some x → P i x
  | 0, _ => ⟨[], rfl, fun i x h => by simp at h⟩
  | n + 1, h => by
    obtain ⟨l, h1, h2⟩ := list_of n fun i hi => h i (by omega)
    obtain ⟨y, hy⟩ := h n (by omega)
    refine ⟨l ++ [y], by simp [h1], fun i x hx => ?_⟩
    rcases Nat.lt_trichotomy i l.length with hi | hi | hi
    · rw [List.getElem?_append_left hi] at hx; exact h2 i x hx
    · subst hi; rw [List.getElem?_append_right (Nat.le_refl _), Nat.sub_self] at hx; cases hx; rw [h1]; exact hy
    · rw [List.getElem?_eq_none (by simp; omega)] at hx; cases hx

theorem i64_wf {n : Int} (h : (Lit.int .i64 n).wf = true) : I64 n := by
  simp only [Lit.wf, Bool.and_eq_true, decide_eq_true_eq] at h
  have h1 : IntKind.i64.min = -9223372036854775808 := by decide
  have h2 : IntKind.i64.max = 9223372036854775807 := by decide
  rw [h1, h2] at h
  exact h

/-- A slice of strings that is handed in: it reads as l. -/
structure StrArg (w : World) (A : Option Addr) (n c : Nat) (l : List (List UInt8)) : Prop where
  len : l.length = n
  cap : n ≤ c
  le : n ≤ maxLen
  rd : RdS w w.heap.size A l
  short : ∀ x ∈ l, x.length ≤ maxLen

section
variable {H : Type} {enc : TypeId × Value → H} {W : World} {base : Nat} {spare : Nat → Bool} {held : Bool}

theorem strs_in {fuel : Nat} {cs : List Value} {x : DataW H × List MemPlace} {A : Option Addr} {l c : Nat} (h : DataW.trod enc Try.prog W base spare held fuel 24 cs = some x) (hcs : cs = [.slice A l c]) :
    ∃ ls : List (List UInt8), StrArg W A l c ls := by
  rcases open_strings Try.underlying24 Try.underlying9 (by kernel_rfl) h with ⟨hcs', _⟩ | ⟨a, l', c', ss, hcs', _, hl, hm, hz, _, hcell, hws⟩
  · rw [hcs] at hcs'
    simp at hcs'
    obtain ⟨rfl, rfl, rfl⟩ := hcs'
    exact ⟨[], rfl, Nat.le_refl _, Nat.zero_le _, .inl rfl, fun x hx => by cases hx⟩
  · rw [hcs] at hcs'
    simp at hcs'
    obtain ⟨rfl, rfl, rfl⟩ := hcs'
    have hzl : l ≤ ss.length := by rw [hz]; split <;> omega
    refine ⟨(ss.take l).map fun s => s.data.toList, by simp; omega, hl, by omega, rd_in fun j u hu => ?_, fun x hx => ?_⟩
    · simp only [List.getElem?_map, Option.map_map] at hu
      rw [List.getElem?_take] at hu
      split at hu
      · have hj : j < ss.length := by omega
        rw [List.getElem?_eq_getElem hj] at hu
        simp at hu
        rw [hcell j hj, ← hu]
        simp [hj]
      · cases hu
    · obtain ⟨s, hs, rfl⟩ := List.mem_map.1 hx
      show s.data.toList.length ≤ maxLen
      rw [Array.length_toList]
      exact hws s (List.mem_of_mem_take hs)
theorem strs_any {fuel : Nat} {v : Value} {x : DataW H × List MemPlace} (h : DataW.trod enc Try.prog W base spare held fuel 24 [v] = some x) : ∃ A n c ls, v = .slice A n c ∧ StrArg W A n c ls := by
  obtain ⟨A, n, c, rfl⟩ : ∃ A n c, v = .slice A n c := by
    rcases open_strings Try.underlying24 Try.underlying9 (by kernel_rfl) h with ⟨h', _⟩ | ⟨a, l', c', ss, h', _⟩
    · injection h' with h'; exact ⟨_, _, _, h'⟩
    · injection h' with h'; exact ⟨_, _, _, h'⟩
  obtain ⟨ls, hs⟩ := strs_in h rfl
  exact ⟨A, n, c, ls, rfl, hs⟩
end

end Tx
end Go.Proofs.Ytcmpbglbmikkoaa
