/-
  What a reading of an argument tells the walks: a slice of strings leads to the cells of a list.
-/
import Derived.Test.YtkpgkbllcdpobaaRows
import Derived.Test.YtkpgkbllcdpobaaQMem
import Derived.ProofKit
import Derived.OpenShut
import Derived.ShutString
import Derived.ChangeOld
import Derived.Below
namespace Go.Proofs.Ytkpgkbllcdpobaa
open Go.ChangeShapes Go.WideShapes Go.ChangeAt Go.RowKit
namespace Tx

theorem lt_of_cell {w : World} {a : Addr} {v : Value} (h : w.cell? a = some v) : a.block < w.heap.size := by
  rcases Nat.lt_or_ge a.block w.heap.size with h' | h'
  · exact h'
  · simp [World.cell?, Array.getElem?_eq_none h'] at h

theorem rd_in {w : World} {a : Addr} {xs : List Value} (h : ∀ j u, xs[j]? = some u → w.cell? (a.add j) = some u) : Rd w w.heap.size (some a) xs := by
  cases xs with
  | nil => exact .inl rfl
  | cons x xs =>
    have h0 := lt_of_cell (h 0 x rfl)
    rw [add_block] at h0
    exact .inr ⟨a, rfl, h0, h⟩

/-- A slice of strings that is handed in: it reads as l. -/
structure StrArg (w : World) (A : Option Addr) (n c : Nat) (l : List (List UInt8)) : Prop where
  len : l.length = n
  cap : n ≤ c
  le : n ≤ maxLen
  rd : RdS w w.heap.size A l
  short : ∀ x ∈ l, x.length ≤ maxLen

section
variable {H : Type} {enc : TypeId × Value → H} {W : World} {base : Nat} {spare : Nat → Bool} {held : Bool}

theorem strs_in {fuel : Nat} {cs : List Value} {x : DataW H × List MemPlace} {A : Option Addr} {l c : Nat} (h : DataW.trod enc Try.prog W base spare held fuel 22 cs = some x) (hcs : cs = [.slice A l c]) :
    ∃ ls : List (List UInt8), StrArg W A l c ls := by
  rcases open_strings Try.underlying22 Try.underlying9 (by kernel_rfl) h with ⟨hcs', _⟩ | ⟨a, l', c', ss, hcs', _, hl, hm, hz, _, hcell, hws⟩
  · rw [hcs] at hcs'
    simp at hcs'
    obtain ⟨rfl, rfl, rfl⟩ := hcs'
    exact ⟨[], rfl, Nat.le_refl _, Nat.zero_le _, .inl rfl, fun x hx => by cases hx⟩
  · rw [hcs] at hcs'
    simp at hcs'
    obtain ⟨rfl, rfl, rfl⟩ := hcs'
    have hzl : l ≤ ss.length := by rw [hz]; split <;> omega
    refine ⟨(ss.take l).map fun s => s.data.toList, by simp; omega, hl, by omega, rd_in fun j u hu => ?_, fun x hx => ?_⟩
    · simp only [List.getElem?_map, Option.map_map] at hu
      rw [List.getElem?_take] at hu
      split at hu
      · have hj : j < ss.length := by omega
        rw [List.getElem?_eq_getElem hj] at hu
        simp at hu
        rw [hcell j hj, ← hu]
        simp [hj]
      · cases hu
    · obtain ⟨s, hs, rfl⟩ := List.mem_map.1 hx
      show s.data.toList.length ≤ maxLen
      rw [Array.length_toList]
      exact hws s (List.mem_of_mem_take hs)
end

end Tx
end Go.Proofs.Ytkpgkbllcdpobaa
