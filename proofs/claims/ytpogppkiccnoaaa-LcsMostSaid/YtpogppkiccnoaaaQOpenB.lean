/-
  What a reading of an argument tells the walks: a slice of bools leads to the cells of a list.
-/
import Derived.Test.YtpogppkiccnoaaaQOpen
namespace Go.Proofs.Ytpogppkiccnoaaa
open Go.ChangeShapes Go.WideShapes Go.ChangeAt Go.RowKit
namespace Tx

/-- A slice of bools that is handed in: it reads as l. -/
structure BoolArg (w : World) (A : Option Addr) (n c : Nat) (l : List Bool) : Prop where
  len : l.length = n
  cap : n ≤ c
  le : n ≤ maxLen
  rd : Rd w w.heap.size A (l.map Value.bool)

def boolAt (w : World) (a : Addr) : Bool := match w.cell? a with | some (.bool b) => b | _ => false

section
variable {H : Type} {enc : TypeId × Value → H} {W : World} {base : Nat} {spare : Nat → Bool} {held : Bool}

theorem bools_in {fuel : Nat} {cs : List Value} {x : DataW H × List MemPlace} {A : Option Addr} {l c : Nat} (h : DataW.trod enc Try.prog W base spare held fuel 31 cs = some x) (hcs : cs = [.slice A l c]) :
    ∃ bl : List Bool, BoolArg W A l c bl := by
  rcases DataW.trod_slice Try.underlying31 h with ⟨hcs', _⟩ | ⟨a, l', c', elems, rest, n, _, hcs', _, hb, hl, hm, hlen, hel, _, _⟩
  · rw [hcs] at hcs'
    simp at hcs'
    obtain ⟨rfl, rfl, rfl⟩ := hcs'
    exact ⟨[], rfl, Nat.le_refl _, Nat.zero_le _, .inl rfl⟩
  · rw [hcs] at hcs'
    simp at hcs'
    obtain ⟨rfl, rfl, rfl⟩ := hcs'
    have each : ∀ i, i < l → W.cell? (a.add i) = some (.bool (boolAt W (a.add i))) := by
      intro i hi
      have h1 := hel i hi
      rw [List.getElem?_eq_getElem (by omega), show Try.prog.cellsOf 4 = 1 by kernel_rfl, Nat.mul_one, Option.bind_eq_some_iff] at h1
      obtain ⟨cs', hcs', hy⟩ := h1
      obtain ⟨b, rfl, _⟩ := DataW.trod_bool Try.underlying4 hy
      have := cell_of_cells?_one hcs'
      unfold boolAt
      rw [this]
    refine ⟨(List.range l).map fun i => boolAt W (a.add i), by simp, hl, by omega, rd_in fun j u hu => ?_⟩
    simp only [List.map_map, List.getElem?_map] at hu
    by_cases hj : j < l
    · rw [List.getElem?_range hj] at hu
      simp at hu
      rw [each j hj, hu]
    · rw [List.getElem?_eq_none (by simpa using hj)] at hu
      cases hu
end

end Tx
end Go.Proofs.Ytpogppkiccnoaaa
