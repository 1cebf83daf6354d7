/-
  What a reading of an argument tells the walks: a slice of bytes, and a slice of strings, lead to the cells of a list.
-/
import Derived.Test.YtjhjmfodpnipiaaGreatDoorRows
import Derived.Test.YtjhjmfodpnipiaaGreatDoorTxMem
import Derived.Test.YtjhjmfodpnipiaaGreatDoorGQ
import Derived.ProofKit
import Derived.OpenShut
import Derived.ShutString
import Derived.ChangeOld
import Derived.Below
set_option maxRecDepth 100000
namespace Go.Proofs.YtjhjmfodpnipiaaGreatDoor
open Go.ChangeShapes Go.WideShapes Go.ChangeAt Go.RowKit
namespace Tx

theorem byte_of_wf {n : Int} (h : (Lit.int .u8 n).wf = true) : ((UInt8.ofNat n.toNat).toNat : Int) = n := by
  have := bounds_u8 h
  have h2 : (UInt8.ofNat n.toNat).toNat = n.toNat % 256 := by simp
  omega

section
variable {H : Type} {enc : TypeId × Value → H} {W : World} {base : Nat} {spare : Nat → Bool} {held : Bool}

theorem bytes_in {fuel : Nat} {cs : List Value} {x : DataW H × List MemPlace} {A : Option Addr} {l c : Nat} (h : DataW.trod enc Tryz.prog W base spare held fuel 22 cs = some x) (hcs : cs = [.slice A l c]) :
    ∃ bs : List UInt8, bs.length = l ∧ l ≤ c ∧ l ≤ maxLen ∧ RdB W W.heap.size A bs := by
  rcases open_ints Tryz.underlying22 Tryz.underlying5 (by kernel_rfl) h with ⟨hcs', _⟩ | ⟨a, l', c', zs, hcs', _, hl, hm, hz, _, hcell, hwz⟩
  · rw [hcs] at hcs'
    simp at hcs'
    obtain ⟨rfl, rfl, rfl⟩ := hcs'
    exact ⟨[], rfl, Nat.le_refl _, Nat.zero_le _, .inl rfl⟩
  · rw [hcs] at hcs'
    simp at hcs'
    obtain ⟨rfl, rfl, rfl⟩ := hcs'
    have hzl : l ≤ zs.length := by rw [hz]; split <;> omega
    refine ⟨(zs.take l).map fun z => UInt8.ofNat z.toNat, by simp; omega, hl, by omega, rd_in fun j u hu => ?_⟩
    simp only [List.getElem?_map, Option.map_map] at hu
    rw [List.getElem?_take] at hu
    split at hu
    · have hj : j < zs.length := by omega
      rw [List.getElem?_eq_getElem hj] at hu
      simp at hu
      rw [hcell j hj, ← hu]
      simp only [byteV]
      rw [byte_of_wf (hwz _ (List.getElem_mem hj))]
      simp [hj]
    · cases hu

end

end Tx
end Go.Proofs.YtjhjmfodpnipiaaGreatDoor
