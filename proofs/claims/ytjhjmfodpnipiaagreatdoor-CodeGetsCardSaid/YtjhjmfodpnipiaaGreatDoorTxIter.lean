/-
  What bytes.IndexByte, bytes.Count (at one byte), and the iterator over lines of layer 1 do (walks). Over every slice of bytes.
-/
import Derived.Test.YtjhjmfodpnipiaaGreatDoorRows
import Derived.Test.YtjhjmfodpnipiaaGreatDoorTxMem
import Derived.Test.YtjhjmfodpnipiaaGreatDoorGX
import Derived.RangeFuncNested
import Derived.RangeFuncBound
import Derived.RangeFuncCalls
import Derived.RangeFuncLeaves
import Derived.RangeFuncBox
import Derived.Shelf.Abstract
import Derived.Shelf.RegionOpen
import Derived.WalkKit
import Derived.OwnWalkIn
import Derived.TacticsInMore
import Derived.LoopNIn
import Derived.LoopIn
import Derived.Maps.AppendAt
import Derived.WalkSpells
import Derived.WalkLawsBesides
import Derived.Lib.Hide
set_option maxRecDepth 100000
namespace Go.Proofs.YtjhjmfodpnipiaaGreatDoor
open Go.RowKit Go.Shelf
namespace Tx
attribute [local go_sem] Oper.semAt_some

set_option maxHeartbeats 400000 in
theorem bytes_IndexByte (A : Option Addr) (c B : Nat) (bs : List UInt8) (cv : Int) (w : World) (h : RdB w B A bs) :
    Calls Tryz.prog 24 #[.slice A bs.length c, .int .u8 cv] w fun e w' => e = .returned (.int .i64 (Lib.indexByte bs cv.toNat.toUInt8)) ∧ w = w' := by
  go_enter Tryz.func24, Tryz.ntmps24
  go_wp2
  rw [run_callFunc_extern Tryz.func45 (by kernel_rfl) (by kernel_rfl) (by kernel_rfl) (e := Extern.BytealgIndexByte.indexByte) (by kernel_rfl), run_index h]
  simp only [Result.andThen]
  rw [Oper.upon_value]
  go_wp2
  go_ret
  exact ⟨rfl, rfl⟩

/-- The length of a slice value. -/
def lenOf : Value → Nat
  | .slice _ n _ => n
  | _ => 0

/-- What stands at the loop's head: the lines that have come, the rest of the bytes. -/
def AtHead (n₀ : Nat) (bs : List UInt8) (J : List (List UInt8) → World → Prop) (v : Value) (wr : World) : Prop :=
  ∃ (pre : List (List UInt8)) (rest : List UInt8) (A : Option Addr) (cap : Nat), v = .slice A rest.length cap ∧ rest.length ≤ cap ∧ rest.length ≤ bs.length ∧ cut bs = pre ++ cut rest ∧ RdB wr n₀ A rest ∧ J pre wr

theorem head_next {n₀ cap' : Nat} {a : Addr} {bs rest p r : List UInt8} {J : List (List UInt8) → World → Prop} {pre : List (List UInt8)} {W3 : World} (hx : cut bs = pre ++ cut rest) (hpr : rest = p ++ 10 :: r) (hp : 10 ∉ p)
    (hc' : rest.length ≤ cap') (hr' : rest.length ≤ bs.length) (hRd : RdB W3 n₀ (some a) rest) (hJ : J (pre ++ [p]) W3) :
    AtHead n₀ bs J (.slice (if cap' = p.length + 1 then some a else some { block := a.block, off := a.off + (p.length + 1) }) (rest.length - (p.length + 1)) (cap' - (p.length + 1))) W3 := by
  have hrl : rest.length - (p.length + 1) = r.length := by rw [hpr]; simp; omega
  have h3 := hRd.drop (k := p.length + 1) (cap := cap') (by simpa using hc')
  have e : List.drop (p.length + 1) (rest.map byteV) = r.map byteV := by
    rw [hpr, List.map_append, List.map_cons]
    rw [show p.length + 1 = (p.map byteV).length + 1 by simp, ← List.drop_drop, List.drop_left]
    simp
  rw [e] at h3
  rw [hrl]
  refine ⟨pre ++ [p], r, _, _, rfl, by omega, by omega, ?_, ?_, hJ⟩
  · rw [hx, hpr, cut_some r hp]; simp
  · unfold RdB; simpa [Addr.add] using h3

end Tx
end Go.Proofs.YtjhjmfodpnipiaaGreatDoor
