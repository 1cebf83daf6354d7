/-
  Words for memory: a slice value that reads as a list of cells (nil let in), and what the model's conversions and byte searches give there. Over any program.
-/
import Derived.Test.YtjhjmfodpnipiaaGreatDoorGP
import Derived.WalkKit
import Derived.Laws.BytesString
import Derived.Laws.BytesArg
import Derived.Lib.BytesEntry
import Derived.Shelf.Bytes.SlIndexAt
import Derived.Shelf.Bytes.SlCountOne
import Derived.Deep.Draws
set_option maxRecDepth 100000
namespace Go.Proofs.YtjhjmfodpnipiaaGreatDoor
open Go.RowKit
namespace Tx

def byteV (c : UInt8) : Value := .int .u8 c.toNat
def RdB (w : World) (B : Nat) (A : Option Addr) (bs : List UInt8) : Prop := Rd w B A (bs.map byteV)
section
variable {P : Program} {w : World} {B : Nat} {A : Option Addr} {bs : List UInt8}

theorem RdB.load (h : RdB w B A bs) {a : Addr} (ha : A = some a) : (loadCells a bs.length).run P w = .ok (bs.map byteV).toArray w := by
  have := run_loadCells_list (P := P) w a (bs.map byteV) (fun j u hu => by
    rcases h with h | ⟨a', e, _, hc⟩
    · rw [h] at hu; simp at hu
    · rw [ha] at e; cases e; exact hc j u hu)
  simpa using this

theorem run_conv (h : RdB w B A bs) (src dst e : TypeId) (c : Nat) (hs : P.underlying src = some (.slice e)) (he : P.underlying e = some (.int .u8)) (hd : P.underlying dst = some .string) :
    (convert src dst (.slice A bs.length c)).run P w = .ok (strV bs) w := by
  cases A with
  | none =>
    have hb : bs = [] := by
      rcases h with h | ⟨a, e, _⟩
      · simpa using h
      · cases e
    subst hb
    exact run_convert_bytes_nil w src e hs he 0 c dst hd
  | some a =>
    have hl := h.load (P := P) rfl
    have e1 : bs.map byteV = (bs.map fun x => (x.toNat : Int)).map (Value.int .u8) := by simp [byteV, Function.comp_def]
    rw [e1] at hl
    rw [run_convert_bytes_string w src dst e _ bs.length c hs he hd, run_bytesToString w _ bs.length c _ hl, foldl_push_bytes]
    simp [strV, ByteArray.empty, ByteArray.emptyWithCapacity, Function.comp_def]
    rfl

theorem bytesOf_nums (bs : List UInt8) : Lib.bytesOf (bs.map fun x => (x.toNat : Int)) = bs := by simp [Lib.bytesOf, Function.comp_def]

theorem RdB.nums (h : RdB w B A bs) {a : Addr} (ha : A = some a) : ∀ i, i < bs.length → w.cell? (a.add i) = some (.int .u8 ((bs.map fun x => (x.toNat : Int)).getD i 0)) := by
  intro i hi
  rcases h with h | ⟨a', e, _, hc⟩
  · simp at h; subst h; simp at hi
  · rw [ha] at e; cases e
    rw [hc i (byteV bs[i]) (by simp [hi])]
    simp [byteV, hi]

theorem run_index (h : RdB w B A bs) (c : Nat) (cv : Int) :
    (Extern.BytealgIndexByte.indexByte #[.slice A bs.length c, .int .u8 cv]).run P w = .ok (.int .i64 (Lib.indexByte bs cv.toNat.toUInt8)) w := by
  cases A with
  | none =>
    have hb : bs = [] := by
      rcases h with h | ⟨a, e, _⟩
      · simpa using h
      · cases e
    subst hb
    exact Lib.run_indexByteNil w 0 c cv
  | some a =>
    have := Lib.run_indexByteAt (P := P) w a bs.length c (bs.map fun x => (x.toNat : Int)) (by simp) (h.nums rfl) cv
    rw [bytesOf_nums] at this
    exact this

theorem run_count (h : RdB w B A bs) (c : Nat) (cv : Int) :
    (Extern.BytealgCount.count #[.slice A bs.length c, .int .u8 cv]).run P w = .ok (.int .i64 (Lib.countByte bs cv.toNat.toUInt8)) w := by
  cases A with
  | none =>
    have hb : bs = [] := by
      rcases h with h | ⟨a, e, _⟩
      · simpa using h
      · cases e
    subst hb
    exact Lib.run_countString (P := P) .empty cv w
  | some a =>
    have := Lib.run_countAt (P := P) w a bs.length c (bs.map fun x => (x.toNat : Int)) (by simp) (h.nums rfl) cv
    rw [bytesOf_nums] at this
    exact this
end

end Tx
end Go.Proofs.YtjhjmfodpnipiaaGreatDoor
