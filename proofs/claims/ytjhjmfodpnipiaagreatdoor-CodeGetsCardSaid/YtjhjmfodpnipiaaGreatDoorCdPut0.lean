/-
  What package code's writeLines returns: lines behind a sign, put behind bytes (walk).
-/
import Derived.Test.YtjhjmfodpnipiaaGreatDoorCdGet
import Derived.Test.YtjhjmfodpnipiaaGreatDoorTxMem
import Derived.Test.YtjhjmfodpnipiaaGreatDoorGQ
import Derived.Test.YtjhjmfodpnipiaaGreatDoorCdVars
import Derived.Lib.AppendStr
set_option maxRecDepth 100000
namespace Go.Proofs.YtjhjmfodpnipiaaGreatDoor
open Go.RowKit Go.Shelf
set_option linter.unusedVariables false
set_option linter.unusedSimpArgs false
namespace Cd
open Tx Df Sq Hk Tr Pr

theorem info_byte : (Tryz.prog.info? 5).map (fun i => (i.zero, i.size, i.bytes)) = some (some (.int .u8 0), 1, 1) := by kernel_rfl
theorem strCells_eq (x : List UInt8) : Lib.strCells ⟨x.toArray⟩ = x.map byteV := by simp [Lib.strCells, byteV]
/-- Bytes in a row of one's own. -/
def OwnB (w : World) (base : Nat) (v : Value) (bs : List UInt8) : Prop := w.ownsRow base 5 1 v bs.length (bs.map byteV)
theorem ownB_nil (w : World) (base : Nat) : OwnB w base (.slice none 0 0) [] := World.ownsRow_nil _ _ _ _
theorem OwnB.below {w w' : World} {base : Nat} {v : Value} {bs : List UInt8} (h : OwnB w base v bs) (hb : Below w.heap.size w w') : OwnB w' base v bs := own_gr h (below_gr_row hb)
theorem OwnB.rd {w : World} {base : Nat} {v : Value} {bs : List UInt8} (h : OwnB w base v bs) : ∃ A c, v = .slice A bs.length c ∧ bs.length ≤ c ∧ RdB w w.heap.size A bs := rd_of_own h

theorem typ_below {e : TypeId} {w w' : World} (hb : Below w.heap.size w w') : Typ e w w' := typ_none (below_gr_row hb)
theorem typ_blk {e t : TypeId} {w w' : World} {b : Nat} {cs : Array Value} (h : Typ e w w') (hb : Blk w b t cs) (ht : t ≠ e) : Blk w' b t cs := h b cs t (0, 0) hb ht
theorem sg_snoc {c : UInt8} {ls : List (List UInt8)} {k : Nat} (hk : k < ls.length) : sg c (ls.take (k + 1)) = sg c (ls.take k) ++ (c :: ls[k] ++ [10]) := by
  rw [take_snoc' hk]; unfold sg; rw [List.flatMap_append]; simp
theorem sg_len {c : UInt8} : ∀ {ls : List (List UInt8)}, (∀ x ∈ ls, x.length ≤ 80) → (sg c ls).length ≤ 82 * ls.length
  | [], _ => by simp [sg]
  | x :: ls, h => by
    have h1 := h x (.head _)
    have h2 := sg_len (c := c) (ls := ls) (fun y hy => h y (.tail _ hy))
    have e : sg c (x :: ls) = (c :: x ++ [10]) ++ sg c ls := by unfold sg; rw [List.flatMap_cons]
    rw [e]
    simp only [List.length_append, List.length_cons, List.length_nil]
    omega

/-- How lines are put behind bytes. -/
def WEnd (w : World) (base : Nat) (bs : List UInt8) (e : Ending) (w' : World) : Prop := ∃ v, e = .returned v ∧ OwnB w' base v bs ∧ Below base w w' ∧ Typ 5 w w'

/-- At the head of writeLines' loop. -/
def WRel (w : World) (base : Nat) (bs : List UInt8) (c : UInt8) (ls : List (List UInt8)) (n : Nat) (v i : Value) (wr : World) : Prop :=
  ∃ k : Nat, k ≤ n ∧ i = .int .i64 k ∧ OwnB wr base v (bs ++ sg c (ls.take k)) ∧ Below base w wr ∧ base ≤ wr.heap.size ∧ Typ 5 w wr

theorem wl_round {w wr w1 w2 w3 : World} {base : Nat} {bs : List UInt8} {c : UInt8} {ls : List (List UInt8)} {k : Nat} (hk : k < ls.length) {v v1 v2 v3 : Value} {tmp : Obj}
    (hB : Below base w wr) (hs : base ≤ wr.heap.size) (hT : Typ 5 w wr) (hown : OwnB wr base v (bs ++ sg c (ls.take k)))
    (h1 : w1.ownsRow base 5 1 v1 ((bs ++ sg c (ls.take k)).length + (ByteArray.mk [c].toArray).size) ((bs ++ sg c (ls.take k)).map byteV ++ Lib.strCells ⟨[c].toArray⟩)) (g1 : wr.grownBy w1 v.ownBlock)
    (h2 : w2.ownsRow base 5 1 v2 ((bs ++ sg c (ls.take k)).length + (ByteArray.mk [c].toArray).size + (ByteArray.mk ls[k].toArray).size) ((bs ++ sg c (ls.take k)).map byteV ++ Lib.strCells ⟨[c].toArray⟩ ++ Lib.strCells ⟨ls[k].toArray⟩)) (g2 : w1.grownBy w2 v1.ownBlock)
    (h3 : w3.ownsRow base 5 1 v3 ((bs ++ sg c (ls.take k)).length + (ByteArray.mk [c].toArray).size + (ByteArray.mk ls[k].toArray).size + 1) ((bs ++ sg c (ls.take k)).map byteV ++ Lib.strCells ⟨[c].toArray⟩ ++ Lib.strCells ⟨ls[k].toArray⟩ ++ [.int .u8 10])) (g3 : (w2.alloc tmp).grownBy w3 v2.ownBlock) :
    OwnB w3 base v3 (bs ++ sg c (ls.take (k + 1))) ∧ Below base w w3 ∧ base ≤ w3.heap.size ∧ Typ 5 w w3 := by
  have hb1 : Below base w w1 := hB.grown g1 hs (own_ge hown)
  have s1 : base ≤ w1.heap.size := Nat.le_trans hs g1.size
  have hb2 : Below base w w2 := hb1.grown g2 s1 (own_ge h1)
  have s2 : base ≤ w2.heap.size := Nat.le_trans s1 g2.size
  have hb3 : Below base w w3 := (hb2.alloc s2 tmp).grown g3 (by simp; omega) (own_ge h2)
  refine ⟨?_, hb3, by have := g3.size; simp at this; omega, hT.trans ((typ_grown hown g1).trans ((typ_grown h1 g2).trans ((typ_alloc _ _ tmp).trans (typ_grown (h2.alloc tmp) g3))))⟩
  have e1 : bs ++ sg c (ls.take (k + 1)) = bs ++ sg c (ls.take k) ++ [c] ++ ls[k] ++ [10] := by rw [sg_snoc hk]; simp
  have e2 : (bs ++ sg c (ls.take (k + 1))).length = (bs ++ sg c (ls.take k)).length + (ByteArray.mk [c].toArray).size + (ByteArray.mk ls[k].toArray).size + 1 := by rw [e1, size_strV, size_strV]; simp only [List.length_append, List.length_cons, List.length_nil]
  have e3 : (bs ++ sg c (ls.take (k + 1))).map byteV = (bs ++ sg c (ls.take k)).map byteV ++ Lib.strCells ⟨[c].toArray⟩ ++ Lib.strCells ⟨ls[k].toArray⟩ ++ [.int .u8 10] := by rw [e1, strCells_eq, strCells_eq]; simp [byteV]
  unfold OwnB
  rw [e2, e3]
  exact h3

set_option maxHeartbeats 2000000 in
theorem writeLines (v : Value) (A : Option Addr) (n cap base N : Nat) (bs : List UInt8) (c : UInt8) (ls : List (List UInt8)) (w : World) (hn : ls.length = n) (hn2 : n ≤ 200) (hl : ∀ x ∈ ls, x.length ≤ 80) (hbl : bs.length ≤ 1000000)
    (ho : OwnB w base v bs) (hR : RdS w N A ls) (hN : N ≤ base) (hbase : base ≤ w.heap.size) :
    Calls Tryz.prog 42 #[v, strV [c], .slice A n cap] w (WEnd w base (bs ++ sg c ls)) := by
  obtain ⟨i0, hi, hz0, hz1, hz2⟩ := info_parts info_byte
  have HN := Lib.hid hn; have HL := Lib.hid hl; have HO := Lib.hid ho; have HR := Lib.hid hR
  clear hn hl ho hR
  go_enter Tryz.func42, Tryz.ntmps42
  go_wp2
  go_loopw [0, 11] (fun v i wr => WRel w base bs c ls n v i wr) (fun _ i _ => n - (intOf i).toNat)
  case atStart => exact ⟨0, Nat.zero_le _, rfl, by simpa [sg] using HO.out, Below.refl _ _, hbase, Typ.refl _ _⟩
  case round =>
    obtain ⟨k, hk, rfl, hown, hB, hs, hT⟩ := hrel
    have HT := Lib.hid hT; clear hT
    by_cases hlt : k < n
    · have hkl : k < ls.length := by rw [HN.out]; exact hlt
      have hRw : RdS wr N A ls := HR.out.below (hB.mono hN)
      obtain ⟨a, rfl, hcell⟩ := hRw.at' hkl
      have HJ : Hid ((bs ++ sg c (ls.take k)).length ≤ 2000000 ∧ (ByteArray.mk ls[k].toArray).size ≤ 80 ∧ (ByteArray.mk [c].toArray).size = 1) := Lib.hid ⟨by
          have := sg_len (c := c) (ls := ls.take k) (fun x hx => HL.out x (List.mem_of_mem_take hx))
          rw [List.length_take] at this; rw [List.length_append]; omega, by rw [size_strV]; exact HL.out _ (List.getElem_mem hkl), by rw [size_strV]; rfl⟩
      have hown' := hown
      unfold OwnB at hown'
      clear hbl
      go_wp2_with (first
        | (at_builtin; refine Lib.wpList_append_own_string _ rfl _ _ 22 9 rfl base 5 i0 Tryz.underlying22 Tryz.underlying9 hi hz0 hz1 hz2 _ _ _ rfl hown' ⟨[c].toArray⟩ rfl (by have := HJ.out; unfold maxLen; omega) (by have := HJ.out; omega) hs ?_; intro v1 w1 hown1 hgrow1 _; have hs1 : base ≤ w1.heap.size := Nat.le_trans hs hgrow1.size)
        | (at_builtin; refine Lib.wpList_append_own_string _ rfl _ _ 22 9 rfl base 5 i0 Tryz.underlying22 Tryz.underlying9 hi hz0 hz1 hz2 _ _ _ rfl hown1 ⟨ls[k].toArray⟩ rfl (by have := HJ.out; unfold maxLen; omega) (by have := HJ.out; omega) hs1 ?_; intro v2 w2 hown2 hgrow2 _; have hs2 : base ≤ w2.heap.size := Nat.le_trans hs1 hgrow2.size)
        | (at_builtin; refine wpList_append_own _ rfl _ _ 22 rfl base 5 i0 (.int .u8 0) 1 1 Tryz.underlying22 hi hz0 hz1 hz2 rfl (by decide) _ _ _ rfl (hown2.alloc _) ⟨w2.heap.size, 0, none⟩ 1 1 [.int .u8 10] rfl rfl (cell_one_new _ _ _) (by simp [Value.oneCell']) (by have := HJ.out; unfold maxLen; omega) (by have := HJ.out; omega) (by simp; omega) ?_; intro v3 w3 hown3 hgrow3 _))
      obtain ⟨hr1, hr2, hr3, hr4⟩ := wl_round hkl hB hs HT.out hown hown1 hgrow1 hown2 hgrow2 hown3 hgrow3
      exact ⟨⟨k + 1, by omega, by go_num, hr1, hr2, hr3, hr4⟩, by simp [intOf]; omega⟩
    · have HE := Lib.hid (show ls.length ≤ k by rw [HN.out]; omega)
      have HW := Lib.hid hown; have HB := Lib.hid hB
      clear hown hB
      go_wp2
      go_ret
      rw [List.take_of_length_le HE.out] at HW
      exact ⟨_, rfl, HW.out, HB.out, HT.out⟩

end Cd
end Go.Proofs.YtjhjmfodpnipiaaGreatDoor
