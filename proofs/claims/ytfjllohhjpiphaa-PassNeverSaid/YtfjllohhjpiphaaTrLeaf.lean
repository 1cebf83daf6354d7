/-
  What line, again (of lines) and file of layer 7 return (walks): a copy in memory of its own.
-/
import Derived.Test.YtfjllohhjpiphaaTrMem
import Derived.Deep.RegionHeld3
import Derived.Laws.Rows
set_option maxRecDepth 100000
namespace Go.Proofs.Ytfjllohhjpiphaa
open Go.RowKit
set_option linter.unusedVariables false
namespace Tr
open Tx

theorem line (s : ByteArray) (w : World) : Calls Try.prog 78 #[.string s] w fun e w' => e = .returned (.string s) ∧ w = w' := by
  go_enter Try.func78, Try.ntmps78
  go_wp2
  go_ret
  exact ⟨rfl, rfl⟩

theorem fill_set {α : Type} {ls : List α} {n k : Nat} (z : α) (hn : ls.length = n) (hk : k < ls.length) : (ls.take k ++ List.replicate (n - k) z).set k ls[k] = ls.take (k + 1) ++ List.replicate (n - (k + 1)) z := by
  have h1 : (ls.take k).length = k := by rw [List.length_take]; omega
  rw [List.set_append_right _ _ (by omega), h1, Nat.sub_self, show n - k = (n - (k + 1)) + 1 by omega, List.replicate_succ, List.set_cons_zero, take_snoc' hk, List.append_assoc]
  rfl
theorem fill_len {α : Type} {ls : List α} {n k : Nat} (z : α) (hn : ls.length = n) (hk : k ≤ n) : (ls.take k ++ List.replicate (n - k) z).length = n := by
  rw [List.length_append, List.length_take, List.length_replicate]; omega

/-- How a copy of lines ends. -/
def CopyEnd (w : World) (n : Nat) (ls : List (List UInt8)) (e : Ending) (w' : World) : Prop :=
  e = .returned (.slice (some ⟨w.heap.size, 0, none⟩) n n) ∧ w'.ownsRow w.heap.size 9 1 (.slice (some ⟨w.heap.size, 0, none⟩) n n) n (ls.map strV) ∧ w.grownBy w' none

set_option maxHeartbeats 1000000 in
theorem againL (A : Option Addr) (c n B : Nat) (ls : List (List UInt8)) (w : World) (hn : ls.length = n) (hln : n ≤ 8796093022208) (hB : B ≤ w.heap.size) (hR : RdS w B A ls) :
    Calls Try.prog 77 #[.slice A n c, .func (.func 78) #[] #[]] w (CopyEnd w n ls) := by
  have HN := Lib.hid hn; clear hn
  have hmk : ∀ W : World, (Instr.makeSlice 22 (.int .i64 (n : Int)) (.int .i64 (n : Int))).run Try.prog W = .ok (.slice (some ⟨W.heap.size, 0, none⟩) n n) (W.alloc (.cells (madeCells #[strV []] n) 9)) := by
    obtain ⟨i0, hi, hz0, hz1, hz2⟩ := info_parts info_str
    intro W
    have := run_make (P := Try.prog) W 22 9 i0 (.string ⟨#[]⟩) Try.underlying22 hi hz0 .i64 .i64 (n : Int) (n : Int) (by omega) (by omega) (by rw [hz2]; omega) (by omega)
    simp only [Int.toNat_natCast, hz1, Nat.mul_one] at this
    exact this
  have hrow := World.ownsRow_lit (base := w.heap.size) (e := 9) (size := 1) w (madeCells #[strV []] n) n (Nat.le_refl _) (by unfold maxLen; omega) (by rw [size_madeCells, Nat.mul_one])
  rw [toList_madeCells_one] at hrow
  have hb0 : Below w.heap.size w (w.alloc (.cells (madeCells #[strV []] n) 9)) := (Below.refl _ _).alloc (Nat.le_refl _) _
  obtain ⟨Z, hZ⟩ : ∃ Z, madeCells #[strV []] n = Z := ⟨_, rfl⟩
  rw [hZ] at hrow hb0
  have hmk' : ∀ W : World, (Instr.makeSlice 22 (.int .i64 (n : Int)) (.int .i64 (n : Int))).run Try.prog W = .ok (.slice (some ⟨W.heap.size, 0, none⟩) n n) (W.alloc (.cells Z 9)) := fun W => by rw [hmk W, hZ]
  clear hmk hZ
  have HROW := Lib.hid hrow; have HB0 := Lib.hid hb0; clear hrow hb0
  go_enter Try.func77, Try.ntmps77
  go_wp2_with fail
  clear hmk'
  obtain ⟨g, hg⟩ : ∃ g, w.heap.size = g := ⟨_, rfl⟩
  obtain ⟨w0, hw0⟩ : ∃ w0, w.alloc (.cells Z 9) = w0 := ⟨_, rfl⟩
  rw [hw0] at HROW HB0 ⊢
  rw [hg] at HROW HB0 ⊢
  have HG := Lib.hid hg; clear hg hw0
  go_loopw [13] (fun i wr => ∃ k : Nat, k ≤ n ∧ i = .int .i64 (k : Int) ∧ wr.ownsRow g 9 1 (.slice (some ⟨g, 0, none⟩) n n) n ((ls.map strV).take k ++ List.replicate (n - k) (strV [])) ∧ Below g w wr) (fun i _ => n - (intOf i).toNat)
  case atStart => exact ⟨0, Nat.zero_le _, rfl, HROW.out, HB0.out⟩
  case round =>
    obtain ⟨k, hk, rfl, hrow, hb⟩ := hrel
    have HRW := Lib.hid hrow; have HBW := Lib.hid hb; clear hrow hb
    by_cases hlt : k < n
    · have hkl : k < ls.length := by rw [HN.out]; exact hlt
      obtain ⟨a, rfl, hcell⟩ := RdS.at' (Rd.below hR (HBW.out.mono (by rw [← HG.out]; exact hB))) hkl
      have hst := HRW.out.stored k (strV ls[k])
      have hfs := fill_set (ls := ls.map strV) (n := n) (k := k) (strV []) (by rw [List.length_map]; exact HN.out) (by rw [List.length_map]; exact hkl)
      rw [List.getElem_map] at hfs
      rw [hfs] at hst
      have hc := HRW.out.cellAt k (by omega)
      rw [List.getElem?_eq_getElem (by rw [fill_len _ (by rw [List.length_map]; exact HN.out) hk]; exact hlt)] at hc
      have hf := HRW.out.frozenAt k
      have hst2 := HBW.out.setCell (p := ⟨g, k, none⟩) (Nat.le_refl _) (strV ls[k])
      have HST := Lib.hid hst.1; have HST2 := Lib.hid hst2
      clear hst hst2 hfs
      go_wp2_with fail
      refine (line _ _).mono ?_
      rintro e w' ⟨rfl, rfl⟩
      go_wp2
      go_roundw
      case rel => exact ⟨k + 1, by omega, by go_num, HST.out, HST2.out⟩
      case measure => simp [intOf]; omega
    · obtain rfl : k = n := by omega
      have hrow := HRW.out
      rw [Nat.sub_self, List.replicate_zero, List.append_nil, List.take_of_length_le (by rw [List.length_map, HN.out]; exact Nat.le_refl _)] at hrow
      have HR2 := Lib.hid hrow; clear hrow
      go_wp2
      go_ret
      refine ⟨by rw [HG.out]; rfl, by rw [HG.out]; exact HR2.out, ?_⟩
      have := HBW.out
      rw [← HG.out] at this
      exact gr_below this none

/-- How file ends. -/
def FileEnd (w : World) (s : List UInt8) (n : Nat) (ls : List (List UInt8)) (e : Ending) (w' : World) : Prop :=
  ∃ g, e = .returned (flV s (some ⟨g, 0, none⟩) n n) ∧ w'.ownsRow w.heap.size 9 1 (.slice (some ⟨g, 0, none⟩) n n) n (ls.map strV) ∧ Below w.heap.size w w'

set_option maxHeartbeats 1000000 in
theorem file (s : List UInt8) (A : Option Addr) (c n B : Nat) (ls : List (List UInt8)) (w : World) (hn : ls.length = n) (hln : n ≤ 8796093022208) (hB : B ≤ w.heap.size) (hR : RdS w B A ls) :
    Calls Try.prog 80 #[flV s A n c] w (FileEnd w s n ls) := by
  have HN := Lib.hid hn; clear hn
  have R := Lib.hid hR; clear hR
  go_enter Try.func80, Try.ntmps80
  go_wp2_with fail
  have b1 := (Blk.new w 48 #[strV s, .slice A n c]).alloc (.cells #[.string ⟨#[]⟩, .slice none 0 0] 48)
  have b2 := Blk.new (w.alloc (.cells #[strV s, .slice A n c] 48)) 48 #[.string ⟨#[]⟩, .slice none 0 0]
  have hw : Below w.heap.size w ((w.alloc (.cells #[strV s, .slice A n c] 48)).alloc (.cells #[.string ⟨#[]⟩, .slice none 0 0] 48)) := ((Below.refl _ _).alloc (Nat.le_refl _) _).alloc (by simp) _
  simp only [World.size_alloc] at b2
  generalize hW : (w.alloc (.cells #[strV s, .slice A n c] 48)).alloc (.cells #[.string ⟨#[]⟩, .slice none 0 0] 48) = W at *
  clear hW
  have R1 := Lib.hid (Rd.below R.out (hw.mono hB))
  have B1 := Lib.hid b1; have B2 := Lib.hid b2; have HW := Lib.hid hw; clear b1 b2 hw
  have HBW : Hid (B ≤ W.heap.size) := Lib.hid (Nat.le_trans hB HW.out.size)
  obtain ⟨g, hgs⟩ : ∃ g, w.heap.size = g := ⟨_, rfl⟩
  rw [hgs] at HW B1 B2 hB ⊢
  have HGS := Lib.hid hgs; clear hgs
  have x0 : W.cell? ⟨g, 0, none⟩ = some (strV s) := B1.out.cell 0 rfl
  have x1 : W.cell? ⟨g, 1, none⟩ = some (.slice A n c) := B1.out.cell 1 rfl
  go_region_held3 (fun w' => w'.cell? ⟨g, 0, none⟩ = some (strV s) ∧ w'.cell? ⟨g, 1, none⟩ = some (.slice A n c))
    (first | go_keep | (exact ⟨y0, y1⟩))
    (first
      | (go_at_call 77; refine (againL A c n B ls W.drew HN.out hln HBW.out (Rd.drewN R1.out 1)).mono ?_; rintro e w1 ⟨rfl, hr1, hg1⟩;
          have y0 := cell_gr hg1 (nn _) x0; have y1 := cell_gr hg1 (nn _) x1;
          have b3 := (B2.out.drewN 1).gr hg1 (nn _); have q0 : w1.cell? ⟨g + 1, 0, none⟩ = some (.string ⟨#[]⟩) := b3.cell 0 rfl; have q1 : w1.cell? ⟨g + 1, 1, none⟩ = some (.slice none 0 0) := b3.cell 1 rfl; have f0 := b3.frozen 0; have f1 := b3.frozen 1;
          have B3 := Lib.hid b3; clear b3; have HR1 := Lib.hid hr1; have HG1 := Lib.hid hg1; clear hr1 hg1))
  go_wp2_with fail
  obtain ⟨h, hh⟩ : ∃ h, W.drew.heap.size = h := ⟨_, rfl⟩
  have hh2 : W.heap.size = h := hh
  rw [hh] at HR1
  rw [hh2]
  have hgh : g + 1 < h := by have := B2.out.lt; omega
  have HH := Lib.hid hh2; clear hh hh2
  have b4 := (B3.out.set 0 (strV s)).set 1 (.slice (some ⟨h, 0, none⟩) n n)
  have o1 := own_set (own_set HR1.out hgh 0 (strV s)) hgh 1 (.slice (some ⟨h, 0, none⟩) n n)
  have hB3 : Below g w ((w1.setCell ⟨g + 1, 0, none⟩ (strV s)).setCell ⟨g + 1, 1, none⟩ (.slice (some ⟨h, 0, none⟩) n n)) := ((HW.out.trans (((below_drewN (Below.refl W.heap.size W) 1).trans (below_gr HG1.out)).mono (by rw [HH.out]; omega))).setCell (p := ⟨g + 1, 0, none⟩) (by show g ≤ g + 1; omega) _).setCell (p := ⟨g + 1, 1, none⟩) (by show g ≤ g + 1; omega) _
  generalize (w1.setCell ⟨g + 1, 0, none⟩ (strV s)).setCell ⟨g + 1, 1, none⟩ (.slice (some ⟨h, 0, none⟩) n n) = W3 at *
  have q0 : W3.cell? ⟨g + 1, 0, none⟩ = some (strV s) := b4.cell 0 rfl
  have q1 : W3.cell? ⟨g + 1, 1, none⟩ = some (.slice (some ⟨h, 0, none⟩) n n) := b4.cell 1 rfl
  refine bodyPost_ret (v := flV s (some ⟨h, 0, none⟩) n n) (by simp [results, Try.results80, go_sem, q0, q1]) rfl ?_
  exact ⟨h, rfl, own_mono o1 (by rw [HGS.out]; omega), by rw [HGS.out]; exact hB3⟩

end Tr
end Go.Proofs.Ytfjllohhjpiphaa
