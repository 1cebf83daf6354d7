/-
  What Apply of layer 5 returns (walk): the list and no error, or nothing and the error.
-/
import Derived.Test.YtfjllohhjpiphaaHkLeaf
import Derived.Test.YtfjllohhjpiphaaGQ
import Derived.Test.YtfjllohhjpiphaaGS
set_option maxRecDepth 100000
namespace Go.Proofs.Ytfjllohhjpiphaa
open Go.RowKit
set_option linter.unusedVariables false
namespace Hk
open Tx Df Sq

/-- The error that Apply answers, and the list. -/
def applyE (l : List (List UInt8)) (h : HU) : Int := if mayH h then (if has l h.pos h.old then 0 else 5) else 1
def applyL (l : List (List UInt8)) (h : HU) : List (List UInt8) := if mayH h && has l h.pos h.old then swp l h.pos.toNat h.old.length h.new else []
theorem applyL_len {l : List (List UInt8)} {h : HU} : (applyL l h).length ≤ l.length + h.new.length := by
  unfold applyL
  split
  · simp only [swp, List.length_append, List.length_take, List.length_drop]; omega
  · simp

def ApplyEnd (w : World) (l : List (List UInt8)) (h : HU) (e : Ending) (w' : World) : Prop :=
  ∃ A k c, e = .returned (.tuple #[.slice A k c, .int .i64 (applyE l h)]) ∧ k ≤ c ∧ (applyL l h).length = k ∧ RdS w' w'.heap.size A (applyL l h) ∧ Below w.heap.size w w'

theorem applyEnd_none {w w' : World} {l : List (List UInt8)} {h : HU} {r : Int} (he : applyE l h = r) (hl : applyL l h = []) (hb : Below w.heap.size w w') : ApplyEnd w l h (.returned (.tuple #[.slice none 0 0, .int .i64 r])) w' :=
  ⟨none, 0, 0, by rw [he], Nat.le_refl _, by rw [hl]; rfl, .inl (by rw [hl]; rfl), hb⟩

theorem mayH_new {h : HU} (hm : mayH h = true) : h.new.length ≤ 200 := by
  unfold mayH allMay at hm
  simp only [Bool.and_eq_true, decide_eq_true_eq] at hm
  omega
theorem mayH_old {h : HU} (hm : mayH h = true) : h.old.length ≤ 200 := by
  unfold mayH allMay at hm
  simp only [Bool.and_eq_true, decide_eq_true_eq] at hm
  omega

set_option maxHeartbeats 1000000 in
theorem ApplyW (A0 : Option Addr) (n0 c0 : Nat) (A : Option Addr) (n c : Nat) (A' : Option Addr) (n' c' B : Nat) (l : List (List UInt8)) (h : HU) (w : World) (hB : B ≤ w.heap.size) (hl : l.length = n0) (hc0 : n0 ≤ c0) (h0 : n0 ≤ 8796093021952)
    (hR : RdS w B A0 l) (hv : HV w B A n c A' n' c' h) :
    Calls Try.prog 72 #[.slice A0 n0 c0, hkV h.pos A n c A' n' c'] w (ApplyEnd w l h) := by
  have HV0 := Lib.hid hv
  have HL := Lib.hid hv.l; have HL' := Lib.hid hv.l'; have HL0 := Lib.hid hl
  have R := Lib.hid hv.r; have R' := Lib.hid hv.r'; have R0 := Lib.hid hR
  clear hv hl hR
  obtain ⟨p, hp⟩ : ∃ p, h.pos = p := ⟨_, rfl⟩
  have HM := Lib.hid (May A n c A' n' c' B h (w.alloc (.cells #[.int .i64 h.pos, .slice A n c, .slice A' n' c'] 24)) (Nat.le_trans hB (by simp)) (HV0.out.below ((Below.refl _ w).alloc hB _)))
  rw [hp] at HM ⊢
  have HP := Lib.hid hp; clear hp
  cases hm : mayH h with
  | false =>
    rw [hm] at HM
    have HE := Lib.hid (show applyE l h = 1 by unfold applyE; rw [hm]; rfl)
    have HA := Lib.hid (show applyL l h = [] by unfold applyL; rw [hm]; rfl)
    clear hm
    go_enter Try.func72, Try.ntmps72
    go_wp2_with fail
    refine HM.out.mono ?_
    rintro e w1 ⟨rfl, hb⟩
    go_wp2
    go_ret2
    exact applyEnd_none HE.out HA.out (below_box _ hb)
  | true =>
  rw [hm] at HM
  cases hh : has l h.pos h.old with
  | false =>
    have HE := Lib.hid (show applyE l h = 5 by unfold applyE; rw [hm, hh]; rfl)
    have HA := Lib.hid (show applyL l h = [] by unfold applyL; rw [hm, hh]; rfl)
    rw [HP.out] at hh
    have HH := Lib.hid hh; clear hm hh
    go_enter Try.func72, Try.ntmps72
    go_wp2_with fail
    refine HM.out.mono ?_
    rintro e w1 ⟨rfl, hb⟩
    have b1 := (Blk.new w 24 #[.int .i64 p, .slice A n c, .slice A' n' c']).below hb (by simp)
    have x0 : w1.cell? ⟨w.heap.size, 0, none⟩ = some (.int .i64 p) := b1.cell 0 rfl
    have x1 : w1.cell? ⟨w.heap.size, 1, none⟩ = some (.slice A n c) := b1.cell 1 rfl
    have x2 : w1.cell? ⟨w.heap.size, 2, none⟩ = some (.slice A' n' c') := b1.cell 2 rfl
    have HB1 := Lib.hid (below_box _ hb)
    clear b1 hb
    go_wp2_with fail
    refine (Swap_no A0 A A' c0 c c' n0 n n' B p l h.old w1 HL0.out HL.out hc0 (by unfold maxLen; omega) HV0.out.m (Rd.below R0.out (HB1.out.mono hB)) (Rd.below R.out (HB1.out.mono hB)) HH.out).mono ?_
    rintro e w2 ⟨rfl, d, rfl⟩
    go_wp2
    go_ret2
    exact applyEnd_none HE.out HA.out (below_drewN HB1.out d)
  | true =>
    have HE := Lib.hid (show applyE l h = 0 by unfold applyE; rw [hm, hh]; rfl)
    have HA := Lib.hid (show applyL l h = swp l h.pos.toNat n h.new by unfold applyL; rw [hm, hh, HL.out]; rfl)
    rw [HP.out] at hh
    obtain ⟨k, rfl⟩ : ∃ k : Nat, p = k := ⟨p.toNat, by have := (has_len hh).1; omega⟩
    rw [HP.out, Int.toNat_natCast] at HA
    have hn2 : n' ≤ 200 := by rw [← HL'.out]; exact mayH_new hm
    have HH := Lib.hid hh; clear hm hh
    go_enter Try.func72, Try.ntmps72
    go_wp2_with fail
    refine HM.out.mono ?_
    rintro e w1 ⟨rfl, hb⟩
    have b1 := (Blk.new w 24 #[.int .i64 (k : Int), .slice A n c, .slice A' n' c']).below hb (by simp)
    have x0 : w1.cell? ⟨w.heap.size, 0, none⟩ = some (.int .i64 (k : Int)) := b1.cell 0 rfl
    have x1 : w1.cell? ⟨w.heap.size, 1, none⟩ = some (.slice A n c) := b1.cell 1 rfl
    have x2 : w1.cell? ⟨w.heap.size, 2, none⟩ = some (.slice A' n' c') := b1.cell 2 rfl
    have HB1 := Lib.hid (below_box _ hb)
    clear b1 hb
    go_wp2_with fail
    refine (Swap_yesW A0 A A' c0 c c' n0 n n' B k l h.old h.new w1 HL0.out HL.out HL'.out hc0 (by omega) (Nat.le_trans hB HB1.out.size) (Rd.below R0.out (HB1.out.mono hB)) (Rd.below R.out (HB1.out.mono hB)) (Rd.below R'.out (HB1.out.mono hB)) HH.out).mono ?_
    rintro e w2 ⟨v, rfl, hA, hb2⟩
    obtain ⟨A3, c3, rfl, hc3, _, hr3, _⟩ := hA
    go_wp2
    go_ret2
    exact ⟨A3, (swp l k n h.new).length, c3, by rw [HE.out]; rfl, hc3, by rw [HA.out], by rw [HA.out]; exact hr3, HB1.out.trans (hb2.mono HB1.out.size)⟩

theorem Apply (A0 : Option Addr) (n0 c0 : Nat) (A : Option Addr) (n c : Nat) (A' : Option Addr) (n' c' B : Nat) (l : List (List UInt8)) (h : HU) (w : World) (hB : B ≤ w.heap.size) (hl : l.length = n0) (hc0 : n0 ≤ c0) (h0 : n0 ≤ 1000) (hn : n ≤ 1000) (hn' : n' ≤ 1000)
    (hR : RdS w B A0 l) (hv : HV w B A n c A' n' c' h) :
    Calls Try.prog 72 #[.slice A0 n0 c0, hkV h.pos A n c A' n' c'] w (ApplyEnd w l h) :=
  ApplyW A0 n0 c0 A n c A' n' c' B l h w hB hl hc0 (by omega) hR hv

end Hk
end Go.Proofs.Ytfjllohhjpiphaa
