/-
  What the document's own May, Same, Turn and Apply of layer 5 return (walks): the same plain functions as the program's.
-/
import Derived.Test.YtdjeebfbffoehaaHkApply
import Derived.Test.YtdjeebfbffoehaaGX
import Derived.Test.YtdjeebfbffoehaaGS
namespace Go.Proofs.Ytdjeebfbffoehaa
open Go.RowKit
set_option linter.unusedVariables false
namespace Hk
open Tx Df Sq

theorem ret_and {b x y : Bool} (h : b = (x && y)) : Ending.returned (.bool (x && y)) = .returned (.bool b) := by rw [h]

set_option maxHeartbeats 1000000 in
theorem refMay (A : Option Addr) (n c : Nat) (A' : Option Addr) (n' c' B : Nat) (h : HU) (w : World) (hB : B ≤ w.heap.size) (hv : HV w B A n c A' n' c' h) (hq : ∀ x ∈ h.old, x.length ≤ maxLen) (hq' : ∀ x ∈ h.new, x.length ≤ maxLen) :
    Calls Try.prog 39 #[hkV h.pos A n c A' n' c'] w (TestEnd w (mayH h)) := by
  obtain ⟨l, l', k, k', m, m', r, r', p⟩ := hv
  have HL := Lib.hid l; have HL' := Lib.hid l'; have HQ := Lib.hid hq; have HQ' := Lib.hid hq'; clear l l' hq hq'
  have HM : Hid (mayH h = (decide (0 ≤ h.pos) && decide (h.pos ≤ 1048576) && (allMay h.old && allMay h.new))) := Lib.hid rfl
  have HP := Lib.hid p; clear p
  generalize mayH h = mh at *
  generalize h.pos = q at *
  go_enter Try.func39, Try.ntmps39
  go_wp2_with fail
  refine (RefAll _ _ _ B h.old _ HL.out m (rd_alloc r hB _) HQ.out).mono ?_
  rintro e w' ⟨rfl, rfl⟩
  go_wp2_with fail
  refine (RefAll _ _ _ B h.new _ HL'.out m' (rd_alloc r' hB _) HQ'.out).mono ?_
  rintro e w' ⟨rfl, rfl⟩
  cases ho : allMay h.old with
  | false =>
    have HO : Hid (mh = false) := Lib.hid (by rw [HM.out, ho]; simp)
    clear ho HM
    go_wp2
    go_ret
    exact ⟨ret_bool (by rw [HO.out]), (Below.refl _ _).alloc (Nat.le_refl _) _⟩
  | true =>
  cases hn : allMay h.new with
  | false =>
    have HO : Hid (mh = false) := Lib.hid (by rw [HM.out, hn]; simp)
    clear ho hn HM
    go_wp2
    go_ret
    exact ⟨ret_bool (by rw [HO.out]), (Below.refl _ _).alloc (Nat.le_refl _) _⟩
  | true =>
  by_cases h0 : 0 ≤ q
  · by_cases h1 : q ≤ 1048576
    · have HO : Hid (mh = true) := Lib.hid (by rw [HM.out, ho, hn, decide_eq_true h0, decide_eq_true h1]; rfl)
      clear ho hn HM
      go_wp2
      go_ret
      exact ⟨ret_bool (by rw [HO.out]), (Below.refl _ _).alloc (Nat.le_refl _) _⟩
    · have HO : Hid (mh = false) := Lib.hid (by rw [HM.out, decide_eq_false h1]; simp)
      clear ho hn HM
      go_wp2
      go_ret
      exact ⟨ret_bool (by rw [HO.out]; exact decide_eq_false (by omega)), (Below.refl _ _).alloc (Nat.le_refl _) _⟩
  · have HO : Hid (mh = false) := Lib.hid (by rw [HM.out, decide_eq_false h0]; simp)
    clear ho hn HM
    go_wp2
    go_ret
    exact ⟨ret_bool (by rw [HO.out]), (Below.refl _ _).alloc (Nat.le_refl _) _⟩

set_option maxHeartbeats 1000000 in
theorem refSameH (A : Option Addr) (n c : Nat) (A' : Option Addr) (n' c' : Nat) (D : Option Addr) (m k : Nat) (D' : Option Addr) (m' k' B : Nat) (h g : HU) (w : World) (hB : B ≤ w.heap.size) (hv : HV w B A n c A' n' c' h) (gv : HV w B D m k D' m' k' g) :
    Calls Try.prog 34 #[hkV h.pos A n c A' n' c', hkV g.pos D m k D' m' k'] w (TestEnd w (sameH h g)) := by
  have HL := Lib.hid hv.l; have HL' := Lib.hid hv.l'; have GL := Lib.hid gv.l; have GL' := Lib.hid gv.l'
  have hm := hv.m; have hm' := hv.m'
  have R := Lib.hid hv.r; have R' := Lib.hid hv.r'; have Q := Lib.hid gv.r; have Q' := Lib.hid gv.r'
  clear hv gv
  obtain ⟨b, hb⟩ : ∃ b, sameH h g = b := ⟨_, rfl⟩
  rw [hb]
  have HS : Hid (b = (decide (h.pos = g.pos) && (decide (h.old = g.old) && decide (h.new = g.new)))) := Lib.hid (by rw [← hb]; rfl)
  clear hb
  generalize h.pos = p at *
  generalize g.pos = q at *
  go_enter Try.func34, Try.ntmps34
  go_wp2_with fail
  refine (Same _ _ _ _ _ _ B h.old g.old _ HL.out GL.out hm (rd_two R.out hB _ _ 0) (rd_two Q.out hB _ _ 0)).mono ?_
  rintro e w' ⟨rfl, d, rfl⟩
  go_wp2_with fail
  refine (Same _ _ _ _ _ _ B h.new g.new _ HL'.out GL'.out hm' (rd_two R'.out hB _ _ _) (rd_two Q'.out hB _ _ _)).mono ?_
  rintro e w' ⟨rfl, d', rfl⟩
  cases ho : decide (h.old = g.old) with
  | false =>
    have HO : Hid (b = false) := Lib.hid (by rw [HS.out, ho]; simp)
    clear ho HS
    go_wp2
    go_ret
    exact ⟨ret_bool (by rw [HO.out]), by simpa using below_two w _ _ _⟩
  | true =>
  cases hn : decide (h.new = g.new) with
  | false =>
    have HO : Hid (b = false) := Lib.hid (by rw [HS.out, hn]; simp)
    clear ho hn HS
    go_wp2
    go_ret
    exact ⟨ret_bool (by rw [HO.out]), by simpa using below_two w _ _ _⟩
  | true =>
  by_cases hp : p = q
  · have HO : Hid (b = true) := Lib.hid (by rw [HS.out, ho, hn, decide_eq_true hp]; rfl)
    clear ho hn HS
    subst hp
    go_wp2
    go_ret
    exact ⟨ret_bool (by rw [HO.out]), by simpa using below_two w _ _ _⟩
  · have HO : Hid (b = false) := Lib.hid (by rw [HS.out, decide_eq_false hp]; rfl)
    have hne : (p == q) = false := by rw [beq_eq_false_iff_ne]; exact hp
    clear ho hn HS hp
    go_wp2
    go_ret
    exact ⟨ret_bool (by rw [HO.out]), by simpa using below_two w _ _ _⟩

theorem refTurn (p : Int) (A : Option Addr) (n c : Nat) (A' : Option Addr) (n' c' : Nat) (w : World) :
    Calls Try.prog 37 #[hkV p A n c A' n' c'] w fun e w' => e = .returned (hkV p A' n' c' A n c) ∧ Below w.heap.size w w' := by
  go_enter Try.func37, Try.ntmps37
  go_wp2
  exact bodyPost_ret (v := hkV p A' n' c' A n c) (by simp [results, Try.results37, go_sem]) rfl ⟨rfl, ((Below.refl _ _).alloc (Nat.le_refl _) _).alloc (by simp) _⟩

set_option maxHeartbeats 1000000 in
theorem refApply (A0 : Option Addr) (n0 c0 : Nat) (A : Option Addr) (n c : Nat) (A' : Option Addr) (n' c' B : Nat) (l : List (List UInt8)) (h : HU) (w : World) (hB : B ≤ w.heap.size) (hl : l.length = n0) (hc0 : n0 ≤ c0) (h0 : n0 ≤ 1000) (hn : n ≤ 1000) (hn' : n' ≤ 1000)
    (hR : RdS w B A0 l) (hv : HV w B A n c A' n' c' h) (hq : ∀ x ∈ h.old, x.length ≤ maxLen) (hq' : ∀ x ∈ h.new, x.length ≤ maxLen) :
    Calls Try.prog 32 #[.slice A0 n0 c0, hkV h.pos A n c A' n' c'] w (ApplyEnd w l h) := by
  have HV0 := Lib.hid hv
  have HL := Lib.hid hv.l; have HL' := Lib.hid hv.l'; have HL0 := Lib.hid hl
  have R := Lib.hid hv.r; have R' := Lib.hid hv.r'; have R0 := Lib.hid hR
  clear hv hl hR
  obtain ⟨p, hp⟩ : ∃ p, h.pos = p := ⟨_, rfl⟩
  have HM := Lib.hid (refMay A n c A' n' c' B h (w.alloc (.cells #[.int .i64 h.pos, .slice A n c, .slice A' n' c'] 26)) (Nat.le_trans hB (by simp)) (HV0.out.below ((Below.refl _ w).alloc hB _)) hq hq')
  rw [hp] at HM ⊢
  have HP := Lib.hid hp; clear hp
  cases hm : mayH h with
  | false =>
    rw [hm] at HM
    have HE := Lib.hid (show applyE l h = 1 by unfold applyE; rw [hm]; rfl)
    have HA := Lib.hid (show applyL l h = [] by unfold applyL; rw [hm]; rfl)
    clear hm
    go_enter Try.func32, Try.ntmps32
    go_wp2_with fail
    refine HM.out.mono ?_
    rintro e w1 ⟨rfl, hb⟩
    go_wp2
    go_ret2
    exact applyEnd_none HE.out HA.out (below_box _ hb)
  | true =>
  rw [hm] at HM
  cases hh : has l h.pos h.old with
  | false =>
    have HE := Lib.hid (show applyE l h = 5 by unfold applyE; rw [hm, hh]; rfl)
    have HA := Lib.hid (show applyL l h = [] by unfold applyL; rw [hm, hh]; rfl)
    rw [HP.out] at hh
    have HH := Lib.hid hh; clear hm hh
    go_enter Try.func32, Try.ntmps32
    go_wp2_with fail
    refine HM.out.mono ?_
    rintro e w1 ⟨rfl, hb⟩
    have b1 := (Blk.new w 26 #[.int .i64 p, .slice A n c, .slice A' n' c']).below hb (by simp)
    have x0 : w1.cell? ⟨w.heap.size, 0, none⟩ = some (.int .i64 p) := b1.cell 0 rfl
    have x1 : w1.cell? ⟨w.heap.size, 1, none⟩ = some (.slice A n c) := b1.cell 1 rfl
    have x2 : w1.cell? ⟨w.heap.size, 2, none⟩ = some (.slice A' n' c') := b1.cell 2 rfl
    have HB1 := Lib.hid (below_box _ hb)
    clear b1 hb
    go_wp2_with fail
    refine (RefSwap_no A0 A A' c0 c c' n0 n n' B p l h.old w1 HL0.out HL.out (by unfold maxLen; omega) HV0.out.m (Rd.below R0.out (HB1.out.mono hB)) (Rd.below R.out (HB1.out.mono hB)) HH.out).mono ?_
    rintro e w2 ⟨rfl, d, rfl⟩
    go_wp2
    go_ret2
    exact applyEnd_none HE.out HA.out (below_drewN HB1.out d)
  | true =>
    have HE := Lib.hid (show applyE l h = 0 by unfold applyE; rw [hm, hh]; rfl)
    have HA := Lib.hid (show applyL l h = swp l h.pos.toNat n h.new by unfold applyL; rw [hm, hh, HL.out]; rfl)
    rw [HP.out] at hh
    obtain ⟨k, rfl⟩ : ∃ k : Nat, p = k := ⟨p.toNat, by have := (has_len hh).1; omega⟩
    rw [HP.out, Int.toNat_natCast] at HA
    have HH := Lib.hid hh; clear hm hh
    go_enter Try.func32, Try.ntmps32
    go_wp2_with fail
    refine HM.out.mono ?_
    rintro e w1 ⟨rfl, hb⟩
    have b1 := (Blk.new w 26 #[.int .i64 (k : Int), .slice A n c, .slice A' n' c']).below hb (by simp)
    have x0 : w1.cell? ⟨w.heap.size, 0, none⟩ = some (.int .i64 (k : Int)) := b1.cell 0 rfl
    have x1 : w1.cell? ⟨w.heap.size, 1, none⟩ = some (.slice A n c) := b1.cell 1 rfl
    have x2 : w1.cell? ⟨w.heap.size, 2, none⟩ = some (.slice A' n' c') := b1.cell 2 rfl
    have HB1 := Lib.hid (below_box _ hb)
    clear b1 hb
    go_wp2_with fail
    refine (RefSwap_yes A0 A A' c0 c c' n0 n n' B k l h.old h.new w1 HL0.out HL.out HL'.out hc0 h0 hn hn' (Nat.le_trans hB HB1.out.size) (Rd.below R0.out (HB1.out.mono hB)) (Rd.below R.out (HB1.out.mono hB)) (Rd.below R'.out (HB1.out.mono hB)) HH.out).mono ?_
    rintro e w2 ⟨v, rfl, hA, hb2⟩
    obtain ⟨A3, c3, rfl, hc3, _, hr3, _⟩ := hA
    go_wp2
    go_ret2
    exact ⟨A3, (swp l k n h.new).length, c3, by rw [HE.out]; rfl, hc3, by rw [HA.out], by rw [HA.out]; exact hr3, HB1.out.trans (hb2.mono HB1.out.size)⟩

end Hk
end Go.Proofs.Ytdjeebfbffoehaa
