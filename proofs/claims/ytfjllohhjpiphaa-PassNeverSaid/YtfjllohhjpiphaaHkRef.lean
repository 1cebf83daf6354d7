/-
  What the document's own May, Same, Turn and Apply of layer 5 return (walks): the same plain functions as the program's.
-/
import Derived.Test.YtfjllohhjpiphaaHkApply
import Derived.Test.YtfjllohhjpiphaaGX
import Derived.Test.YtfjllohhjpiphaaGS
set_option maxRecDepth 100000
namespace Go.Proofs.Ytfjllohhjpiphaa
open Go.RowKit
set_option linter.unusedVariables false
namespace Hk
open Tx Df Sq

theorem ret_and {b x y : Bool} (h : b = (x && y)) : Ending.returned (.bool (x && y)) = .returned (.bool b) := by rw [h]

set_option maxHeartbeats 1000000 in
theorem refMay (A : Option Addr) (n c : Nat) (A' : Option Addr) (n' c' B : Nat) (h : HU) (w : World) (hB : B ≤ w.heap.size) (hv : HV w B A n c A' n' c' h) (hq : ∀ x ∈ h.old, x.length ≤ maxLen) (hq' : ∀ x ∈ h.new, x.length ≤ maxLen) :
    Calls Try.prog 47 #[hkV h.pos A n c A' n' c'] w (TestEnd w (mayH h)) := by
  obtain ⟨l, l', k, k', m, m', r, r', p⟩ := hv
  have HL := Lib.hid l; have HL' := Lib.hid l'; have HQ := Lib.hid hq; have HQ' := Lib.hid hq'; clear l l' hq hq'
  have HM : Hid (mayH h = (decide (0 ≤ h.pos) && decide (h.pos ≤ 1048576) && (allMay h.old && allMay h.new))) := Lib.hid rfl
  have HP := Lib.hid p; clear p
  generalize mayH h = mh at *
  generalize h.pos = q at *
  go_enter Try.func47, Try.ntmps47
  go_wp2_with fail
  refine (RefAll _ _ _ B h.old _ HL.out m (rd_alloc r hB _) HQ.out).mono ?_
  rintro e w' ⟨rfl, rfl⟩
  go_wp2_with fail
  refine (RefAll _ _ _ B h.new _ HL'.out m' (rd_alloc r' hB _) HQ'.out).mono ?_
  rintro e w' ⟨rfl, rfl⟩
  cases ho : allMay h.old with
  | false =>
    have HO : Hid (mh = false) := Lib.hid (by rw [HM.out, ho]; simp)
    clear ho HM
    go_wp2
    go_ret
    exact ⟨ret_bool (by rw [HO.out]), (Below.refl _ _).alloc (Nat.le_refl _) _⟩
  | true =>
  cases hn : allMay h.new with
  | false =>
    have HO : Hid (mh = false) := Lib.hid (by rw [HM.out, hn]; simp)
    clear ho hn HM
    go_wp2
    go_ret
    exact ⟨ret_bool (by rw [HO.out]), (Below.refl _ _).alloc (Nat.le_refl _) _⟩
  | true =>
  by_cases h0 : 0 ≤ q
  · by_cases h1 : q ≤ 1048576
    · have HO : Hid (mh = true) := Lib.hid (by rw [HM.out, ho, hn, decide_eq_true h0, decide_eq_true h1]; rfl)
      clear ho hn HM
      go_wp2
      go_ret
      exact ⟨ret_bool (by rw [HO.out]), (Below.refl _ _).alloc (Nat.le_refl _) _⟩
    · have HO : Hid (mh = false) := Lib.hid (by rw [HM.out, decide_eq_false h1]; simp)
      clear ho hn HM
      go_wp2
      go_ret
      exact ⟨ret_bool (by rw [HO.out]; exact decide_eq_false (by omega)), (Below.refl _ _).alloc (Nat.le_refl _) _⟩
  · have HO : Hid (mh = false) := Lib.hid (by rw [HM.out, decide_eq_false h0]; simp)
    clear ho hn HM
    go_wp2
    go_ret
    exact ⟨ret_bool (by rw [HO.out]), (Below.refl _ _).alloc (Nat.le_refl _) _⟩

set_option maxHeartbeats 1000000 in
theorem refSameH (A : Option Addr) (n c : Nat) (A' : Option Addr) (n' c' : Nat) (D : Option Addr) (m k : Nat) (D' : Option Addr) (m' k' B : Nat) (h g : HU) (w : World) (hB : B ≤ w.heap.size) (hv : HV w B A n c A' n' c' h) (gv : HV w B D m k D' m' k' g) :
    Calls Try.prog 31 #[hkV h.pos A n c A' n' c', hkV g.pos D m k D' m' k'] w (TestEnd w (sameH h g)) := by
  have HL := Lib.hid hv.l; have HL' := Lib.hid hv.l'; have GL := Lib.hid gv.l; have GL' := Lib.hid gv.l'
  have hm := hv.m; have hm' := hv.m'
  have R := Lib.hid hv.r; have R' := Lib.hid hv.r'; have Q := Lib.hid gv.r; have Q' := Lib.hid gv.r'
  clear hv gv
  obtain ⟨b, hb⟩ : ∃ b, sameH h g = b := ⟨_, rfl⟩
  rw [hb]
  have HS : Hid (b = (decide (h.pos = g.pos) && (decide (h.old = g.old) && decide (h.new = g.new)))) := Lib.hid (by rw [← hb]; rfl)
  clear hb
  generalize h.pos = p at *
  generalize g.pos = q at *
  go_enter Try.func31, Try.ntmps31
  go_wp2_with fail
  refine (Same _ _ _ _ _ _ B h.old g.old _ HL.out GL.out hm (rd_two R.out hB _ _ 0) (rd_two Q.out hB _ _ 0)).mono ?_
  rintro e w' ⟨rfl, d, rfl⟩
  go_wp2_with fail
  refine (Same _ _ _ _ _ _ B h.new g.new _ HL'.out GL'.out hm' (rd_two R'.out hB _ _ _) (rd_two Q'.out hB _ _ _)).mono ?_
  rintro e w' ⟨rfl, d', rfl⟩
  cases ho : decide (h.old = g.old) with
  | false =>
    have HO : Hid (b = false) := Lib.hid (by rw [HS.out, ho]; simp)
    clear ho HS
    go_wp2
    go_ret
    exact ⟨ret_bool (by rw [HO.out]), by simpa using below_two w _ _ _⟩
  | true =>
  cases hn : decide (h.new = g.new) with
  | false =>
    have HO : Hid (b = false) := Lib.hid (by rw [HS.out, hn]; simp)
    clear ho hn HS
    go_wp2
    go_ret
    exact ⟨ret_bool (by rw [HO.out]), by simpa using below_two w _ _ _⟩
  | true =>
  by_cases hp : p = q
  · have HO : Hid (b = true) := Lib.hid (by rw [HS.out, ho, hn, decide_eq_true hp]; rfl)
    clear ho hn HS
    subst hp
    go_wp2
    go_ret
    exact ⟨ret_bool (by rw [HO.out]), by simpa using below_two w _ _ _⟩
  · have HO : Hid (b = false) := Lib.hid (by rw [HS.out, decide_eq_false hp]; rfl)
    have hne : (p == q) = false := by rw [beq_eq_false_iff_ne]; exact hp
    clear ho hn HS hp
    go_wp2
    go_ret
    exact ⟨ret_bool (by rw [HO.out]), by simpa using below_two w _ _ _⟩

end Hk
end Go.Proofs.Ytfjllohhjpiphaa
