/-
  What same, slices.EqualFunc (of files) and Same of layer 7 return (walks).
-/
import Derived.Test.YtfjllohhjpiphaaTrMem
import Derived.Test.YtfjllohhjpiphaaGQ
import Derived.BigQuiet
set_option maxRecDepth 100000
namespace Go.Proofs.Ytfjllohhjpiphaa
open Go.RowKit
set_option linter.unusedVariables false
namespace Tr
open Tx

set_option maxHeartbeats 1000000 in
theorem same (s s' : List UInt8) (A A' : Option Addr) (n c n' c' B : Nat) (ls ms : List (List UInt8)) (w : World) (hn : ls.length = n) (hn' : ms.length = n') (hnm : n ≤ maxLen) (hB : B ≤ w.heap.size) (hR : RdS w B A ls) (hR' : RdS w B A' ms) :
    Calls Try.prog 37 #[flV s A n c, flV s' A' n' c'] w (BoolEnd w (decide ((s, ls) = (s', ms)))) := by
  have HN := Lib.hid hn; have HN' := Lib.hid hn'; have R := Lib.hid hR; have R' := Lib.hid hR'
  clear hn hn' hR hR'
  have hw : Below w.heap.size w ((w.alloc (.cells #[strV s, .slice A n c] 48)).alloc (.cells #[strV s', .slice A' n' c'] 48)) := ((Below.refl _ _).alloc (Nat.le_refl _) _).alloc (by simp) _
  have HW := Lib.hid hw; clear hw
  by_cases he : s = s'
  · subst he
    have HD : Hid (decide ((s, ls) = (s, ms)) = decide (ls = ms)) := Lib.hid (by simp)
    go_enter Try.func37, Try.ntmps37
    go_wp2_with fail
    refine (EqualS A A' c c' n n' B ls ms _ HN.out HN'.out hnm (Rd.below R.out (HW.out.mono hB)) (Rd.below R'.out (HW.out.mono hB))).mono ?_
    rintro e w1 ⟨rfl, d, rfl⟩
    go_wp2
    go_ret
    exact ⟨ret_bool HD.out.symm, below_drewN HW.out _⟩
  · have HD : Hid (decide ((s, ls) = (s', ms)) = false) := Lib.hid (decide_eq_false (fun e => he (by injection e)))
    have h1 : (s == s') = false := by simpa using he
    clear he
    go_enter Try.func37, Try.ntmps37
    go_wp2
    go_ret
    exact ⟨ret_bool HD.out.symm, HW.out⟩

set_option maxHeartbeats 2000000 in
theorem EqualF (A A' : Option Addr) (n c n' c' B : Nat) (t u : TR) (w : World) (hn : t.length = n) (hn' : u.length = n') (hnm : n ≤ maxLen) (hfit : ∀ x ∈ t, x.2.length ≤ maxLen) (hB : B ≤ w.heap.size) (hR : RdT w B A t) (hR' : RdT w B A' u) :
    Calls Try.prog 36 #[.slice A n c, .slice A' n' c', .func (.func 37) #[] #[]] w (BoolEnd w (decide (t = u))) := by
  unfold maxLen at hnm
  have HN := Lib.hid hn; have HN' := Lib.hid hn'; have R := Lib.hid hR; have R' := Lib.hid hR'; have HFIT := Lib.hid hfit
  clear hn hn' hR hR' hfit
  by_cases h1 : n = n'
  · subst h1
    go_enter Try.func36, Try.ntmps36
    go_wp2
    go_loopw [17] (fun i wr => ∃ k : Nat, k ≤ n ∧ i = .int .i64 k ∧ t.take k = u.take k ∧ Below w.heap.size w wr) (fun i _ => n - (intOf i).toNat)
    case atStart => exact ⟨0, Nat.zero_le _, rfl, by simp, Below.refl _ _⟩
    case round =>
      obtain ⟨k, hk, rfl, hall, hbw⟩ := hrel
      have HA := Lib.hid hall; have HBW := Lib.hid hbw; clear hall hbw
      by_cases hlt : k < n
      · have hkt : k < t.length := by rw [HN.out]; exact hlt
        have hku : k < u.length := by rw [HN'.out]; exact hlt
        obtain ⟨a, rfl, hab, hat⟩ := (RdT.below R.out (HBW.out.mono hB)).at_ hkt
        obtain ⟨a', rfl, hab', hat'⟩ := (RdT.below R'.out (HBW.out.mono hB)).at_ hku
        have hl := HFIT.out _ (List.getElem_mem hkt)
        have hnx : t[k] = u[k] → t.take (k + 1) = u.take (k + 1) := fun e => take_eq_succ hkt hku HA.out e
        have hno : t[k] ≠ u[k] → decide (t = u) = false := fun e => decide_eq_false fun h => e (by subst h; rfl)
        generalize t[k] = x at *
        generalize u[k] = y at *
        obtain ⟨xs, xl⟩ := x
        obtain ⟨ys, yl⟩ := y
        have HNX := Lib.hid hnx; have HNO := Lib.hid hno
        clear hnx hno
        obtain ⟨c0, A1, c1, k1, _, r1⟩ := hat
        obtain ⟨c0', A2, c2, k2, _, r2⟩ := hat'
        dsimp only at c0 k1 r1 c0' k2 r2 hl
        obtain ⟨m1, hm1⟩ : ∃ m, xl.length = m := ⟨_, rfl⟩
        obtain ⟨m2, hm2⟩ : ∃ m, yl.length = m := ⟨_, rfl⟩
        rw [hm1] at k1 hl
        rw [hm2] at k2
        have HM1 := Lib.hid hm1; have HM2 := Lib.hid hm2; have R1 := Lib.hid r1; have R2 := Lib.hid r2
        clear hm1 hm2 r1 r2
        have hBW : B ≤ wr.heap.size := Nat.le_trans hB HBW.out.size
        have hba : Below wr.heap.size wr ((wr.alloc (.cells #[strV xs, .slice A1 m1 c1] 48)).alloc (.cells #[strV ys, .slice A2 m2 c2] 48)) := ((Below.refl _ _).alloc (Nat.le_refl _) _).alloc (by simp) _
        have HBA := Lib.hid hba; clear hba
        have hcell : ∀ o, (wr.alloc o).cell? (a'.add (k * 2)) = some (strV ys) := fun o => cell_alc o c0'
        have hcell2 : ∀ o, (wr.alloc o).cell? ⟨(a'.add (k * 2)).block, (a'.add (k * 2)).off + 1, none⟩ = some (.slice A2 m2 c2) := fun o => cell_alc o k2
        have g0 := hcell (.cells #[strV xs, .slice A1 m1 c1] 48)
        have g1 := hcell2 (.cells #[strV xs, .slice A1 m1 c1] 48)
        clear hcell hcell2
        cases hq : decide ((xs, xl) = (ys, yl)) with
        | true =>
          have HQ := Lib.hid (HNX.out (of_decide_eq_true hq))
          have HQ2 := Lib.hid hq
          clear hq
          go_wp2_with fail
          refine (same xs ys A1 A2 m1 c1 m2 c2 B xl yl _ HM1.out HM2.out hl (Nat.le_trans hBW HBA.out.size) (Rd.below R1.out (HBA.out.mono hBW)) (Rd.below R2.out (HBA.out.mono hBW))).mono ?_
          rintro e w2 ⟨rfl, hb2⟩
          rw [HQ2.out]
          have HB2 := Lib.hid (HBW.out.trans ((HBA.out.trans (hb2.mono HBA.out.size)).mono HBW.out.size))
          clear hb2
          go_wp2
          go_roundw
          case rel => exact ⟨k + 1, by omega, by go_num, HQ.out, HB2.out⟩
          case measure => simp [intOf]; omega
        | false =>
          have HQ := Lib.hid (HNO.out (of_decide_eq_false hq))
          have HQ2 := Lib.hid hq
          clear hq
          go_wp2_with fail
          refine (same xs ys A1 A2 m1 c1 m2 c2 B xl yl _ HM1.out HM2.out hl (Nat.le_trans hBW HBA.out.size) (Rd.below R1.out (HBA.out.mono hBW)) (Rd.below R2.out (HBA.out.mono hBW))).mono ?_
          rintro e w2 ⟨rfl, hb2⟩
          rw [HQ2.out]
          have HB2 := Lib.hid (HBW.out.trans ((HBA.out.trans (hb2.mono HBA.out.size)).mono HBW.out.size))
          clear hb2
          go_wp2
          go_ret
          exact ⟨ret_bool HQ.out.symm, HB2.out⟩
      · have HD : Hid (decide (t = u) = true) := Lib.hid (by
          have := HA.out
          rw [List.take_of_length_le (by rw [HN.out]; omega), List.take_of_length_le (by rw [HN'.out]; omega)] at this
          exact decide_eq_true this)
        go_wp2
        go_ret
        exact ⟨ret_bool HD.out.symm, HBW.out⟩
  · have HD : Hid (decide (t = u) = false) := Lib.hid (decide_eq_false (fun e => h1 (by rw [← HN.out, ← HN'.out, e])))
    have hne : ((n : Int) != (n' : Int)) = true := by rw [bne_iff_ne]; omega
    go_enter Try.func36, Try.ntmps36
    go_wp2
    go_ret
    exact ⟨ret_bool HD.out.symm, Below.refl _ _⟩

theorem Same (A A' : Option Addr) (n c n' c' B : Nat) (t u : TR) (w : World) (hn : t.length = n) (hn' : u.length = n') (hnm : n ≤ maxLen) (hfit : ∀ x ∈ t, x.2.length ≤ maxLen) (hB : B ≤ w.heap.size) (hR : RdT w B A t) (hR' : RdT w B A' u) :
    Calls Try.prog 19 #[.slice A n c, .slice A' n' c'] w (BoolEnd w (decide (t = u))) := by
  have H := Lib.hid (EqualF A A' n c n' c' B t u w hn hn' hnm hfit hB hR hR')
  go_enter Try.func19, Try.ntmps19
  go_wp2_with fail
  refine H.out.mono ?_
  rintro e w1 ⟨rfl, hb⟩
  go_wp2
  go_ret
  exact ⟨rfl, hb⟩

end Tr
end Go.Proofs.Ytfjllohhjpiphaa
