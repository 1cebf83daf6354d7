/-
  What the document's Same and May of layer 7 return (walks).
-/
import Derived.Test.YtdjeebfbffoehaaTrRef
namespace Go.Proofs.Ytdjeebfbffoehaa
open Go.RowKit
set_option linter.unusedVariables false
namespace Tr
open Tx

theorem SameQ (A A' : Option Addr) (c c' n n' B : Nat) (ls ms : List (List UInt8)) (w : World) (d : Nat) (b : Bool) (hn : ls.length = n) (hn' : ms.length = n') (hnm : n ≤ maxLen) (hR : RdS w B A ls) (hR' : RdS w B A' ms) (hb : decide (ls = ms) = b) :
    Calls Try.prog 33 #[.slice A n c, .slice A' n' c'] (w.drewN d) fun e w' => e = .returned (.bool b) ∧ ∃ m, w' = (w.drewN d).drewN m := by
  subst hb
  exact (Tx.Same A A' c c' n n' B ls ms (w.drewN d) hn hn' hnm (Rd.drewN hR d) (Rd.drewN hR' d)).mono fun e w' h => h

set_option maxRecDepth 100000 in
set_option maxHeartbeats 2000000 in
theorem refSameT (A A' : Option Addr) (n c n' c' B : Nat) (t u : TR) (w : World) (hn : t.length = n) (hn' : u.length = n') (hnm : n ≤ maxLen) (hfit : ∀ x ∈ t, x.2.length ≤ maxLen) (hR : RdT w B A t) (hR' : RdT w B A' u) :
    Calls Try.prog 14 #[.slice A n c, .slice A' n' c'] w (SameEnd w (decide (t = u))) := by
  unfold maxLen at hnm
  have HN := Lib.hid hn; have HN' := Lib.hid hn'; have R := Lib.hid hR; have R' := Lib.hid hR'; have HFIT := Lib.hid hfit
  clear hn hn' hR hR' hfit
  by_cases h1 : n = n'
  · subst h1
    go_enter Try.func14, Try.ntmps14
    go_wp2
    go_loopw [5] (fun i wr => ∃ k : Nat, k ≤ n ∧ i = .int .i64 k ∧ t.take k = u.take k ∧ ∃ d, wr = w.drewN d) (fun i _ => n - (intOf i).toNat)
    case atStart => exact ⟨0, Nat.zero_le _, rfl, by simp, 0, rfl⟩
    case round =>
      obtain ⟨k, hk, rfl, hall, d, rfl⟩ := hrel
      have HA := Lib.hid hall; clear hall
      by_cases hlt : k < n
      · have hkt : k < t.length := by rw [HN.out]; exact hlt
        have hku : k < u.length := by rw [HN'.out]; exact hlt
        obtain ⟨a, rfl, hab, hat⟩ := (RdT.drewN R.out d).at_ hkt
        obtain ⟨a', rfl, hab', hat'⟩ := (RdT.drewN R'.out d).at_ hku
        have hl := HFIT.out _ (List.getElem_mem hkt)
        have hnx : t[k] = u[k] → t.take (k + 1) = u.take (k + 1) := fun e => take_eq_succ hkt hku HA.out e
        have hno : t[k] ≠ u[k] → decide (t = u) = false := fun e => decide_eq_false fun h => e (by subst h; rfl)
        generalize t[k] = x at *
        generalize u[k] = y at *
        obtain ⟨xs, xl⟩ := x
        obtain ⟨ys, yl⟩ := y
        have HNX := Lib.hid hnx; have HNO := Lib.hid hno
        clear hnx hno
        obtain ⟨c0, A1, c1, k1, _, r1⟩ := hat
        obtain ⟨c0', A2, c2, k2, _, r2⟩ := hat'
        dsimp only at c0 k1 r1 c0' k2 r2 hl
        obtain ⟨m1, hm1⟩ : ∃ m, xl.length = m := ⟨_, rfl⟩
        obtain ⟨m2, hm2⟩ : ∃ m, yl.length = m := ⟨_, rfl⟩
        rw [hm1] at k1 hl
        rw [hm2] at k2
        have hS := fun b e hb => SameQ A1 A2 c1 c2 m1 m2 B xl yl (w.drewN d) e b hm1 hm2 hl r1 r2 hb
        have HSS := Lib.hid hS
        clear hm1 hm2 r1 r2 hS
        have hki : (k : Int) < (n : Int) := by omega
        have hki2 : (0 : Int) ≤ (k : Int) := by omega
        generalize hw : w.drewN d = w1 at *
        have HW := Lib.hid hw; clear hw
        cases hq : decide (xl = yl) with
        | false =>
          have HQ := Lib.hid (HNO.out (fun e => of_decide_eq_false hq (by injection e)))
          have HS2 := Lib.hid (fun e => HSS.out false e hq)
          clear hq
          go_wp2
          go_quiet (with_reducible exact Calls.quiet_of (HS2.out _))
          go_wp2
          go_quiet (fail)
          go_wp2
          go_ret
          exact ⟨ret_bool HQ.out.symm, by rw [← HW.out]; first | exact ⟨_, rfl⟩ | exact ⟨_, by rw [World.drewN_drewN]⟩ | exact ⟨_, by rw [World.drewN_drewN, World.drewN_drewN]⟩⟩
        | true =>
          have HS2 := Lib.hid (fun e => HSS.out true e hq)
          have HQ := Lib.hid (of_decide_eq_true hq)
          clear hq
          by_cases he : xs = ys
          · have HQ2 := Lib.hid (HNX.out (by rw [he, HQ.out]))
            subst he
            go_wp2
            go_quiet (with_reducible exact Calls.quiet_of (HS2.out _))
            go_wp2
            go_quiet (fail)
            go_wp2
            go_roundw
            case rel => exact ⟨k + 1, by omega, by go_num, HQ2.out, by rw [← HW.out]; first | exact ⟨_, rfl⟩ | exact ⟨_, by rw [World.drewN_drewN]⟩ | exact ⟨_, by rw [World.drewN_drewN, World.drewN_drewN]⟩⟩
            case measure => simp [intOf]; omega
          · have HQ2 := Lib.hid (HNO.out (fun e => he (by injection e)))
            have h2 : (xs == ys) = false := by simpa using he
            have h3 : (xs != ys) = true := by simpa using he
            clear he
            go_wp2
            go_quiet (with_reducible exact Calls.quiet_of (HS2.out _))
            go_wp2
            go_quiet (fail)
            go_wp2
            go_ret
            exact ⟨ret_bool HQ2.out.symm, by rw [← HW.out]; first | exact ⟨_, rfl⟩ | exact ⟨_, by rw [World.drewN_drewN]⟩ | exact ⟨_, by rw [World.drewN_drewN, World.drewN_drewN]⟩⟩
      · have HD : Hid (decide (t = u) = true) := Lib.hid (by
          have := HA.out
          rw [List.take_of_length_le (by rw [HN.out]; omega), List.take_of_length_le (by rw [HN'.out]; omega)] at this
          exact decide_eq_true this)
        go_wp2
        go_ret
        exact ⟨ret_bool HD.out.symm, _, rfl⟩
  · have HD : Hid (decide (t = u) = false) := Lib.hid (decide_eq_false (fun e => h1 (by rw [← HN.out, ← HN'.out, e])))
    have hne : ((n : Int) != (n' : Int)) = true := by rw [bne_iff_ne]; omega
    go_enter Try.func14, Try.ntmps14
    go_wp2
    go_ret
    exact ⟨ret_bool HD.out.symm, 0, rfl⟩

theorem RefNameV (x : List UInt8) (w : World) (hx : x.length ≤ maxLen) : Calls Try.prog 38 #[strV x] w fun e w' => e = .returned (.bool (name x)) ∧ w = w' := by
  have := RefName ⟨x.toArray⟩ w (by rw [size_strV]; exact hx)
  simpa using this

theorem MayT.done' {t : TR} (h : MayT t t.length) : mayT t = decide (t.length ≤ 30) := by
  by_cases hl : t.length ≤ 30
  · rw [h.done hl, decide_eq_true hl]
  · rw [decide_eq_false hl]; unfold mayT; rw [decide_eq_false hl]; rfl

end Tr
end Go.Proofs.Ytdjeebfbffoehaa
