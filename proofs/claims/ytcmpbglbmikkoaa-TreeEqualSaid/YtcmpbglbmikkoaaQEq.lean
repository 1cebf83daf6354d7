/-
  What slices.Equal (of lines) returns (walk): it draws, and changes nothing.
-/
import Derived.Test.YtcmpbglbmikkoaaQSame
namespace Go.Proofs.Ytcmpbglbmikkoaa
open Go.RowKit
set_option linter.unusedVariables false
namespace Tx

set_option maxHeartbeats 400000 in
theorem EqualS (A A' : Option Addr) (cap cap' n n' B : Nat) (ls ms : List (List UInt8)) (w : World) (hn : ls.length = n) (hn' : ms.length = n') (hnm : n ≤ maxLen) (hR : RdS w B A ls) (hR' : RdS w B A' ms) :
    Calls Try.prog 53 #[.slice A n cap, .slice A' n' cap'] w (SameEnd w (decide (ls = ms))) := by
  unfold maxLen at hnm
  have HN := Lib.hid hn; clear hn
  have HN' := Lib.hid hn'; clear hn'
  by_cases h1 : n = n'
  · subst h1
    go_enter Try.func53, Try.ntmps53
    go_wp2
    go_loopw [13] (fun i wr => ∃ k : Nat, k ≤ n ∧ i = .int .i64 k ∧ ls.take k = ms.take k ∧ ∃ d, wr = w.drewN d) (fun i _ => n - (intOf i).toNat)
    case atStart => exact ⟨0, Nat.zero_le _, rfl, by simp, 0, rfl⟩
    case round =>
      obtain ⟨k, hk, rfl, hall, d, rfl⟩ := hrel
      have HA := Lib.hid hall; clear hall
      by_cases hlt : k < n
      · have hkl : k < ls.length := by rw [HN.out]; exact hlt
        have hkm : k < ms.length := by rw [HN'.out]; exact hlt
        obtain ⟨a, rfl, hcell⟩ := hR.at' hkl
        obtain ⟨a', rfl, hcell'⟩ := hR'.at' hkm
        have HD := Lib.hid (same_step hkl hkm HA.out)
        have hki : (k : Int) < (n : Int) := by omega
        go_wp2
        go_quiet (fail)
        go_wp2
        · have hb : (!ls[k] == ms[k]) = true := by assumption
          go_ret
          exact ⟨ret_bool (HD.out.1 (by simpa using hb)).symm, d + nq, by simp⟩
        · have hb : (!ls[k] == ms[k]) = false := by assumption
          refine ⟨⟨k + 1, by omega, by go_num, HD.out.2 (by simpa using hb), _, rfl⟩, by simp [intOf]; omega⟩
      · have HD : Hid (decide (ls = ms) = true) := Lib.hid (by
          have := HA.out
          rw [List.take_of_length_le (by rw [HN.out]; omega), List.take_of_length_le (by rw [HN'.out]; omega)] at this
          exact decide_eq_true this)
        go_wp2
        go_ret
        exact ⟨ret_bool HD.out.symm, _, rfl⟩
  · have HD : Hid (decide (ls = ms) = false) := Lib.hid (decide_eq_false (fun e => h1 (by rw [← HN.out, ← HN'.out, e])))
    have hne : ((n : Int) != (n' : Int)) = true := by rw [bne_iff_ne]; omega
    go_enter Try.func53, Try.ntmps53
    go_wp2
    go_ret
    exact ⟨ret_bool HD.out.symm, 0, rfl⟩

end Tx
end Go.Proofs.Ytcmpbglbmikkoaa
