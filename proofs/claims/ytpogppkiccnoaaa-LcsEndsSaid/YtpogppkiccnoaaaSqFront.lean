/-
  What Front of layer 2 returns for every two lists of lines (walks); it draws, and changes nothing.
-/
import Derived.Test.YtpogppkiccnoaaaQLight
import Derived.Test.YtpogppkiccnoaaaSqPlain
namespace Go.Proofs.Ytpogppkiccnoaaa
open Go.RowKit
set_option linter.unusedVariables false
namespace Sq
open Tx

/-- How a count ends: some draws, and the number. -/
def NumEnd (w : World) (k : Nat) (e : Ending) (w' : World) : Prop := e = .returned (.int .i64 k) ∧ ∃ d, w' = w.drewN d

set_option maxHeartbeats 1000000 in
theorem Front_ (A A' : Option Addr) (cap cap' n n' B : Nat) (ls ms : List (List UInt8)) (w : World) (hn : ls.length = n) (hn' : ms.length = n') (hnm : n ≤ maxLen) (hnm' : n' ≤ maxLen) (hR : RdS w B A ls) (hR' : RdS w B A' ms) :
    Calls Try.prog 22 #[.slice A n cap, .slice A' n' cap'] w (NumEnd w (front ls ms)) := by
  unfold maxLen at hnm hnm'
  have HN := Lib.hid hn; clear hn
  have HN' := Lib.hid hn'; clear hn'
  go_enter Try.func22, Try.ntmps22
  go_wp2
  go_loopw [5] (fun i wr => ∃ k : Nat, k ≤ n ∧ k ≤ n' ∧ i = .int .i64 k ∧ ls.take k = ms.take k ∧ ∃ d, wr = w.drewN d) (fun i _ => n - (intOf i).toNat)
  case atStart => exact ⟨0, Nat.zero_le _, Nat.zero_le _, rfl, by simp, 0, rfl⟩
  case round =>
    obtain ⟨k, hk, hk', rfl, hall, d, rfl⟩ := hrel
    have HA := Lib.hid hall; clear hall
    by_cases hlt : k < n ∧ k < n'
    · obtain ⟨hlt, hlt'⟩ := hlt
      have hkl : k < ls.length := by rw [HN.out]; exact hlt
      have hkm : k < ms.length := by rw [HN'.out]; exact hlt'
      obtain ⟨a, rfl, hcell⟩ := hR.at' hkl
      obtain ⟨a', rfl, hcell'⟩ := hR'.at' hkm
      have HD := Lib.hid (take_eq_succ hkl hkm HA.out)
      have HE := Lib.hid (fun hne => front_is (k := k) HA.out (by omega) (by omega) (.inr (.inr ⟨hkl, hkm, hne⟩)))
      have hki : (k : Int) < (n : Int) := by omega
      have hki' : (k : Int) < (n' : Int) := by omega
      by_cases hmn : (n' : Int) < (n : Int)
      all_goals
        go_wp2
        go_quiet (fail)
        go_wp2
        · have hb : (ls[k] == ms[k]) = true := by assumption
          exact ⟨⟨k + 1, by omega, by omega, by go_num, HD.out (by simpa using hb), _, rfl⟩, by simp [intOf]; omega⟩
        · have hb : (ls[k] == ms[k]) = false := by assumption
          go_ret
          exact ⟨ret_int (by rw [HE.out (by simpa using hb)]), d + nq, by simp⟩
    · have HE := Lib.hid (front_is (k := k) HA.out (by rw [HN.out]; exact hk) (by rw [HN'.out]; exact hk') (by have h1 := HN.out; have h2 := HN'.out; by_cases e : k = n; exact .inl (by omega); exact .inr (.inl (by omega))))
      by_cases hmn : (n' : Int) < (n : Int)
      · have hd : decide ((k : Int) < (n' : Int)) = false := decide_eq_false (by omega)
        have hd' : decide (k < n') = false := decide_eq_false (by omega)
        clear hlt
        go_wp2
        go_quiet (fail)
        go_wp2
        go_ret
        exact ⟨ret_int (by rw [HE.out]), d + nq, by simp⟩
      · have hd : decide ((k : Int) < (n : Int)) = false := decide_eq_false (by omega)
        have hd' : decide (k < n) = false := decide_eq_false (by omega)
        clear hlt
        go_wp2
        go_quiet (fail)
        go_wp2
        go_ret
        exact ⟨ret_int (by rw [HE.out]), d + nq, by simp⟩

theorem Front (A A' : Option Addr) (cap cap' n n' B : Nat) (ls ms : List (List UInt8)) (w : World) (hn : ls.length = n) (hn' : ms.length = n') (hnm : n ≤ maxLen) (hnm' : n' ≤ maxLen) (hR : RdS w B A ls) (hR' : RdS w B A' ms) :
    Calls Try.prog 16 #[.slice A n cap, .slice A' n' cap'] w (NumEnd w (front ls ms)) := by
  have HN := Lib.hid hn; clear hn
  have HN' := Lib.hid hn'; clear hn'
  go_enter Try.func16, Try.ntmps16
  go_wp2_with fail
  refine (Front_ A A' cap cap' n n' B ls ms w HN.out HN'.out hnm hnm' hR hR').mono ?_
  rintro e w' ⟨rfl, d, rfl⟩
  go_wp2
  go_ret
  exact ⟨rfl, _, rfl⟩

end Sq
end Go.Proofs.Ytpogppkiccnoaaa
