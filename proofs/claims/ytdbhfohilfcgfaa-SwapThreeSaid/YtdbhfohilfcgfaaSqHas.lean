/-
  What slices.Equal and At of layer 2 return for every lists of lines (walks): whether lines stand at a place; they draw, and change nothing.
-/
import Derived.Test.YtdbhfohilfcgfaaQSame
import Derived.Test.YtdbhfohilfcgfaaSqPlain
namespace Go.Proofs.Ytdbhfohilfcgfaa
open Go.RowKit
set_option linter.unusedVariables false
namespace Sq
open Tx

set_option maxHeartbeats 400000 in
theorem Equal (A A' : Option Addr) (cap cap' n n' B : Nat) (ls ms : List (List UInt8)) (w : World) (hn : ls.length = n) (hn' : ms.length = n') (hnm : n ≤ maxLen) (hR : RdS w B A ls) (hR' : RdS w B A' ms) :
    Calls Try.prog 38 #[.slice A n cap, .slice A' n' cap'] w (SameEnd w (decide (ls = ms))) := by
  unfold maxLen at hnm
  have HN := Lib.hid hn; clear hn
  have HN' := Lib.hid hn'; clear hn'
  by_cases h1 : n = n'
  · subst h1
    go_enter Try.func38, Try.ntmps38
    go_wp2
    go_loopw [13] (fun i wr => ∃ k : Nat, k ≤ n ∧ i = .int .i64 k ∧ ls.take k = ms.take k ∧ ∃ d, wr = w.drewN d) (fun i _ => n - (intOf i).toNat)
    case atStart => exact ⟨0, Nat.zero_le _, rfl, by simp, 0, rfl⟩
    case round =>
      obtain ⟨k, hk, rfl, hall, d, rfl⟩ := hrel
      have HA := Lib.hid hall; clear hall
      by_cases hlt : k < n
      · have hkl : k < ls.length := by rw [HN.out]; exact hlt
        have hkm : k < ms.length := by rw [HN'.out]; exact hlt
        obtain ⟨a, rfl, hcell⟩ := hR.at' hkl
        obtain ⟨a', rfl, hcell'⟩ := hR'.at' hkm
        have HD := Lib.hid (same_step hkl hkm HA.out)
        have hki : (k : Int) < (n : Int) := by omega
        go_wp2
        go_quiet (fail)
        go_wp2
        · have hb : (!ls[k] == ms[k]) = true := by assumption
          go_ret
          exact ⟨ret_bool (HD.out.1 (by simpa using hb)).symm, d + nq, by simp⟩
        · have hb : (!ls[k] == ms[k]) = false := by assumption
          refine ⟨⟨k + 1, by omega, by go_num, HD.out.2 (by simpa using hb), _, rfl⟩, by simp [intOf]; omega⟩
      · have HD : Hid (decide (ls = ms) = true) := Lib.hid (by
          have := HA.out
          rw [List.take_of_length_le (by rw [HN.out]; omega), List.take_of_length_le (by rw [HN'.out]; omega)] at this
          exact decide_eq_true this)
        go_wp2
        go_ret
        exact ⟨ret_bool HD.out.symm, _, rfl⟩
  · have HD : Hid (decide (ls = ms) = false) := Lib.hid (decide_eq_false (fun e => h1 (by rw [← HN.out, ← HN'.out, e])))
    have hne : ((n : Int) != (n' : Int)) = true := by rw [bne_iff_ne]; omega
    go_enter Try.func38, Try.ntmps38
    go_wp2
    go_ret
    exact ⟨ret_bool HD.out.symm, 0, rfl⟩

set_option maxHeartbeats 400000 in
theorem Has (A A' : Option Addr) (cap cap' n n' B : Nat) (i : Int) (ls ms : List (List UInt8)) (w : World) (hn : ls.length = n) (hn' : ms.length = n') (hc : n ≤ cap) (hnm : n ≤ maxLen) (hnm' : n' ≤ maxLen) (hR : RdS w B A ls) (hR' : RdS w B A' ms) :
    Calls Try.prog 35 #[.slice A n cap, .int .i64 i, .slice A' n' cap'] w (SameEnd w (has ls i ms)) := by
  have hnm0 := hnm
  unfold maxLen at hnm hnm'
  have HM := Lib.hid hnm0; clear hnm0
  have HN := Lib.hid hn; clear hn
  have HN' := Lib.hid hn'; clear hn'
  by_cases h1 : i < 0
  · have HF : Hid (has ls i ms = false) := Lib.hid (has_false (.inl h1))
    go_enter Try.func35, Try.ntmps35
    go_wp2
    go_ret
    exact ⟨ret_bool HF.out.symm, 0, rfl⟩
  by_cases h2 : (n : Int) < i
  · have HF : Hid (has ls i ms = false) := Lib.hid (has_false (.inr (.inl (by rw [HN.out]; exact h2))))
    go_enter Try.func35, Try.ntmps35
    go_wp2
    go_ret
    exact ⟨ret_bool HF.out.symm, 0, rfl⟩
  obtain ⟨k, rfl⟩ : ∃ k : Nat, i = k := ⟨i.toNat, by omega⟩
  by_cases h3 : (n : Int) - k < n'
  · have HF : Hid (has ls k ms = false) := Lib.hid (has_false (.inr (.inr (by rw [HN.out, HN'.out]; omega))))
    go_enter Try.func35, Try.ntmps35
    go_wp2
    go_ret
    exact ⟨ret_bool HF.out.symm, 0, rfl⟩
  have HF : Hid (has ls k ms = decide ((ls.drop k).take n' = ms)) := Lib.hid (by rw [has_at (by rw [HN.out, HN'.out]; omega), HN'.out])
  go_enter Try.func35, Try.ntmps35
  have HL : Hid (((ls.drop k).take n').length = n') := Lib.hid (by rw [List.length_take, List.length_drop, HN.out]; omega)
  have hD : RdS w B (if cap = k then A else A.map (·.add k)) ((ls.drop k).take n') := by
    have := (Rd.drop hR (k := k) (cap := cap) (by rw [List.length_map, HN.out]; exact hc)).take n'
    unfold RdS; rw [List.map_take, List.map_drop]; exact this
  have hm' : n' ≤ maxLen := by unfold maxLen; omega
  by_cases hck : cap = k
  · rw [if_pos hck] at hD
    go_wp2_with fail
    refine (Equal _ _ _ _ n' n' B _ ms _ HL.out HN'.out hm' hD hR').mono ?_
    rintro e w' ⟨rfl, d, rfl⟩
    go_wp2
    go_ret
    exact ⟨ret_bool HF.out.symm, _, rfl⟩
  · rw [if_neg hck] at hD
    go_wp2_with fail
    refine (Equal _ _ _ _ n' n' B _ ms _ HL.out HN'.out hm' hD hR').mono ?_
    rintro e w' ⟨rfl, d, rfl⟩
    go_wp2
    go_ret
    exact ⟨ret_bool HF.out.symm, _, rfl⟩

end Sq
end Go.Proofs.Ytdbhfohilfcgfaa
