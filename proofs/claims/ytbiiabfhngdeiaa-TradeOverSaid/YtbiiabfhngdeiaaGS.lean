/-
  Words and contracts, joined: SqHas SqFront SqTail SqSwap SqBack SqRef.
-/
import Derived.Test.YtbiiabfhngdeiaaGQ
import Derived.Test.YtbiiabfhngdeiaaGP
set_option maxRecDepth 100000
namespace Go.Proofs.Ytbiiabfhngdeiaa
open Go.RowKit
set_option linter.unusedVariables false
namespace Sq
open Tx

set_option maxHeartbeats 400000 in
theorem Equal (A A' : Option Addr) (cap cap' n n' B : Nat) (ls ms : List (List UInt8)) (w : World) (hn : ls.length = n) (hn' : ms.length = n') (hnm : n ≤ maxLen) (hR : RdS w B A ls) (hR' : RdS w B A' ms) :
    Calls Try.prog 121 #[.slice A n cap, .slice A' n' cap'] w (SameEnd w (decide (ls = ms))) := by
  unfold maxLen at hnm
  have HN := Lib.hid hn; clear hn
  have HN' := Lib.hid hn'; clear hn'
  by_cases h1 : n = n'
  · subst h1
    go_enter Try.func121, Try.ntmps121
    go_wp2
    go_loopw [13] (fun i wr => ∃ k : Nat, k ≤ n ∧ i = .int .i64 k ∧ ls.take k = ms.take k ∧ ∃ d, wr = w.drewN d) (fun i _ => n - (intOf i).toNat)
    case atStart => exact ⟨0, Nat.zero_le _, rfl, by simp, 0, rfl⟩
    case round =>
      obtain ⟨k, hk, rfl, hall, d, rfl⟩ := hrel
      have HA := Lib.hid hall; clear hall
      by_cases hlt : k < n
      · have hkl : k < ls.length := by rw [HN.out]; exact hlt
        have hkm : k < ms.length := by rw [HN'.out]; exact hlt
        obtain ⟨a, rfl, hcell⟩ := hR.at' hkl
        obtain ⟨a', rfl, hcell'⟩ := hR'.at' hkm
        have HD := Lib.hid (same_step hkl hkm HA.out)
        have hki : (k : Int) < (n : Int) := by omega
        go_wp2
        go_quiet (fail)
        go_wp2
        · have hb : (!ls[k] == ms[k]) = true := by assumption
          go_ret
          exact ⟨ret_bool (HD.out.1 (by simpa using hb)).symm, d + nq, by simp⟩
        · have hb : (!ls[k] == ms[k]) = false := by assumption
          refine ⟨⟨k + 1, by omega, by go_num, HD.out.2 (by simpa using hb), _, rfl⟩, by simp [intOf]; omega⟩
      · have HD : Hid (decide (ls = ms) = true) := Lib.hid (by
          have := HA.out
          rw [List.take_of_length_le (by rw [HN.out]; omega), List.take_of_length_le (by rw [HN'.out]; omega)] at this
          exact decide_eq_true this)
        go_wp2
        go_ret
        exact ⟨ret_bool HD.out.symm, _, rfl⟩
  · have HD : Hid (decide (ls = ms) = false) := Lib.hid (decide_eq_false (fun e => h1 (by rw [← HN.out, ← HN'.out, e])))
    have hne : ((n : Int) != (n' : Int)) = true := by rw [bne_iff_ne]; omega
    go_enter Try.func121, Try.ntmps121
    go_wp2
    go_ret
    exact ⟨ret_bool HD.out.symm, 0, rfl⟩

set_option maxHeartbeats 400000 in
theorem Has (A A' : Option Addr) (cap cap' n n' B : Nat) (i : Int) (ls ms : List (List UInt8)) (w : World) (hn : ls.length = n) (hn' : ms.length = n') (hc : n ≤ cap) (hnm : n ≤ maxLen) (hnm' : n' ≤ maxLen) (hR : RdS w B A ls) (hR' : RdS w B A' ms) :
    Calls Try.prog 118 #[.slice A n cap, .int .i64 i, .slice A' n' cap'] w (SameEnd w (has ls i ms)) := by
  have hnm0 := hnm
  unfold maxLen at hnm hnm'
  have HM := Lib.hid hnm0; clear hnm0
  have HN := Lib.hid hn; clear hn
  have HN' := Lib.hid hn'; clear hn'
  by_cases h1 : i < 0
  · have HF : Hid (has ls i ms = false) := Lib.hid (has_false (.inl h1))
    go_enter Try.func118, Try.ntmps118
    go_wp2
    go_ret
    exact ⟨ret_bool HF.out.symm, 0, rfl⟩
  by_cases h2 : (n : Int) < i
  · have HF : Hid (has ls i ms = false) := Lib.hid (has_false (.inr (.inl (by rw [HN.out]; exact h2))))
    go_enter Try.func118, Try.ntmps118
    go_wp2
    go_ret
    exact ⟨ret_bool HF.out.symm, 0, rfl⟩
  obtain ⟨k, rfl⟩ : ∃ k : Nat, i = k := ⟨i.toNat, by omega⟩
  by_cases h3 : (n : Int) - k < n'
  · have HF : Hid (has ls k ms = false) := Lib.hid (has_false (.inr (.inr (by rw [HN.out, HN'.out]; omega))))
    go_enter Try.func118, Try.ntmps118
    go_wp2
    go_ret
    exact ⟨ret_bool HF.out.symm, 0, rfl⟩
  have HF : Hid (has ls k ms = decide ((ls.drop k).take n' = ms)) := Lib.hid (by rw [has_at (by rw [HN.out, HN'.out]; omega), HN'.out])
  go_enter Try.func118, Try.ntmps118
  have HL : Hid (((ls.drop k).take n').length = n') := Lib.hid (by rw [List.length_take, List.length_drop, HN.out]; omega)
  have hD : RdS w B (if cap = k then A else A.map (·.add k)) ((ls.drop k).take n') := by
    have := (Rd.drop hR (k := k) (cap := cap) (by rw [List.length_map, HN.out]; exact hc)).take n'
    unfold RdS; rw [List.map_take, List.map_drop]; exact this
  have hm' : n' ≤ maxLen := by unfold maxLen; omega
  by_cases hck : cap = k
  · rw [if_pos hck] at hD
    go_wp2_with fail
    refine (Equal _ _ _ _ n' n' B _ ms _ HL.out HN'.out hm' hD hR').mono ?_
    rintro e w' ⟨rfl, d, rfl⟩
    go_wp2
    go_ret
    exact ⟨ret_bool HF.out.symm, _, rfl⟩
  · rw [if_neg hck] at hD
    go_wp2_with fail
    refine (Equal _ _ _ _ n' n' B _ ms _ HL.out HN'.out hm' hD hR').mono ?_
    rintro e w' ⟨rfl, d, rfl⟩
    go_wp2
    go_ret
    exact ⟨ret_bool HF.out.symm, _, rfl⟩

end Sq
end Go.Proofs.Ytbiiabfhngdeiaa

namespace Go.Proofs.Ytbiiabfhngdeiaa
open Go.RowKit
set_option linter.unusedVariables false
namespace Sq
open Tx

/-- How a count ends: some draws, and the number. -/
def NumEnd (w : World) (k : Nat) (e : Ending) (w' : World) : Prop := e = .returned (.int .i64 k) ∧ ∃ d, w' = w.drewN d

end Sq
end Go.Proofs.Ytbiiabfhngdeiaa

namespace Go.Proofs.Ytbiiabfhngdeiaa
open Go.RowKit
set_option linter.unusedVariables false
namespace Sq
open Tx

theorem tail_step {a b : List (List UInt8)} {k N N' j j' : Nat} (hN : a.length = N) (hN' : b.length = N') (hj : (N : Int) - 1 - k = j) (hj' : (N' : Int) - 1 - k = j') (h : a.drop (N - k) = b.drop (N' - k)) (h1 : j < a.length) (h2 : j' < b.length) :
    (a[j] = b[j'] → a.drop (N - (k + 1)) = b.drop (N' - (k + 1))) ∧ (a[j] ≠ b[j'] → front a.reverse b.reverse = k) := by
  subst hN
  subst hN'
  obtain rfl : a.length - 1 - k = j := by omega
  obtain rfl : b.length - 1 - k = j' := by omega
  exact ⟨fun e => drop_step (by omega) (by omega) h e, fun e => tail_is (by omega) (by omega) h (.inr (.inr ⟨h1, h2, e⟩))⟩

end Sq
end Go.Proofs.Ytbiiabfhngdeiaa

namespace Go.Proofs.Ytbiiabfhngdeiaa
open Go.RowKit
set_option linter.unusedVariables false
namespace Sq
open Tx

/-- How Clone ends. -/
def CloneEnd (w : World) (ls : List (List UInt8)) (n : Nat) (e : Ending) (w' : World) : Prop :=
  ∃ v, e = .returned v ∧ App w' w.heap.size 9 v n (ls.map strV) ∧ Below w.heap.size w w'

set_option maxHeartbeats 400000 in
theorem CloneW (A : Option Addr) (cap n B : Nat) (ls : List (List UInt8)) (w : World) (hn : ls.length = n) (hnm : n ≤ 8796093022208) (hB : B ≤ w.heap.size) (hR : RdS w B A ls) :
    Calls Try.prog 119 #[.slice A n cap] w (CloneEnd w ls n) := by
  obtain ⟨j0, hj, hy0, hy1, hy2⟩ := info_parts info_str
  have q := fun (w : World) (a : Option Addr) (n c n' c' : Nat) => Lib.run_eql_slice_nil (P := Try.prog) w 133 9 a n c n' c' Try.underlying133
  have HN := Lib.hid hn; clear hn
  cases A with
  | none =>
    have hnil := hR.none_nil
    have hl0 : ls = [] := by simpa using hnil
    have hn0 : n = 0 := by rw [← HN.out, hl0]; rfl
    subst hl0
    subst hn0
    go_enter Try.func119, Try.ntmps119
    go_wp2
    go_ret
    exact ⟨_, rfl, app_nil _ _ _, Below.refl _ _⟩
  | some a =>
    go_enter Try.func119, Try.ntmps119
    go_wp2_with (at_builtin; refine wpList_app rfl (.tmp 5) (.tmp 6) 133 rfl w.heap.size 9 j0 (.string ⟨#[]⟩) 16 Try.underlying133 hj hy0 hy1 hy2 rfl (.slice (some ⟨w.heap.size, 0, none⟩) 0 0) 0 [] rfl ⟨_, 0, rfl, Nat.le_refl _, rfl, .inl rfl, .inl rfl⟩ B (some a) n cap (ls.map strV) rfl (by rw [List.length_map]; exact HN.out) (hR.below ((Below.refl _ _).alloc hB _)) (strs_one _) (by unfold maxLen; omega) (by omega) (by simp) ?_; intro v' w' hA hBl; simp only [Nat.zero_add, List.nil_append] at hA)
    go_ret
    exact ⟨_, rfl, hA, ((Below.refl _ _).alloc (Nat.le_refl _) _).trans hBl⟩

theorem Clone (A : Option Addr) (cap n B : Nat) (ls : List (List UInt8)) (w : World) (hn : ls.length = n) (hnm : n ≤ 1000) (hB : B ≤ w.heap.size) (hR : RdS w B A ls) :
    Calls Try.prog 119 #[.slice A n cap] w (CloneEnd w ls n) :=
  CloneW A cap n B ls w hn (by omega) hB hR

/-- How a Swap ends that is one: the list, and true. -/
def SwapEnd (w : World) (xs : List (List UInt8)) (e : Ending) (w' : World) : Prop :=
  ∃ v, e = .returned (.tuple #[v, .bool true]) ∧ App w' w.heap.size 9 v xs.length (xs.map strV) ∧ Below w.heap.size w w'
/-- How a Swap ends that is none. -/
def NoneEnd (w : World) (e : Ending) (w' : World) : Prop := e = .returned (.tuple #[.slice none 0 0, .bool false]) ∧ ∃ d, w' = w.drewN d

set_option maxHeartbeats 400000 in
theorem swap_no (A A' A2 : Option Addr) (cap cap' cap2 n n' n2 B : Nat) (i : Int) (ls ms : List (List UInt8)) (w : World) (hn : ls.length = n) (hn' : ms.length = n') (hc : n ≤ cap) (hnm : n ≤ maxLen) (hnm' : n' ≤ maxLen) (hR : RdS w B A ls) (hR' : RdS w B A' ms) (hh : has ls i ms = false) :
    Calls Try.prog 116 #[.slice A n cap, .int .i64 i, .slice A' n' cap', .slice A2 n2 cap2] w (NoneEnd w) := by
  have HN := Lib.hid hn; clear hn
  have HN' := Lib.hid hn'; clear hn'
  have HH := Lib.hid hh; clear hh
  go_enter Try.func116, Try.ntmps116
  go_wp2_with fail
  refine (Has A A' cap cap' n n' B i ls ms w HN.out HN'.out hc hnm hnm' hR hR').mono ?_
  rw [HH.out]
  rintro e w' ⟨rfl, d, rfl⟩
  go_wp2
  go_ret2
  exact ⟨rfl, _, rfl⟩

set_option maxHeartbeats 1000000 in
theorem swap_yesW (A A' A2 : Option Addr) (cap cap' cap2 n n' n2 B k : Nat) (ls ms ns : List (List UInt8)) (w : World) (hn : ls.length = n) (hn' : ms.length = n') (hn2 : ns.length = n2) (hc : n ≤ cap) (hnm2 : n + n2 ≤ 8796093022208) (hB : B ≤ w.heap.size)
    (hR : RdS w B A ls) (hR' : RdS w B A' ms) (hR2 : RdS w B A2 ns) (hh : has ls k ms = true) :
    Calls Try.prog 116 #[.slice A n cap, .int .i64 k, .slice A' n' cap', .slice A2 n2 cap2] w (SwapEnd w (swp ls k n' ns)) := by
  obtain ⟨j0, hj, hy0, hy1, hy2⟩ := info_parts info_str
  have hkn := (has_len hh).2
  rw [Int.toNat_natCast, hn, hn'] at hkn
  have HN := Lib.hid hn; clear hn
  have HN' := Lib.hid hn'; clear hn'
  have HN2 := Lib.hid hn2; clear hn2
  have HH := Lib.hid hh; clear hh
  have hm1 : n ≤ maxLen := by unfold maxLen; omega
  have hm2 : n' ≤ maxLen := by unfold maxLen; omega
  go_enter Try.func116, Try.ntmps116
  go_wp2_with fail
  refine (Has A A' cap cap' n n' B k ls ms w HN.out HN'.out hc hm1 hm2 hR hR').mono ?_
  rw [HH.out]
  rintro e w' ⟨rfl, d, rfl⟩
  go_wp2_with fail
  refine (CloneW A cap n B ls _ HN.out (by omega) (by simpa using hB) (hR.drewN _)).mono ?_
  rintro e w1 ⟨v1, rfl, ⟨A1, c1, rfl, hc1, _, hR1, _⟩, hB1⟩
  have hB0 : Below w.heap.size w w1 := (below_drewN (Below.refl _ w) d).trans hB1
  clear hB1
  go_wp2_with fail
  have HL1 : Hid (((ls.map strV).take k).length = k) := Lib.hid (by rw [List.length_take, List.length_map, HN.out]; omega)
  have HL2 : Hid ((ns.map strV).length = n2) := Lib.hid (by rw [List.length_map]; exact HN2.out)
  have HL3 : Hid (((ls.map strV).drop (k + n')).length = n - (k + n')) := Lib.hid (by rw [List.length_drop, List.length_map, HN.out])
  have HL4 : Hid (∀ u ∈ (ls.map strV).drop (k + n'), u.oneCell' = true) := Lib.hid (fun u hu => strs_one ls u (List.mem_of_mem_drop hu))
  have HL5 : Hid ((swp ls k n' ns).length = k + n2 + (n - (k + n'))) := Lib.hid (by simp only [swp, List.length_append, List.length_take, List.length_drop, HN.out, HN2.out]; omega)
  have HL6 : Hid ((swp ls k n' ns).map strV = (ls.map strV).take k ++ ns.map strV ++ (ls.map strV).drop (k + n')) := Lib.hid (by simp [swp])
  have hT := Rd.drop hR1 (k := k + n') (cap := c1) (by rw [List.length_map, HN.out]; exact hc1)
  by_cases hck : c1 = k + n'
  · rw [if_pos hck] at hT
    go_quiet (fail)
    go_wp2_with (first
      | (at_builtin; refine wpList_app rfl (.tmp 30) (.tmp 31) 133 rfl w1.heap.size 9 j0 (.string ⟨#[]⟩) 16 Try.underlying133 hj hy0 hy1 hy2 rfl (.slice A1 k k) k ((ls.map strV).take k) rfl ⟨A1, k, rfl, Nat.le_refl _, HL1.out, (hR1.take k).drewN _, .inl rfl⟩ B A2 n2 cap2 (ns.map strV) rfl HL2.out ((hR2.below (hB0.mono hB)).drewN _) (strs_one _) (by unfold maxLen; omega) (by omega) (Nat.le_refl _) ?_; intro v3 w3 hA3 hB3; have hT3 := (hT.drewN nq).below hB3)
      | (at_builtin; refine wpList_app rfl (.tmp 32) (.tmp 33) 133 rfl w1.heap.size 9 j0 (.string ⟨#[]⟩) 16 Try.underlying133 hj hy0 hy1 hy2 rfl v3 (k + n2) _ rfl hA3 w1.heap.size _ (n - (k + n')) _ ((ls.map strV).drop (k + n')) rfl HL3.out hT3 HL4.out (by unfold maxLen; omega) (by omega) hB3.size ?_; intro v4 w4 hA4 hB4))
    go_ret2
    refine ⟨_, rfl, ?_, hB0.trans ((below_drewN (Below.refl _ w1) nq).trans (hB3.trans hB4) |>.mono hB0.size)⟩
    rw [HL5.out, HL6.out]
    exact app_mono hA4 hB0.size
  · rw [if_neg hck] at hT
    go_quiet (fail)
    go_wp2_with (first
      | (at_builtin; refine wpList_app rfl (.tmp 30) (.tmp 31) 133 rfl w1.heap.size 9 j0 (.string ⟨#[]⟩) 16 Try.underlying133 hj hy0 hy1 hy2 rfl (.slice A1 k k) k ((ls.map strV).take k) rfl ⟨A1, k, rfl, Nat.le_refl _, HL1.out, (hR1.take k).drewN _, .inl rfl⟩ B A2 n2 cap2 (ns.map strV) rfl HL2.out ((hR2.below (hB0.mono hB)).drewN _) (strs_one _) (by unfold maxLen; omega) (by omega) (Nat.le_refl _) ?_; intro v3 w3 hA3 hB3; have hT3 := (hT.drewN nq).below hB3)
      | (at_builtin; refine wpList_app rfl (.tmp 32) (.tmp 33) 133 rfl w1.heap.size 9 j0 (.string ⟨#[]⟩) 16 Try.underlying133 hj hy0 hy1 hy2 rfl v3 (k + n2) _ rfl hA3 w1.heap.size _ (n - (k + n')) _ ((ls.map strV).drop (k + n')) rfl HL3.out hT3 HL4.out (by unfold maxLen; omega) (by omega) hB3.size ?_; intro v4 w4 hA4 hB4))
    go_ret2
    refine ⟨_, rfl, ?_, hB0.trans ((below_drewN (Below.refl _ w1) nq).trans (hB3.trans hB4) |>.mono hB0.size)⟩
    rw [HL5.out, HL6.out]
    exact app_mono hA4 hB0.size

theorem swap_yes (A A' A2 : Option Addr) (cap cap' cap2 n n' n2 B k : Nat) (ls ms ns : List (List UInt8)) (w : World) (hn : ls.length = n) (hn' : ms.length = n') (hn2 : ns.length = n2) (hc : n ≤ cap) (hnm : n ≤ 1000) (hnm' : n' ≤ 1000) (hnm2 : n2 ≤ 1000) (hB : B ≤ w.heap.size)
    (hR : RdS w B A ls) (hR' : RdS w B A' ms) (hR2 : RdS w B A2 ns) (hh : has ls k ms = true) :
    Calls Try.prog 116 #[.slice A n cap, .int .i64 k, .slice A' n' cap', .slice A2 n2 cap2] w (SwapEnd w (swp ls k n' ns)) :=
  swap_yesW A A' A2 cap cap' cap2 n n' n2 B k ls ms ns w hn hn' hn2 hc (by omega) hB hR hR' hR2 hh

end Sq
end Go.Proofs.Ytbiiabfhngdeiaa

namespace Go.Proofs.Ytbiiabfhngdeiaa
open Go.RowKit
set_option linter.unusedVariables false
namespace Sq
open Tx

theorem Swap_no (A A' A2 : Option Addr) (cap cap' cap2 n n' n2 B : Nat) (i : Int) (ls ms : List (List UInt8)) (w : World) (hn : ls.length = n) (hn' : ms.length = n') (hc : n ≤ cap) (hnm : n ≤ maxLen) (hnm' : n' ≤ maxLen) (hR : RdS w B A ls) (hR' : RdS w B A' ms) (hh : has ls i ms = false) :
    Calls Try.prog 109 #[.slice A n cap, .int .i64 i, .slice A' n' cap', .slice A2 n2 cap2] w (NoneEnd w) := by
  have H := Lib.hid (swap_no A A' A2 cap cap' cap2 n n' n2 B i ls ms w hn hn' hc hnm hnm' hR hR' hh)
  clear hn hn' hh
  go_enter Try.func109, Try.ntmps109
  go_wp2_with fail
  refine H.out.mono ?_
  rintro e w' ⟨rfl, d, rfl⟩
  go_wp2
  go_ret2
  exact ⟨rfl, _, rfl⟩

theorem Swap_yesW (A A' A2 : Option Addr) (cap cap' cap2 n n' n2 B k : Nat) (ls ms ns : List (List UInt8)) (w : World) (hn : ls.length = n) (hn' : ms.length = n') (hn2 : ns.length = n2) (hc : n ≤ cap) (hnm2 : n + n2 ≤ 8796093022208) (hB : B ≤ w.heap.size)
    (hR : RdS w B A ls) (hR' : RdS w B A' ms) (hR2 : RdS w B A2 ns) (hh : has ls k ms = true) :
    Calls Try.prog 109 #[.slice A n cap, .int .i64 k, .slice A' n' cap', .slice A2 n2 cap2] w (SwapEnd w (swp ls k n' ns)) := by
  have H := Lib.hid (swap_yesW A A' A2 cap cap' cap2 n n' n2 B k ls ms ns w hn hn' hn2 hc hnm2 hB hR hR' hR2 hh)
  clear hn hn' hn2 hh
  go_enter Try.func109, Try.ntmps109
  go_wp2_with fail
  refine H.out.mono ?_
  rintro e w' ⟨v, rfl, hA, hb⟩
  go_wp2
  go_ret2
  exact ⟨v, rfl, hA, hb⟩

theorem Swap_yes (A A' A2 : Option Addr) (cap cap' cap2 n n' n2 B k : Nat) (ls ms ns : List (List UInt8)) (w : World) (hn : ls.length = n) (hn' : ms.length = n') (hn2 : ns.length = n2) (hc : n ≤ cap) (hnm : n ≤ 1000) (hnm' : n' ≤ 1000) (hnm2 : n2 ≤ 1000) (hB : B ≤ w.heap.size)
    (hR : RdS w B A ls) (hR' : RdS w B A' ms) (hR2 : RdS w B A2 ns) (hh : has ls k ms = true) :
    Calls Try.prog 109 #[.slice A n cap, .int .i64 k, .slice A' n' cap', .slice A2 n2 cap2] w (SwapEnd w (swp ls k n' ns)) :=
  Swap_yesW A A' A2 cap cap' cap2 n n' n2 B k ls ms ns w hn hn' hn2 hc (by omega) hB hR hR' hR2 hh

end Sq
end Go.Proofs.Ytbiiabfhngdeiaa

namespace Go.Proofs.Ytbiiabfhngdeiaa
open Go.RowKit
set_option linter.unusedVariables false
namespace Sq
open Tx

theorem at_step {ls ms : List (List UInt8)} {i k n' : Nat} (hn' : ms.length = n') (hb : i + n' ≤ ls.length) (hk : k < n') (h : (ls.drop i).take k = ms.take k) (h1 : i + k < ls.length) (h2 : k < ms.length) :
    (ls[i + k] = ms[k] → (ls.drop i).take (k + 1) = ms.take (k + 1)) ∧ (ls[i + k] ≠ ms[k] → has ls i ms = false) := by
  have hd : k < (ls.drop i).length := by rw [List.length_drop]; omega
  have he : (ls.drop i)[k] = ls[i + k] := by simp
  refine ⟨fun e => take_eq_succ hd h2 h (by rw [he, e]), fun e => ?_⟩
  rw [has_at (by omega)]
  refine decide_eq_false fun hh => e ?_
  rw [← he]
  have := congrArg (fun l => l[k]?) hh
  simp only [List.getElem?_take, h2, if_true] at this
  rw [List.getElem?_eq_getElem hd, List.getElem?_eq_getElem h2] at this
  exact Option.some.inj this

end Sq
end Go.Proofs.Ytbiiabfhngdeiaa
