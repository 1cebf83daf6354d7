/-
  What the document's own At, Swap, Front and Back return (walks): the same plain functions as the program's.
-/
import Derived.Test.YtkpgkbllcdpobaaSqBack
namespace Go.Proofs.Ytkpgkbllcdpobaa
open Go.RowKit
set_option linter.unusedVariables false
namespace Sq
open Tx

theorem at_step {ls ms : List (List UInt8)} {i k n' : Nat} (hn' : ms.length = n') (hb : i + n' ≤ ls.length) (hk : k < n') (h : (ls.drop i).take k = ms.take k) (h1 : i + k < ls.length) (h2 : k < ms.length) :
    (ls[i + k] = ms[k] → (ls.drop i).take (k + 1) = ms.take (k + 1)) ∧ (ls[i + k] ≠ ms[k] → has ls i ms = false) := by
  have hd : k < (ls.drop i).length := by rw [List.length_drop]; omega
  have he : (ls.drop i)[k] = ls[i + k] := by simp
  refine ⟨fun e => take_eq_succ hd h2 h (by rw [he, e]), fun e => ?_⟩
  rw [has_at (by omega)]
  refine decide_eq_false fun hh => e ?_
  rw [← he]
  have := congrArg (fun l => l[k]?) hh
  simp only [List.getElem?_take, h2, if_true] at this
  rw [List.getElem?_eq_getElem hd, List.getElem?_eq_getElem h2] at this
  exact Option.some.inj this

set_option maxHeartbeats 1000000 in
theorem RefAt (A A' : Option Addr) (cap cap' n n' B : Nat) (i : Int) (ls ms : List (List UInt8)) (w : World) (hn : ls.length = n) (hn' : ms.length = n') (hnm : n ≤ maxLen) (hnm' : n' ≤ maxLen) (hR : RdS w B A ls) (hR' : RdS w B A' ms) :
    Calls Try.prog 36 #[.slice A n cap, .int .i64 i, .slice A' n' cap'] w (SameEnd w (has ls i ms)) := by
  unfold maxLen at hnm hnm'
  have HN := Lib.hid hn; clear hn
  have HN' := Lib.hid hn'; clear hn'
  by_cases h1 : i < 0
  · have HF : Hid (has ls i ms = false) := Lib.hid (has_false (.inl h1))
    go_enter Try.func36, Try.ntmps36
    go_wp2
    go_ret
    exact ⟨ret_bool HF.out.symm, 0, rfl⟩
  by_cases h2 : (n : Int) < i
  · have HF : Hid (has ls i ms = false) := Lib.hid (has_false (.inr (.inl (by rw [HN.out]; exact h2))))
    go_enter Try.func36, Try.ntmps36
    go_wp2
    go_ret
    exact ⟨ret_bool HF.out.symm, 0, rfl⟩
  obtain ⟨i, rfl⟩ : ∃ k : Nat, i = k := ⟨i.toNat, by omega⟩
  by_cases h3 : (n : Int) - i < n'
  · have HF : Hid (has ls i ms = false) := Lib.hid (has_false (.inr (.inr (by rw [HN.out, HN'.out]; omega))))
    go_enter Try.func36, Try.ntmps36
    go_wp2
    go_ret
    exact ⟨ret_bool HF.out.symm, 0, rfl⟩
  go_enter Try.func36, Try.ntmps36
  go_wp2
  go_loopw [7] (fun t wr => ∃ k : Nat, k ≤ n' ∧ t = .int .i64 k ∧ (ls.drop i).take k = ms.take k ∧ ∃ d, wr = w.drewN d) (fun t _ => n' - (intOf t).toNat)
  case atStart => exact ⟨0, Nat.zero_le _, rfl, by simp, 0, rfl⟩
  case round =>
    obtain ⟨k, hk, rfl, hall, d, rfl⟩ := hrel
    have HA := Lib.hid hall; clear hall
    by_cases hlt : k < n'
    · have hkl : i + k < ls.length := by rw [HN.out]; omega
      have hkm : k < ms.length := by rw [HN'.out]; exact hlt
      obtain ⟨a, rfl, hcell⟩ := hR.at' hkl
      obtain ⟨a', rfl, hcell'⟩ := hR'.at' hkm
      have HD := Lib.hid (at_step HN'.out (by rw [HN.out]; omega) hlt HA.out hkl hkm)
      have hki : (k : Int) < (n' : Int) := by omega
      have hkj : i + k < n := by omega
      go_wp2
      go_quiet (fail)
      go_wp2
      · have hb : (!ls[i + k] == ms[k]) = true := by assumption
        go_ret
        exact ⟨ret_bool (HD.out.2 (by simpa using hb)).symm, d + nq, by simp⟩
      · have hb : (!ls[i + k] == ms[k]) = false := by assumption
        exact ⟨⟨k + 1, by omega, by go_num, HD.out.1 (by simpa using hb), _, rfl⟩, by simp [intOf]; omega⟩
    · have HF : Hid (has ls i ms = true) := Lib.hid (by
        rw [has_at (by rw [HN.out, HN'.out]; omega), HN'.out]
        have := HA.out
        rw [show k = n' by omega, List.take_of_length_le (l := ms) (by rw [HN'.out]; omega)] at this
        exact decide_eq_true this)
      go_wp2
      go_ret
      exact ⟨ret_bool HF.out.symm, _, rfl⟩

set_option maxHeartbeats 400000 in
theorem RefSwap_no (A A' A2 : Option Addr) (cap cap' cap2 n n' n2 B : Nat) (i : Int) (ls ms : List (List UInt8)) (w : World) (hn : ls.length = n) (hn' : ms.length = n') (hnm : n ≤ maxLen) (hnm' : n' ≤ maxLen) (hR : RdS w B A ls) (hR' : RdS w B A' ms) (hh : has ls i ms = false) :
    Calls Try.prog 26 #[.slice A n cap, .int .i64 i, .slice A' n' cap', .slice A2 n2 cap2] w (NoneEnd w) := by
  have H := Lib.hid (RefAt A A' cap cap' n n' B i ls ms w hn hn' hnm hnm' hR hR')
  rw [hh] at H
  clear hn hn' hh
  go_enter Try.func26, Try.ntmps26
  go_wp2_with fail
  refine H.out.mono ?_
  rintro e w' ⟨rfl, d, rfl⟩
  go_wp2
  go_ret2
  exact ⟨rfl, _, rfl⟩

set_option maxHeartbeats 1000000 in
theorem RefSwap_yes (A A' A2 : Option Addr) (cap cap' cap2 n n' n2 B k : Nat) (ls ms ns : List (List UInt8)) (w : World) (hn : ls.length = n) (hn' : ms.length = n') (hn2 : ns.length = n2) (hc : n ≤ cap) (hnm : n ≤ 1000) (hnm' : n' ≤ 1000) (hnm2 : n2 ≤ 1000) (hB : B ≤ w.heap.size)
    (hR : RdS w B A ls) (hR' : RdS w B A' ms) (hR2 : RdS w B A2 ns) (hh : has ls k ms = true) :
    Calls Try.prog 26 #[.slice A n cap, .int .i64 k, .slice A' n' cap', .slice A2 n2 cap2] w (SwapEnd w (swp ls k n' ns)) := by
  obtain ⟨j0, hj, hy0, hy1, hy2⟩ := info_parts info_str
  have hkn := (has_len hh).2
  rw [Int.toNat_natCast, hn, hn'] at hkn
  have HL1 : Hid (((ls.map strV).take k).length = k) := Lib.hid (by rw [List.length_take, List.length_map, hn]; omega)
  have HL2 : Hid ((ns.map strV).length = n2) := Lib.hid (by rw [List.length_map]; exact hn2)
  have HL3 : Hid (((ls.map strV).drop (k + n')).length = n - (k + n')) := Lib.hid (by rw [List.length_drop, List.length_map, hn])
  have HL4 : Hid (∀ u ∈ (ls.map strV).drop (k + n'), u.oneCell' = true) := Lib.hid (fun u hu => strs_one ls u (List.mem_of_mem_drop hu))
  have HL7 : Hid (∀ u ∈ (ls.map strV).take k, u.oneCell' = true) := Lib.hid (fun u hu => strs_one ls u (List.mem_of_mem_take hu))
  have HL5 : Hid ((swp ls k n' ns).length = k + n2 + (n - (k + n'))) := Lib.hid (by simp only [swp, List.length_append, List.length_take, List.length_drop, hn, hn2]; omega)
  have HL6 : Hid ((swp ls k n' ns).map strV = (ls.map strV).take k ++ ns.map strV ++ (ls.map strV).drop (k + n')) := Lib.hid (by simp [swp])
  have hT := Rd.drop hR (k := k + n') (cap := cap) (by rw [List.length_map, hn]; exact hc)
  have H := Lib.hid (RefAt A A' cap cap' n n' B k ls ms w hn hn' (by unfold maxLen; omega) (by unfold maxLen; omega) hR hR')
  rw [hh] at H
  clear hn hn' hn2 hh
  go_enter Try.func26, Try.ntmps26
  go_wp2_with fail
  refine H.out.mono ?_
  rintro e w' ⟨rfl, d, rfl⟩
  obtain hck | hck := Classical.em (cap = k + n')
  all_goals first | rw [if_pos hck] at hT | rw [if_neg hck] at hT
  all_goals
    go_wp2_with (first
      | (at_builtin; refine wpList_app rfl (.const (.slice none 0 0)) (.tmp 20) 22 rfl w.heap.size 9 j0 (.string ⟨#[]⟩) 16 Try.underlying22 hj hy0 hy1 hy2 rfl (.slice none 0 0) 0 [] rfl (app_nil _ _ _) B A k _ ((ls.map strV).take k) rfl HL1.out ((hR.take k).drewN _) HL7.out (by unfold maxLen; omega) (by omega) (Nat.le_refl _) ?_; intro v2 w2 hA2 hB2; simp only [Nat.zero_add, List.nil_append] at hA2; have hB02 := (below_drewN (Below.refl w.heap.size w) d).trans hB2)
      | (at_builtin; refine wpList_app rfl (.tmp 22) (.tmp 23) 22 rfl w.heap.size 9 j0 (.string ⟨#[]⟩) 16 Try.underlying22 hj hy0 hy1 hy2 rfl v2 k _ rfl hA2 B A2 n2 cap2 (ns.map strV) rfl HL2.out (hR2.below (hB02.mono hB)) (strs_one _) (by unfold maxLen; omega) (by omega) hB02.size ?_; intro v3 w3 hA3 hB3; have hB03 := hB02.trans hB3)
      | (at_builtin; refine wpList_app rfl (.tmp 25) (.tmp 31) 22 rfl w.heap.size 9 j0 (.string ⟨#[]⟩) 16 Try.underlying22 hj hy0 hy1 hy2 rfl v3 (k + n2) _ rfl hA3 B _ (n - (k + n')) _ ((ls.map strV).drop (k + n')) rfl HL3.out (hT.below (hB03.mono hB)) HL4.out (by unfold maxLen; omega) (by omega) hB03.size ?_; intro v4 w4 hA4 hB4; have hB04 := hB03.trans hB4))
    go_ret2
    refine ⟨_, rfl, ?_, hB04⟩
    rw [HL5.out, HL6.out]
    exact hA4

end Sq
end Go.Proofs.Ytkpgkbllcdpobaa
