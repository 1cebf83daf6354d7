/-
  What Back of layer 2 returns for every two lists of lines (walks); it draws, and changes nothing.
-/
import Derived.Test.YtpogppkiccnoaaaSqFront
namespace Go.Proofs.Ytpogppkiccnoaaa
open Go.RowKit
set_option linter.unusedVariables false
namespace Sq
open Tx

theorem tail_step {a b : List (List UInt8)} {k N N' j j' : Nat} (hN : a.length = N) (hN' : b.length = N') (hj : (N : Int) - 1 - k = j) (hj' : (N' : Int) - 1 - k = j') (h : a.drop (N - k) = b.drop (N' - k)) (h1 : j < a.length) (h2 : j' < b.length) :
    (a[j] = b[j'] → a.drop (N - (k + 1)) = b.drop (N' - (k + 1))) ∧ (a[j] ≠ b[j'] → front a.reverse b.reverse = k) := by
  subst hN
  subst hN'
  obtain rfl : a.length - 1 - k = j := by omega
  obtain rfl : b.length - 1 - k = j' := by omega
  exact ⟨fun e => drop_step (by omega) (by omega) h e, fun e => tail_is (by omega) (by omega) h (.inr (.inr ⟨h1, h2, e⟩))⟩

set_option maxRecDepth 100000 in
set_option maxHeartbeats 2000000 in
theorem Back_ (A A' : Option Addr) (cap cap' n n' B : Nat) (ls ms : List (List UInt8)) (w : World) (hn : ls.length = n) (hn' : ms.length = n') (hc : n ≤ cap) (hc' : n' ≤ cap') (hnm : n ≤ maxLen) (hnm' : n' ≤ maxLen) (hR : RdS w B A ls) (hR' : RdS w B A' ms) :
    Calls Try.prog 23 #[.slice A n cap, .slice A' n' cap'] w (NumEnd w (back ls ms)) := by
  have H := Lib.hid (Front_ A A' cap cap' n n' B ls ms w hn hn' hnm hnm' hR hR')
  have hf := front_le ls ms
  rw [hn, hn'] at hf
  have hD := Rd.drop hR (k := front ls ms) (cap := cap) (by rw [List.length_map, hn]; exact hc)
  have hD' := Rd.drop hR' (k := front ls ms) (cap := cap') (by rw [List.length_map, hn']; exact hc')
  rw [← List.map_drop] at hD hD'
  have HBK : Hid (back ls ms = front (ls.drop (front ls ms)).reverse (ms.drop (front ls ms)).reverse) := Lib.hid rfl
  have HN : Hid ((ls.drop (front ls ms)).length = n - front ls ms) := Lib.hid (by rw [List.length_drop, hn])
  have HN' : Hid ((ms.drop (front ls ms)).length = n' - front ls ms) := Lib.hid (by rw [List.length_drop, hn'])
  clear hn hn'
  generalize front ls ms = f at *
  generalize back ls ms = bk at *
  generalize ls.drop f = xs at *
  generalize ms.drop f = ys at *
  unfold maxLen at hnm hnm'
  obtain ⟨hf1, hf2⟩ := hf
  go_enter Try.func23, Try.ntmps23
  go_wp2_with fail
  refine H.out.mono ?_
  rintro e w' ⟨rfl, d0, rfl⟩
  go_wp2_with fail
  obtain hck | hck := Classical.em (cap = f)
  all_goals obtain hck' | hck' := Classical.em (cap' = f)
  all_goals first | rw [if_pos hck] at hD | rw [if_neg hck] at hD
  all_goals first | rw [if_pos hck'] at hD' | rw [if_neg hck'] at hD'
  all_goals
    go_quiet (fail)
    go_wp2
    clear hck hck' hc hc'
    try generalize Option.map (fun x => x.add f) A = A1 at hD ⊢
    try generalize Option.map (fun x => x.add f) A' = A1' at hD' ⊢
    have hb1 : n - f ≤ 2 ^ 63 - 1 := by omega
    have hb2 : n' - f ≤ 2 ^ 63 - 1 := by omega
    generalize n - f = N at *
    generalize n' - f = N' at *
    clear hnm hnm' hf1 hf2
    go_loopw [6] (fun i wr => ∃ k : Nat, k ≤ N ∧ k ≤ N' ∧ i = .int .i64 k ∧ xs.drop (N - k) = ys.drop (N' - k) ∧ ∃ d, wr = w.drewN d) (fun i _ => N - (intOf i).toNat)
    case atStart => exact ⟨0, Nat.zero_le _, Nat.zero_le _, rfl, by rw [List.drop_of_length_le (by rw [HN.out]; omega), List.drop_of_length_le (by rw [HN'.out]; omega)], d0 + nq, by simp⟩
    case round =>
      obtain ⟨k, hk, hk', rfl, hall, d, rfl⟩ := hrel
      have HA := Lib.hid hall; clear hall
      by_cases hlt : k < N ∧ k < N'
      · obtain ⟨hlt, hlt'⟩ := hlt
        obtain ⟨j, hj⟩ : ∃ j : Nat, (N : Int) - 1 - k = j := ⟨N - 1 - k, by omega⟩
        obtain ⟨j', hj'⟩ : ∃ j' : Nat, (N' : Int) - 1 - k = j' := ⟨N' - 1 - k, by omega⟩
        have hjl : j < xs.length := by rw [HN.out]; omega
        have hjm : j' < ys.length := by rw [HN'.out]; omega
        obtain ⟨a, rfl, hcell⟩ := RdS.at' hD hjl
        obtain ⟨a', rfl, hcell'⟩ := RdS.at' hD' hjm
        have HS := Lib.hid (tail_step HN.out HN'.out hj hj' HA.out hjl hjm)
        have hki : (k : Int) < (N : Int) := by omega
        have hki' : (k : Int) < (N' : Int) := by omega
        have hjn : j < N := by omega
        have hjn' : j' < N' := by omega
        by_cases hmn : (N' : Int) < (N : Int)
        all_goals
          go_wp2
          go_quiet (fail)
          go_wp2
          · have hb : (xs[j] == ys[j']) = true := by assumption
            exact ⟨⟨k + 1, by omega, by omega, by go_num, HS.out.1 (by simpa using hb), _, rfl⟩, by simp [intOf]; omega⟩
          · have hb : (xs[j] == ys[j']) = false := by assumption
            go_ret
            exact ⟨ret_int (by rw [HBK.out, HS.out.2 (by simpa using hb)]), d + nq, by simp⟩
      · have HE := Lib.hid (tail_is (a := xs) (b := ys) (k := k) (by rw [HN.out]; exact hk) (by rw [HN'.out]; exact hk') (by rw [HN.out, HN'.out]; exact HA.out) (by have h1 := HN.out; have h2 := HN'.out; by_cases e : k = N; exact .inl (by omega); exact .inr (.inl (by omega))))
        by_cases hmn : (N' : Int) < (N : Int)
        · have hd : decide ((k : Int) < (N' : Int)) = false := decide_eq_false (by omega)
          have hd' : decide (k < N') = false := decide_eq_false (by omega)
          clear hlt
          go_wp2
          go_quiet (fail)
          go_wp2
          go_ret
          exact ⟨ret_int (by rw [HBK.out, HE.out]), d + nq, by simp⟩
        · have hd : decide ((k : Int) < (N : Int)) = false := decide_eq_false (by omega)
          have hd' : decide (k < N) = false := decide_eq_false (by omega)
          clear hlt
          go_wp2
          go_quiet (fail)
          go_wp2
          go_ret
          exact ⟨ret_int (by rw [HBK.out, HE.out]), d + nq, by simp⟩

theorem Back (A A' : Option Addr) (cap cap' n n' B : Nat) (ls ms : List (List UInt8)) (w : World) (hn : ls.length = n) (hn' : ms.length = n') (hc : n ≤ cap) (hc' : n' ≤ cap') (hnm : n ≤ maxLen) (hnm' : n' ≤ maxLen) (hR : RdS w B A ls) (hR' : RdS w B A' ms) :
    Calls Try.prog 17 #[.slice A n cap, .slice A' n' cap'] w (NumEnd w (back ls ms)) := by
  have H := Lib.hid (Back_ A A' cap cap' n n' B ls ms w hn hn' hc hc' hnm hnm' hR hR')
  clear hn hn'
  go_enter Try.func17, Try.ntmps17
  go_wp2_with fail
  refine H.out.mono ?_
  rintro e w' ⟨rfl, d, rfl⟩
  go_wp2
  go_ret
  exact ⟨rfl, _, rfl⟩

end Sq
end Go.Proofs.Ytpogppkiccnoaaa
