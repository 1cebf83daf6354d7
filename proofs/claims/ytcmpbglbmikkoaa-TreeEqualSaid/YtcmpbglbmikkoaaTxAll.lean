/-
  What All of layer 1 returns for every list of lines (walk).
-/
import Derived.Test.YtcmpbglbmikkoaaTxLeaf
namespace Go.Proofs.Ytcmpbglbmikkoaa
open Go.RowKit
namespace Tx

theorem allMay_false {ls : List (List UInt8)} {x : List UInt8} (hm : x ∈ ls) (h : may x = false) : allMay ls = false := by
  simp [allMay, not_all_of hm h]
theorem allMay_true {ls : List (List UInt8)} (hl : ls.length ≤ 200) (h : ∀ x ∈ ls, may x = true) : allMay ls = true := by
  simp [allMay, all_of h, hl]
set_option maxHeartbeats 400000 in
theorem All (A : Option Addr) (cap n B : Nat) (ls : List (List UInt8)) (w : World) (hn : ls.length = n) (hR : RdS w B A ls) :
    Calls Try.prog 39 #[.slice A n cap] w fun e w' => e = .returned (.bool (allMay ls)) ∧ w = w' := by
  have HN := Lib.hid hn; clear hn
  by_cases h1 : 200 < n
  · have HF : Hid (allMay ls = false) := Lib.hid (by unfold allMay; rw [HN.out]; simp; omega)
    go_enter Try.func39, Try.ntmps39
    go_wp2
    go_ret
    exact ⟨ret_bool HF.out.symm, rfl⟩
  · go_enter Try.func39, Try.ntmps39
    go_wp2
    go_loop [10] (fun i => ∃ k : Nat, k ≤ n ∧ i = .int .i64 k ∧ ∀ x ∈ ls.take k, may x = true) (fun i => n - (intOf i).toNat)
    case atStart => exact ⟨0, Nat.zero_le _, rfl, by simp⟩
    case round =>
      obtain ⟨k, hk, rfl, hall⟩ := hrel
      have HA := Lib.hid hall; clear hall
      by_cases hlt : k < n
      · have hkl : k < ls.length := by rw [HN.out]; exact hlt
        obtain ⟨a, rfl, hcell⟩ := hR.at' hkl
        cases hb : may ls[k] with
        | true =>
          go_wp2_with fail
          refine (MayV ls[k] _).mono ?_
          rintro e w' ⟨rfl, rfl⟩
          go_wp2
          go_round
          case rel => exact ⟨k + 1, by omega, by go_num, by rw [take_snoc' hkl]; intro c hc; rcases List.mem_append.1 hc with h | h; exact HA.out c h; simp at h; rw [h]; exact hb⟩
          case measure => simp [intOf]; omega
        | false =>
          have HF := Lib.hid (allMay_false (List.getElem_mem hkl) hb)
          go_wp2_with fail
          refine (MayV ls[k] _).mono ?_
          rintro e w' ⟨rfl, rfl⟩
          go_wp2
          go_ret
          exact ⟨ret_bool HF.out.symm, rfl⟩
      · have HF : Hid (allMay ls = true) := Lib.hid (allMay_true (by rw [HN.out]; omega) (by have := HA.out; rw [List.take_of_length_le (by rw [HN.out]; omega)] at this; exact this))
        go_wp2
        go_ret
        exact ⟨ret_bool HF.out.symm, rfl⟩

end Tx
end Go.Proofs.Ytcmpbglbmikkoaa
