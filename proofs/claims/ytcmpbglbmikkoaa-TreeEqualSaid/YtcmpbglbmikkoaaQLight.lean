/-
  What the law's Light returns for every list of lines (walk).
-/
import Derived.Test.YtcmpbglbmikkoaaQMem
import Derived.Deep.QuietTactic
import Derived.BigQuiet
namespace Go.Proofs.Ytcmpbglbmikkoaa
open Go.RowKit
set_option linter.unusedVariables false
namespace Tx

def light (ls : List (List UInt8)) (most : Nat) : Bool := decide (ls.length ≤ most) && ls.all fun l => decide (l.length ≤ 200)

theorem light_false {ls : List (List UInt8)} {most : Nat} {x : List UInt8} (hm : x ∈ ls) (h : 200 < x.length) : light ls most = false := by
  have : (ls.all fun l => decide (l.length ≤ 200)) = false := by rw [List.all_eq_false]; exact ⟨x, hm, by simp; omega⟩
  simp [light, this]
theorem light_true {ls : List (List UInt8)} {most : Nat} (hl : ls.length ≤ most) (h : ∀ x ∈ ls, x.length ≤ 200) : light ls most = true := by
  have : (ls.all fun l => decide (l.length ≤ 200)) = true := by rw [List.all_eq_true]; intro x hx; simpa using h x hx
  simp [light, this, hl]

set_option maxHeartbeats 400000 in
theorem Light (A : Option Addr) (cap n B most : Nat) (ls : List (List UInt8)) (w : World) (hn : ls.length = n) (hnm : n ≤ maxLen) (hR : RdS w B A ls) (hm : most ≤ 1000) :
    Calls Try.prog 11 #[.slice A n cap, .int .i64 most] w fun e w' => e = .returned (.bool (light ls most)) ∧ w = w' := by
  unfold maxLen at hnm
  have HN := Lib.hid hn; clear hn
  by_cases h1 : most < n
  · have HF : Hid (light ls most = false) := Lib.hid (by unfold light; rw [HN.out]; simp; omega)
    go_enter Try.func11, Try.ntmps11
    go_wp2
    go_ret
    exact ⟨ret_bool HF.out.symm, rfl⟩
  · go_enter Try.func11, Try.ntmps11
    go_wp2
    go_loop [5] (fun i => ∃ k : Nat, k ≤ n ∧ i = .int .i64 k ∧ ∀ x ∈ ls.take k, x.length ≤ 200) (fun i => n - (intOf i).toNat)
    case atStart => exact ⟨0, Nat.zero_le _, rfl, by simp⟩
    case round =>
      obtain ⟨k, hk, rfl, hall⟩ := hrel
      have HA := Lib.hid hall; clear hall
      by_cases hlt : k < n
      · have hkl : k < ls.length := by rw [HN.out]; exact hlt
        obtain ⟨a, rfl, hcell⟩ := hR.at' hkl
        have hmem := List.getElem_mem hkl
        have HT := Lib.hid (take_snoc' hkl)
        generalize hx : ls[k] = x at *
        have HX := Lib.hid hx; clear hx
        obtain ⟨s, hs, hsl⟩ : ∃ s : ByteArray, strV x = .string s ∧ s.size = x.length := ⟨_, rfl, size_strV x⟩
        rw [hs] at hcell
        have HS := Lib.hid hsl; clear hsl hs
        by_cases hb : 200 < s.size
        · have HF := Lib.hid (light_false (most := most) hmem (by rw [← HS.out]; exact hb))
          go_wp2
          go_ret
          exact ⟨ret_bool HF.out.symm, rfl⟩
        · go_wp2
          go_round
          case rel => exact ⟨k + 1, by omega, by go_num, by rw [HT.out]; intro c hc; rcases List.mem_append.1 hc with h | h; exact HA.out c h; simp at h; rw [h]; have := HS.out; omega⟩
          case measure => simp [intOf]; omega
      · have HF : Hid (light ls most = true) := Lib.hid (light_true (by rw [HN.out]; omega) (by have := HA.out; rw [List.take_of_length_le (by rw [HN.out]; omega)] at this; exact this))
        go_wp2
        go_ret
        exact ⟨ret_bool HF.out.symm, rfl⟩

theorem take_eq_succ {α : Type} {xs ys : List α} {k : Nat} (hx : k < xs.length) (hy : k < ys.length) (h : xs.take k = ys.take k) (e : xs[k] = ys[k]) : xs.take (k + 1) = ys.take (k + 1) := by
  rw [take_snoc' hx, take_snoc' hy, h, e]

end Tx
end Go.Proofs.Ytcmpbglbmikkoaa
