/-
  What the document's own May, All, Name and Join return (walks): the same plain functions as the program's.
-/
import Derived.Test.YtcmpbglbmikkoaaTxAll
namespace Go.Proofs.Ytcmpbglbmikkoaa
open Go.RowKit
set_option linter.unusedVariables false
namespace Tx

theorem may_false10 {s : ByteArray} {k : Nat} (h : k < s.size) (e : s[k] = 10) : may s.data.toList = false := by
  have hm := mem_data s k h
  rw [e] at hm
  have : s.data.toList.contains 10 = true := by simpa using hm
  unfold may; rw [this]; simp
theorem may_ends {s : ByteArray} (h : ∀ c ∈ s.data.toList, c ≠ 10) : may s.data.toList = decide (s.size ≤ 80) := by
  have hl : s.data.toList.length = s.size := by simp only [ByteArray.size, Array.length_toList]
  have : s.data.toList.contains 10 = false := by
    cases hb : s.data.toList.contains 10 with
    | false => rfl
    | true => exact absurd rfl (h 10 (by simpa using hb))
  unfold may; rw [this, hl]; simp

set_option maxHeartbeats 400000 in
theorem RefMay (s : ByteArray) (w : World) (hs : s.size ≤ maxLen) :
    Calls Try.prog 42 #[.string s] w fun e w' => e = .returned (.bool (may s.data.toList)) ∧ w = w' := by
  have hl : s.data.toList.length = s.size := by simp only [ByteArray.size, Array.length_toList]
  have H := Lib.hid hl; clear hl
  unfold maxLen at hs
  go_enter Try.func42, Try.ntmps42
  go_wp2
  go_loop [3] (fun i => ∃ k : Nat, k ≤ s.size ∧ i = .int .i64 k ∧ ∀ c ∈ s.data.toList.take k, c ≠ 10) (fun i => s.size - (intOf i).toNat)
  case atStart => exact ⟨0, Nat.zero_le _, rfl, by simp⟩
  case round =>
    obtain ⟨k, hk, rfl, hall⟩ := hrel
    have HA := Lib.hid hall; clear hall
    by_cases hlt : k < s.size
    · have HT := Lib.hid (take_data s k hlt)
      by_cases hb : s[k] = 10
      · have HF := Lib.hid (may_false10 hlt hb)
        have hbn : ((s[k].toNat : Int) == 10) = true := by rw [hb]; decide
        clear hb
        go_wp2
        go_ret
        exact ⟨ret_bool HF.out.symm, rfl⟩
      · have hbn : ((s[k].toNat : Int) == 10) = false := by
          rw [beq_eq_false_iff_ne]; intro e; apply hb; apply UInt8.toNat_inj.1; simp; omega
        have HB := Lib.hid hb; clear hb
        go_wp2
        go_round
        case rel => exact ⟨k + 1, by omega, by go_num, by rw [HT.out]; intro c hc; rcases List.mem_append.1 hc with h | h; exact HA.out c h; simp at h; rw [h]; exact HB.out⟩
        case measure => simp [intOf]; omega
    · have HF := Lib.hid (may_ends (by have := HA.out; rw [List.take_of_length_le (by rw [H.out]; omega)] at this; exact this))
      go_wp2
      go_ret
      exact ⟨ret_bool (by rw [HF.out]; exact decide_eq_decide.2 (by omega)), rfl⟩

theorem RefMayV (x : List UInt8) (w : World) (hx : x.length ≤ maxLen) :
    Calls Try.prog 42 #[strV x] w fun e w' => e = .returned (.bool (may x)) ∧ w = w' := by
  unfold strV
  have := RefMay ⟨x.toArray⟩ w (by rw [size_strV]; exact hx)
  simpa using this

set_option maxHeartbeats 400000 in
theorem RefAll (A : Option Addr) (cap n B : Nat) (ls : List (List UInt8)) (w : World) (hn : ls.length = n) (hnm : n ≤ maxLen) (hR : RdS w B A ls) (hlen : ∀ x ∈ ls, x.length ≤ maxLen) :
    Calls Try.prog 26 #[.slice A n cap] w fun e w' => e = .returned (.bool (allMay ls)) ∧ w = w' := by
  unfold maxLen at hnm
  have HN := Lib.hid hn; clear hn
  have HL := Lib.hid hlen; clear hlen
  go_enter Try.func26, Try.ntmps26
  go_wp2
  go_loop [3] (fun i => ∃ k : Nat, k ≤ n ∧ i = .int .i64 k ∧ ∀ x ∈ ls.take k, may x = true) (fun i => n - (intOf i).toNat)
  case atStart => exact ⟨0, Nat.zero_le _, rfl, by simp⟩
  case round =>
    obtain ⟨k, hk, rfl, hall⟩ := hrel
    have HA := Lib.hid hall; clear hall
    by_cases hlt : k < n
    · have hkl : k < ls.length := by rw [HN.out]; exact hlt
      obtain ⟨a, rfl, hcell⟩ := hR.at' hkl
      have HX := Lib.hid (HL.out _ (List.getElem_mem hkl))
      cases hb : may ls[k] with
      | true =>
        go_wp2_with fail
        refine (RefMayV ls[k] _ HX.out).mono ?_
        rintro e w' ⟨rfl, rfl⟩
        go_wp2
        go_round
        case rel => exact ⟨k + 1, by omega, by go_num, by rw [take_snoc' hkl]; intro c hc; rcases List.mem_append.1 hc with h | h; exact HA.out c h; simp at h; rw [h]; exact hb⟩
        case measure => simp [intOf]; omega
      | false =>
        have HF := Lib.hid (allMay_false (List.getElem_mem hkl) hb)
        go_wp2_with fail
        refine (RefMayV ls[k] _ HX.out).mono ?_
        rintro e w' ⟨rfl, rfl⟩
        go_wp2
        go_ret
        exact ⟨ret_bool HF.out.symm, rfl⟩
    · have HF : Hid (allMay ls = decide (n ≤ 200)) := Lib.hid (by
        have := HA.out
        rw [List.take_of_length_le (by rw [HN.out]; omega)] at this
        unfold allMay; rw [HN.out, all_of this]; simp)
      go_wp2
      go_ret
      exact ⟨ret_bool (by rw [HF.out]; exact decide_eq_decide.2 (by omega)), rfl⟩

theorem inName_cases (c : UInt8) : (inName c = true ∧ ((97 ≤ c.toNat ∧ c.toNat ≤ 122) ∨ (48 ≤ c.toNat ∧ c.toNat ≤ 57) ∨ (46 ≤ c.toNat ∧ c.toNat ≤ 46))) ∨
    (inName c = false ∧ (122 < c.toNat ∨ (57 < c.toNat ∧ c.toNat < 97) ∨ (46 < c.toNat ∧ c.toNat < 48) ∨ c.toNat < 46)) := by
  cases h : inName c with
  | true =>
    left
    refine ⟨rfl, ?_⟩
    unfold inName at h
    simp only [Bool.or_eq_true, Bool.and_eq_true, decide_eq_true_eq] at h
    omega
  | false =>
    right
    refine ⟨rfl, ?_⟩
    unfold inName at h
    simp only [Bool.or_eq_false_iff, Bool.and_eq_false_iff, decide_eq_false_iff_not] at h
    omega

set_option maxHeartbeats 1000000 in
theorem RefName (s : ByteArray) (w : World) (hs : s.size ≤ maxLen) :
    Calls Try.prog 25 #[.string s] w fun e w' => e = .returned (.bool (name s.data.toList)) ∧ w = w' := by
  have hl : s.data.toList.length = s.size := by simp only [ByteArray.size, Array.length_toList]
  have H := Lib.hid hl; clear hl
  unfold maxLen at hs
  go_enter Try.func25, Try.ntmps25
  go_wp2
  go_loop [3] (fun i => ∃ k : Nat, k ≤ s.size ∧ i = .int .i64 k ∧ ∀ c ∈ s.data.toList.take k, inName c = true) (fun i => s.size - (intOf i).toNat)
  case atStart => exact ⟨0, Nat.zero_le _, rfl, by simp⟩
  case round =>
    obtain ⟨k, hk, rfl, hall⟩ := hrel
    have HA := Lib.hid hall; clear hall
    by_cases hlt : k < s.size
    · have hm := mem_data s k hlt
      have HT := Lib.hid (take_data s k hlt)
      rcases inName_cases s[k] with ⟨hb, hn⟩ | ⟨hb, hn⟩
      · have HB := Lib.hid hb; clear hb
        rcases hn with ⟨h1, h2⟩ | ⟨h1, h2⟩ | ⟨h1, h2⟩
        all_goals
          go_wp2
          first | done | (refine ⟨⟨k + 1, by omega, by go_num, by rw [HT.out]; intro c hc; rcases List.mem_append.1 hc with h | h; exact HA.out c h; simp at h; rw [h]; exact HB.out⟩, by simp [intOf]; omega⟩) | go_goals
      · have HF := Lib.hid (name_false hm hb)
        clear hb
        have d3 : ((s[k].toNat : Int) != 46) = true := by rw [bne_iff_ne]; omega
        rcases hn with h1 | ⟨h1, h2⟩ | ⟨h1, h2⟩ | h1
        · have d1 : decide ((s[k].toNat : Int) ≤ 122) = false := decide_eq_false (by omega)
          have d2 : decide ((s[k].toNat : Int) ≤ 57) = false := decide_eq_false (by omega)
          go_wp2
          go_ret
          exact ⟨ret_bool HF.out.symm, rfl⟩
        · have d2 : decide ((s[k].toNat : Int) ≤ 57) = false := decide_eq_false (by omega)
          go_wp2
          go_ret
          exact ⟨ret_bool HF.out.symm, rfl⟩
        all_goals
          go_wp2
          go_ret
          exact ⟨ret_bool HF.out.symm, rfl⟩
    · have HF : Hid (name s.data.toList = (decide (1 ≤ s.size) && decide (s.size ≤ 16))) := Lib.hid (by
        have := HA.out
        rw [List.take_of_length_le (by rw [H.out]; omega)] at this
        have h2 : s.data.toList.all inName = true := by rw [List.all_eq_true]; exact this
        unfold name; rw [H.out, h2]; simp)
      by_cases h1 : 1 ≤ s.size
      · go_wp2
        go_ret
        exact ⟨ret_bool (by rw [HF.out, decide_eq_true h1, Bool.true_and]; exact decide_eq_decide.2 (by omega)), rfl⟩
      · go_wp2
        go_ret
        exact ⟨ret_bool (by rw [HF.out, decide_eq_false h1]; rfl), rfl⟩

end Tx
end Go.Proofs.Ytcmpbglbmikkoaa
