/-
  What the leaf functions of layer 1 return (walks): May, inName, Name. No conditions but the length of a string.
-/
import Derived.Test.YtcmpbglbmikkoaaRows
import Derived.Test.YtcmpbglbmikkoaaTxPlain
import Derived.WalkKit
import Derived.WalkSpells
import Derived.WalkLawsBesides
import Derived.Lib.Hide
namespace Go.Proofs.Ytcmpbglbmikkoaa
open Go.RowKit
namespace Tx

set_option maxHeartbeats 400000 in
theorem stringslite_IndexByte (s : ByteArray) (c : Int) (w : World) :
    Calls Try.prog 71 #[.string s, .int .u8 c] w fun e w' => e = .returned (.int .i64 (Lib.indexByte s.data.toList c.toNat.toUInt8)) ∧ w = w' := by
  go_enter Try.func71, Try.ntmps71
  go_wp2
  rw [run_callFunc_extern Try.func78 (by kernel_rfl) (by kernel_rfl) (by kernel_rfl) (e := Extern.BytealgIndexByte.indexByte) (by kernel_rfl), Lib.run_indexByteString]
  simp only [Result.andThen]
  rw [Oper.upon_value]
  go_wp2
  go_ret
  exact ⟨rfl, rfl⟩

set_option maxHeartbeats 400000 in
theorem strings_IndexByte (s : ByteArray) (c : Int) (w : World) :
    Calls Try.prog 58 #[.string s, .int .u8 c] w fun e w' => e = .returned (.int .i64 (Lib.indexByte s.data.toList c.toNat.toUInt8)) ∧ w = w' := by
  go_enter Try.func58, Try.ntmps58
  go_wp2_with (go_at_call 71; refine (stringslite_IndexByte _ _ _).mono ?_; rintro e w' ⟨rfl, rfl⟩)
  go_ret
  exact ⟨rfl, rfl⟩

set_option maxHeartbeats 400000 in
theorem May (s : ByteArray) (w : World) :
    Calls Try.prog 52 #[.string s] w fun e w' => e = .returned (.bool (may s.data.toList)) ∧ w = w' := by
  have hl : s.data.toList.length = s.size := by simp only [ByteArray.size, Array.length_toList]
  have H := Lib.hid hl; clear hl
  have hi := indexByte_neg s.data.toList 10
  have HI := Lib.hid hi; clear hi
  by_cases h : s.size ≤ 80
  · go_enter Try.func52, Try.ntmps52
    go_wp2_with (go_at_call 58; refine (strings_IndexByte _ _ _).mono ?_; rintro e w' ⟨rfl, rfl⟩)
    go_ret
    exact ⟨ret_bool (by unfold may; rw [H.out, ← HI.out]; simp [h]), rfl⟩
  · go_enter Try.func52, Try.ntmps52
    go_wp2
    go_ret
    exact ⟨ret_bool (by unfold may; rw [H.out]; simp [h]), rfl⟩

theorem MayV (x : List UInt8) (w : World) :
    Calls Try.prog 52 #[strV x] w fun e w' => e = .returned (.bool (may x)) ∧ w = w' := by
  unfold strV
  have := May ⟨x.toArray⟩ w
  simpa using this

set_option maxHeartbeats 400000 in
theorem InName (c : UInt8) (w : World) :
    Calls Try.prog 51 #[.int .u8 c.toNat] w fun e w' => e = .returned (.bool (inName c)) ∧ w = w' := by
  have hc : c.toNat < 256 := c.toNat_lt
  generalize hn : c.toNat = n at *
  have H := Lib.hid hn; clear hn
  have hv : inName c = ((decide (97 ≤ n) && decide (n ≤ 122)) || (decide (48 ≤ n) && decide (n ≤ 57)) || decide (n = 46)) := by unfold inName; rw [H.out]
  have HV := Lib.hid hv; clear hv
  go_enter Try.func51, Try.ntmps51
  go_wp2
  all_goals
    go_ret
    exact ⟨ret_bool (by rw [HV.out, Bool.eq_iff_iff]; simp; omega), rfl⟩

theorem name_false {l : List UInt8} {c : UInt8} (hm : c ∈ l) (h : inName c = false) : name l = false := by
  have : l.all inName = false := by rw [List.all_eq_false]; exact ⟨c, hm, by simp [h]⟩
  simp [name, this]
theorem name_true {l : List UInt8} (h1 : 1 ≤ l.length) (h2 : l.length ≤ 16) (h : ∀ c ∈ l, inName c = true) : name l = true := by
  have : l.all inName = true := by rw [List.all_eq_true]; exact h
  simp [name, this, h1, h2]
theorem mem_data (s : ByteArray) (k : Nat) (h : k < s.size) : s[k] ∈ s.data.toList := by
  have : s[k] = s.data[k] := rfl
  rw [this]
  exact Array.getElem_mem_toList _
theorem take_data (s : ByteArray) (k : Nat) (h : k < s.size) : s.data.toList.take (k + 1) = s.data.toList.take k ++ [s[k]] := by
  rw [List.take_succ_eq_append_getElem (by rw [Array.length_toList]; exact h)]; rfl

set_option maxHeartbeats 400000 in
theorem Name (s : ByteArray) (w : World) (hs : s.size ≤ maxLen) :
    Calls Try.prog 38 #[.string s] w fun e w' => e = .returned (.bool (name s.data.toList)) ∧ w = w' := by
  have hl : s.data.toList.length = s.size := by simp only [ByteArray.size, Array.length_toList]
  have H := Lib.hid hl; clear hl
  unfold maxLen at hs
  by_cases h1 : s.size < 1
  · go_enter Try.func38, Try.ntmps38
    go_wp2
    go_ret
    exact ⟨ret_bool (by unfold name; rw [H.out]; simp; omega), rfl⟩
  · by_cases h2 : 16 < s.size
    · go_enter Try.func38, Try.ntmps38
      go_wp2
      go_ret
      exact ⟨ret_bool (by unfold name; rw [H.out]; simp; omega), rfl⟩
    · go_enter Try.func38, Try.ntmps38
      go_wp2
      go_loop [14] (fun i => ∃ k : Nat, k ≤ s.size ∧ i = .int .i64 k ∧ ∀ c ∈ s.data.toList.take k, inName c = true) (fun i => s.size - (intOf i).toNat)
      case atStart => exact ⟨0, Nat.zero_le _, rfl, by simp⟩
      case round =>
        obtain ⟨k, hk, rfl, hall⟩ := hrel
        have HA := Lib.hid hall; clear hall
        by_cases hlt : k < s.size
        · have hm := mem_data s k hlt
          have HT := Lib.hid (take_data s k hlt)
          cases hb : inName s[k] with
          | true =>
            go_wp2_with (go_at_call 51; refine (InName _ _).mono ?_; rintro e w' ⟨rfl, rfl⟩)
            go_round
            case rel => exact ⟨k + 1, by omega, by go_num, by rw [HT.out]; intro c hc; rcases List.mem_append.1 hc with h | h; exact HA.out c h; simp at h; rw [h]; exact hb⟩
            case measure => simp [intOf]; omega
          | false =>
            have HF := Lib.hid (name_false hm hb)
            go_wp2_with (go_at_call 51; refine (InName _ _).mono ?_; rintro e w' ⟨rfl, rfl⟩)
            go_ret
            exact ⟨ret_bool HF.out.symm, rfl⟩
        · have HF : Hid (name s.data.toList = true) := Lib.hid (name_true (by rw [H.out]; omega) (by rw [H.out]; omega) (by have := HA.out; rw [List.take_of_length_le (by rw [H.out]; omega)] at this; exact this))
          go_wp2
          go_ret
          exact ⟨ret_bool HF.out.symm, rfl⟩

end Tx
end Go.Proofs.Ytcmpbglbmikkoaa
