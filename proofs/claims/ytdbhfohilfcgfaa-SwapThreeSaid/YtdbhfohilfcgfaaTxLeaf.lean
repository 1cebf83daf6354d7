/-
  What the leaf functions of layer 1 return (walks): May, inName, Name. No conditions but the length of a string.
-/
import Derived.Test.YtdbhfohilfcgfaaRows
import Derived.Test.YtdbhfohilfcgfaaTxPlain
import Derived.WalkKit
import Derived.WalkSpells
import Derived.WalkLawsBesides
import Derived.Lib.Hide
namespace Go.Proofs.Ytdbhfohilfcgfaa
open Go.RowKit
namespace Tx

set_option maxHeartbeats 400000 in
theorem stringslite_IndexByte (s : ByteArray) (c : Int) (w : World) :
    Calls Try.prog 39 #[.string s, .int .u8 c] w fun e w' => e = .returned (.int .i64 (Lib.indexByte s.data.toList c.toNat.toUInt8)) ∧ w = w' := by
  go_enter Try.func39, Try.ntmps39
  go_wp2
  rw [run_callFunc_extern Try.func40 (by kernel_rfl) (by kernel_rfl) (by kernel_rfl) (e := Extern.BytealgIndexByte.indexByte) (by kernel_rfl), Lib.run_indexByteString]
  simp only [Result.andThen]
  rw [Oper.upon_value]
  go_wp2
  go_ret
  exact ⟨rfl, rfl⟩

set_option maxHeartbeats 400000 in
theorem strings_IndexByte (s : ByteArray) (c : Int) (w : World) :
    Calls Try.prog 37 #[.string s, .int .u8 c] w fun e w' => e = .returned (.int .i64 (Lib.indexByte s.data.toList c.toNat.toUInt8)) ∧ w = w' := by
  go_enter Try.func37, Try.ntmps37
  go_wp2_with (go_at_call 39; refine (stringslite_IndexByte _ _ _).mono ?_; rintro e w' ⟨rfl, rfl⟩)
  go_ret
  exact ⟨rfl, rfl⟩

set_option maxHeartbeats 400000 in
theorem May (s : ByteArray) (w : World) :
    Calls Try.prog 33 #[.string s] w fun e w' => e = .returned (.bool (may s.data.toList)) ∧ w = w' := by
  have hl : s.data.toList.length = s.size := by simp only [ByteArray.size, Array.length_toList]
  have H := Lib.hid hl; clear hl
  have hi := indexByte_neg s.data.toList 10
  have HI := Lib.hid hi; clear hi
  by_cases h : s.size ≤ 80
  · go_enter Try.func33, Try.ntmps33
    go_wp2_with (go_at_call 37; refine (strings_IndexByte _ _ _).mono ?_; rintro e w' ⟨rfl, rfl⟩)
    go_ret
    exact ⟨ret_bool (by unfold may; rw [H.out, ← HI.out]; simp [h]), rfl⟩
  · go_enter Try.func33, Try.ntmps33
    go_wp2
    go_ret
    exact ⟨ret_bool (by unfold may; rw [H.out]; simp [h]), rfl⟩

theorem MayV (x : List UInt8) (w : World) :
    Calls Try.prog 33 #[strV x] w fun e w' => e = .returned (.bool (may x)) ∧ w = w' := by
  unfold strV
  have := May ⟨x.toArray⟩ w
  simpa using this

theorem name_false {l : List UInt8} {c : UInt8} (hm : c ∈ l) (h : inName c = false) : name l = false := by
  have : l.all inName = false := by rw [List.all_eq_false]; exact ⟨c, hm, by simp [h]⟩
  simp [name, this]
theorem name_true {l : List UInt8} (h1 : 1 ≤ l.length) (h2 : l.length ≤ 16) (h : ∀ c ∈ l, inName c = true) : name l = true := by
  have : l.all inName = true := by rw [List.all_eq_true]; exact h
  simp [name, this, h1, h2]
theorem mem_data (s : ByteArray) (k : Nat) (h : k < s.size) : s[k] ∈ s.data.toList := by
  have : s[k] = s.data[k] := rfl
  rw [this]
  exact Array.getElem_mem_toList _
theorem take_data (s : ByteArray) (k : Nat) (h : k < s.size) : s.data.toList.take (k + 1) = s.data.toList.take k ++ [s[k]] := by
  rw [List.take_succ_eq_append_getElem (by rw [Array.length_toList]; exact h)]; rfl

end Tx
end Go.Proofs.Ytdbhfohilfcgfaa
