/-
  The statement TextMay: for every string the law returns true, and the string reads as it did. No conditions.
-/
import Derived.Test.YtobpdamfobldcaaRows
import Derived.Test.YtobpdamfobldcaaTxAll
import Derived.ProofKit
import Derived.OpenShut
import Derived.ShutString
import Derived.ChangeOld
import Derived.Below
namespace Go.Proofs.Ytobpdamfobldcaa
open Go.RowKit
set_option linter.unusedVariables false
namespace Tx

/-- What the law has gathered when k bytes are looked at. -/
def allTo (s : ByteArray) (k : Nat) : Bool := decide (s.size ≤ 80) && (s.data.toList.take k).all fun c => c != 10

theorem extract_one (s : ByteArray) (k : Nat) (h : k < s.size) : (s.extract k (k + 1)).data.toList = [s[k]] := by
  have hl : s.data.size = s.size := rfl
  rw [show (s.extract k (k + 1)).data = s.data.extract k (k + 1) from ByteArray.data_extract]
  rw [Array.toList_extract]
  rw [List.extract_eq_take_drop]
  rw [show k + 1 - k = 1 by omega, List.drop_eq_getElem_cons (by rw [Array.length_toList, hl]; exact h)]
  rfl
theorem all_ne : ∀ (l : List UInt8), (l.all fun c => c != 10) = !l.contains 10
  | [] => rfl
  | c :: l => by
    rw [List.all_cons, all_ne l, List.contains_cons]
    by_cases h : c = 10
    · subst h; simp
    · rw [bne_iff_ne.2 h, beq_eq_false_iff_ne.2 (fun e => h e.symm)]
      simp
theorem may_one (c : UInt8) : may [c] = (c != 10) := by
  have := all_ne [c]
  unfold may
  rw [← this]
  simp
theorem allTo_succ (s : ByteArray) (k : Nat) (h : k < s.size) : allTo s (k + 1) = (allTo s k && may (s.extract k (k + 1)).data.toList) := by
  rw [extract_one s k h, may_one]
  unfold allTo
  rw [take_data s k h, List.all_append]
  simp [Bool.and_assoc]
theorem allTo_end (s : ByteArray) (k : Nat) (h : ¬ k < s.size) : allTo s k = may s.data.toList := by
  have hl : s.data.toList.length = s.size := by simp only [ByteArray.size, Array.length_toList]
  unfold allTo may
  rw [hl, List.take_of_length_le (by omega), all_ne]

set_option maxHeartbeats 1000000 in
theorem textMay_walk (s : ByteArray) (hs : s.size ≤ maxLen) (w : World) :
    Calls Try.prog 7 #[.string s] w fun e w' => e = .returned (.bool true) ∧ Below w.heap.size w w' := by
  unfold maxLen at hs
  go_enter Try.func7, Try.ntmps7
  go_wp2_with fail
  refine (awake w).mono ?_
  rintro e w1 ⟨rfl, hB⟩
  by_cases h2 : 200 < s.size
  · go_wp2
    go_ret
    exact ⟨rfl, hB⟩
  · go_wp2
    go_loop [4, 5] (fun al i => ∃ k : Nat, k ≤ s.size ∧ i = .int .i64 k ∧ al = .bool (allTo s k)) (fun _ i => s.size - (intOf i).toNat)
    case atStart => exact ⟨0, Nat.zero_le _, rfl, congrArg Value.bool (by unfold allTo; rw [List.take_zero, List.all_nil, Bool.and_true]; exact decide_eq_decide.2 (by omega))⟩
    case round =>
      obtain ⟨k, hk, rfl, rfl⟩ := hrel
      by_cases hlt : k < s.size
      · have HS := Lib.hid (allTo_succ s k hlt)
        cases hb : allTo s k with
        | true =>
          go_wp2_with fail
          refine (May _ _).mono ?_
          rintro e w' ⟨rfl, rfl⟩
          generalize hgm : may (s.extract k (k + 1)).data.toList = mb
          have HG := Lib.hid hgm; clear hgm
          go_wp2
          go_round
          case rel => exact ⟨k + 1, by omega, by go_num, by rw [HS.out, hb, HG.out]; rfl⟩
          case measure => simp [intOf]; omega
        | false =>
          go_wp2
          go_round
          case rel => exact ⟨k + 1, by omega, by go_num, by rw [HS.out, hb]; rfl⟩
          case measure => simp [intOf]; omega
      · have HE := Lib.hid (allTo_end s k hlt)
        go_wp2_with fail
        refine (May _ _).mono ?_
        rintro e w' ⟨rfl, rfl⟩
        go_wp2
        go_ret
        exact ⟨ret_bool (by rw [HE.out]; simp), hB⟩

end Tx
open Tx

open Go.ChangeShapes Go.WideShapes Go.ChangeAt
open Go.ChangeMaps (open_string shut_string)

theorem textMay_own : ownKnob Try.prog.godebug = none := by kernel_rfl

set_option maxRecDepth 100000 in
theorem textMay_lifted (os : Os) (started : os.Started) (H : Type) (enc : TypeId × Value → H) :
    ReturnsInHanded {} Try.checked os 7 .any (Rows.textMaySpec.pre6 enc Try.prog Try.f7 Rows.textMayRow.domain false) (Rows.textMaySpec.post enc Try.prog Try.f7 false true false false) := by
  refine returnsInHanded_of_change (C := Try.checked) textMay_own started (by kernel_rfl) Try.func7
    (ChangeSpec.witness6 (enc := enc) (C := Try.checked) false ⟨#[], #[.string ByteArray.empty], []⟩ 8 (by kernel_rfl) (by kernel_rfl) (by kernel_rfl) (by kernel_rfl)) ?_
  intro W base args ds gs before hval0 hW hcnd _
  have hval : ∀ (j : Nat) t v, Try.f7.params[j]? = some t → args[j]? = some v → Value.okWide Try.prog W .any base t v := hval0
  have hW' := hW
  obtain ⟨p, q, hA0, hV, rfl, hfz, hnd⟩ := hW
  have hA : DataW.TrodAll enc Try.prog W 0 (fun _ => true) true Try.f7.params.toList args.toList ds p := hA0
  rw [Try.params7] at hA hval
  obtain ⟨v0, vs0, d0, ds0, p0, q0, hargs, rfl, rfl, h0, r0⟩ := trodAll_cons hA
  obtain ⟨rfl, rfl, rfl⟩ := trodAll_nil r0
  obtain rfl : args = #[v0] := by cases args; simp_all
  obtain ⟨rfl, rfl⟩ := trodVars_none hV
  obtain ⟨a0, rfl, rfl, rfl, w0⟩ := open_string Try.underlying9 (hval 0 9 v0 rfl rfl) h0
  clear hA0 hval0
  refine (textMay_walk a0 w0 W).mono fun e W' ⟨he, bel⟩ => ?_
  subst he
  exact ⟨_, rfl, _, _, _, [], _, [], hW', trodAll_mk1 (shut_bool Try.underlying4 _), (trodAll_cons_mk (shut_string Try.underlying9 w0) trodAll_mk0), rfl, bel.frame _, fun h => by cases h⟩

/-- The statement. -/
theorem textMay_proved : Rows.TextMaySaid :=
  OpenClaim.holds_of_wide 7 Try.f7 rfl rfl rfl rfl rfl rfl rfl ⟨rfl, rfl, rfl, rfl, rfl⟩ rfl rfl rfl rfl rfl (by kernel_rfl) Try.func7 (by kernel_rfl)
    (of_decide_eq_true (by kernel_rfl)) (by unfold Func.isWrapper; first | (rw [if_pos (by decide +kernel)]; kernel_rfl) | (rw [if_neg (by decide +kernel)]; exact ⟨rfl, rfl⟩))
    (fun os started H enc _ => textMay_lifted os started H enc)

#print axioms textMay_proved
end Go.Proofs.Ytobpdamfobldcaa
