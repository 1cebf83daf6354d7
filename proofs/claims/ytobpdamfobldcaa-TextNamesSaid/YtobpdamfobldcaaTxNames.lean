/-
  The statement TextNames: for every string the law returns true, and the string reads as it did. No conditions.
-/
import Derived.Test.YtobpdamfobldcaaRows
import Derived.Test.YtobpdamfobldcaaTxMay
namespace Go.Proofs.Ytobpdamfobldcaa
open Go.RowKit
set_option linter.unusedVariables false
namespace Tx

/-- What the law has gathered when k bytes are looked at. -/
def nameTo (s : ByteArray) (k : Nat) : Bool := decide (0 < s.size) && decide (s.size ≤ 16) && (s.data.toList.take k).all inName

theorem name_one (c : UInt8) : name [c] = inName c := by simp [name]
theorem nameTo_succ (s : ByteArray) (k : Nat) (h : k < s.size) : nameTo s (k + 1) = (nameTo s k && name (s.extract k (k + 1)).data.toList) := by
  rw [extract_one s k h, name_one]
  unfold nameTo
  rw [take_data s k h, List.all_append]
  simp [Bool.and_assoc]
theorem nameTo_end (s : ByteArray) (k : Nat) (h : ¬ k < s.size) : nameTo s k = name s.data.toList := by
  have hl : s.data.toList.length = s.size := by simp only [ByteArray.size, Array.length_toList]
  unfold nameTo name
  rw [hl, List.take_of_length_le (by omega)]
  rfl
theorem inName_ne {c : UInt8} (h : inName c = true) : (c != 10) = true := by
  rw [bne_iff_ne]; rintro rfl; revert h; decide
theorem name_may {l : List UInt8} (h : name l = true) : may l = true := by
  unfold name at h
  simp only [Bool.and_eq_true, decide_eq_true_eq, List.all_eq_true] at h
  unfold may
  rw [← all_ne]
  have h1 : l.length ≤ 80 := by omega
  rw [decide_eq_true h1, Bool.true_and, List.all_eq_true]
  exact fun c hc => inName_ne (h.2 c hc)

set_option maxHeartbeats 1000000 in
theorem textNames_walk (s : ByteArray) (hs : s.size ≤ maxLen) (w : World) :
    Calls Try.prog 6 #[.string s] w fun e w' => e = .returned (.bool true) ∧ Below w.heap.size w w' := by
  have hs' := hs
  have HM := Lib.hid hs'; clear hs'
  unfold maxLen at hs
  go_enter Try.func6, Try.ntmps6
  go_wp2_with fail
  refine (awake w).mono ?_
  rintro e w1 ⟨rfl, hB⟩
  by_cases h2 : 100 < s.size
  · go_wp2
    go_ret
    exact ⟨rfl, hB⟩
  · by_cases h0 : 0 < s.size
    · go_wp2
      go_loop [4, 5] (fun al i => ∃ k : Nat, k ≤ s.size ∧ i = .int .i64 k ∧ al = .bool (nameTo s k)) (fun _ i => s.size - (intOf i).toNat)
      case atStart => exact ⟨0, Nat.zero_le _, rfl, congrArg Value.bool (by unfold nameTo; rw [List.take_zero, List.all_nil, Bool.and_true, decide_eq_true h0, Bool.true_and]; exact decide_eq_decide.2 (by omega))⟩
      case round =>
        obtain ⟨k, hk, rfl, rfl⟩ := hrel
        by_cases hlt : k < s.size
        · have HS := Lib.hid (nameTo_succ s k hlt)
          cases hb : nameTo s k with
          | true =>
            go_wp2_with fail
            refine (Name _ _ (by simp [maxLen]; omega)).mono ?_
            rintro e w' ⟨rfl, rfl⟩
            generalize hgm : name (s.extract k (k + 1)).data.toList = mb
            have HG := Lib.hid hgm; clear hgm
            go_wp2
            go_round
            case rel => exact ⟨k + 1, by omega, by go_num, by rw [HS.out, hb, HG.out]; rfl⟩
            case measure => simp [intOf]; omega
          | false =>
            go_wp2
            go_round
            case rel => exact ⟨k + 1, by omega, by go_num, by rw [HS.out, hb]; rfl⟩
            case measure => simp [intOf]; omega
        · have hE := nameTo_end s k hlt
          cases hb : nameTo s k with
          | true =>
            have HT : Hid (name s.data.toList = true) := Lib.hid (by rw [← hE, hb])
            have HY := Lib.hid (name_may HT.out)
            clear hE
            go_wp2_with fail
            refine (Name _ _ HM.out).mono ?_
            rintro e w' ⟨rfl, rfl⟩
            rw [HT.out]
            go_wp2_with fail
            refine (May _ _).mono ?_
            rintro e w' ⟨rfl, rfl⟩
            rw [HY.out]
            go_wp2
            go_ret
            exact ⟨rfl, hB⟩
          | false =>
            have HT : Hid (name s.data.toList = false) := Lib.hid (by rw [← hE, hb])
            clear hE
            go_wp2_with fail
            refine (Name _ _ HM.out).mono ?_
            rintro e w' ⟨rfl, rfl⟩
            rw [HT.out]
            go_wp2
            go_ret
            exact ⟨rfl, hB⟩
    · have HT : Hid (name s.data.toList = false) := Lib.hid (by
        have hl : s.data.toList.length = s.size := by simp only [ByteArray.size, Array.length_toList]
        unfold name; rw [hl]; simp; omega)
      go_wp2
      go_loop [4, 5] (fun al i => al = .bool false ∧ i = .int .i64 0) (fun _ _ => 0)
      case atStart => exact ⟨rfl, rfl⟩
      case round =>
        obtain ⟨rfl, rfl⟩ := hrel
        go_wp2_with fail
        refine (Name _ _ HM.out).mono ?_
        rintro e w' ⟨rfl, rfl⟩
        rw [HT.out]
        go_wp2
        go_ret
        exact ⟨rfl, hB⟩

end Tx
open Tx

open Go.ChangeShapes Go.WideShapes Go.ChangeAt
open Go.ChangeMaps (open_string shut_string)

theorem textNames_own : ownKnob Try.prog.godebug = none := by kernel_rfl

set_option maxRecDepth 100000 in
theorem textNames_lifted (os : Os) (started : os.Started) (H : Type) (enc : TypeId × Value → H) :
    ReturnsInHanded {} Try.checked os 6 .any (Rows.textNamesSpec.pre6 enc Try.prog Try.f6 Rows.textNamesRow.domain false) (Rows.textNamesSpec.post enc Try.prog Try.f6 false true false false) := by
  refine returnsInHanded_of_change (C := Try.checked) textNames_own started (by kernel_rfl) Try.func6
    (ChangeSpec.witness6 (enc := enc) (C := Try.checked) false ⟨#[], #[.string ByteArray.empty], []⟩ 8 (by kernel_rfl) (by kernel_rfl) (by kernel_rfl) (by kernel_rfl)) ?_
  intro W base args ds gs before hval0 hW hcnd _
  have hval : ∀ (j : Nat) t v, Try.f6.params[j]? = some t → args[j]? = some v → Value.okWide Try.prog W .any base t v := hval0
  have hW' := hW
  obtain ⟨p, q, hA0, hV, rfl, hfz, hnd⟩ := hW
  have hA : DataW.TrodAll enc Try.prog W 0 (fun _ => true) true Try.f6.params.toList args.toList ds p := hA0
  rw [Try.params6] at hA hval
  obtain ⟨v0, vs0, d0, ds0, p0, q0, hargs, rfl, rfl, h0, r0⟩ := trodAll_cons hA
  obtain ⟨rfl, rfl, rfl⟩ := trodAll_nil r0
  obtain rfl : args = #[v0] := by cases args; simp_all
  obtain ⟨rfl, rfl⟩ := trodVars_none hV
  obtain ⟨a0, rfl, rfl, rfl, w0⟩ := open_string Try.underlying9 (hval 0 9 v0 rfl rfl) h0
  clear hA0 hval0
  refine (textNames_walk a0 w0 W).mono fun e W' ⟨he, bel⟩ => ?_
  subst he
  exact ⟨_, rfl, _, _, _, [], _, [], hW', trodAll_mk1 (shut_bool Try.underlying4 _), (trodAll_cons_mk (shut_string Try.underlying9 w0) trodAll_mk0), rfl, bel.frame _, fun h => by cases h⟩

/-- The statement. -/
theorem textNames_proved : Rows.TextNamesSaid :=
  OpenClaim.holds_of_wide 6 Try.f6 rfl rfl rfl rfl rfl rfl rfl ⟨rfl, rfl, rfl, rfl, rfl⟩ rfl rfl rfl rfl rfl (by kernel_rfl) Try.func6 (by kernel_rfl)
    (of_decide_eq_true (by kernel_rfl)) (by unfold Func.isWrapper; first | (rw [if_pos (by decide +kernel)]; kernel_rfl) | (rw [if_neg (by decide +kernel)]; exact ⟨rfl, rfl⟩))
    (fun os started H enc _ => textNames_lifted os started H enc)

#print axioms textNames_proved
end Go.Proofs.Ytobpdamfobldcaa
