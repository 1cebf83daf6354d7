/-
  CodeNumbers: a number in digits is that number, and of no other digits (walk, and the statement).
-/
import Derived.Test.YtfihjgnafipblaaDoorCdAwake
import Derived.Test.YtfihjgnafipblaaDoorCdFrame
import Derived.ShutString
set_option maxRecDepth 100000
namespace Go.Proofs.YtfihjgnafipblaaDoor
open Go.RowKit
set_option linter.unusedVariables false
set_option linter.unusedSimpArgs false
namespace Cd
open Tx Df Sq Hk Tr Pr Fl

theorem digN_in {n : Int} (h : 0 ≤ n ∧ n ≤ 1048576) : digN (numI n) = n ∧ digB (numI n) = true := by
  unfold digN digB
  rw [dig_of_numI, if_pos h]
  exact ⟨by show (n.toNat : Int) = n; omega, rfl⟩
theorem digN_out {n : Int} (h : ¬ (0 ≤ n ∧ n ≤ 1048576)) : digN [] = 0 ∧ digB [] = false := by
  have h1 := dig_of_numI n
  rw [if_neg h, numI_no h] at h1
  unfold digN digB
  rw [h1]
  exact ⟨rfl, rfl⟩
theorem digN_yes {s : List UInt8} (h : digB s = true) : numI (digN s) = s ∧ I64 (digN s) := by
  unfold digB at h
  cases hd : dig s with
  | none => rw [hd] at h; cases h
  | some k =>
    have h1 := (dig_iff.1 hd).1
    unfold digN
    rw [hd]
    exact ⟨numI_dig hd, by unfold I64; simp only; omega⟩
theorem digN_no {s : List UInt8} (h : digB s = false) : digN s = 0 := by
  unfold digB at h
  cases hd : dig s with
  | none => unfold digN; rw [hd]
  | some k => rw [hd] at h; cases h

set_option maxRecDepth 100000 in
set_option maxHeartbeats 4000000 in
/-- What is behind the first half. -/
theorem numbers_rest (n : Int) (s t : List UInt8) (m : Nat) (w : World) (b : Bool) (hn : I64 n) (hm : s.length = m) (h100 : ¬ 100 < m) (hv : Vars w) (ht : numI n = t) (htl : t.length ≤ 281474976710656)
    (hb : digB t = b) (hi : decide (0 ≤ n ∧ n ≤ 1048576) = b) (hd : b = true → digN t = n) (hd' : b = false → t = []) :
    Calls Tryd.prog 5 #[.int .i64 n, strV s] w fun e w' => e = .returned (.bool true) ∧ Below w.heap.size w w' := by
  obtain ⟨k, hk⟩ : ∃ k, digN s = k := ⟨_, rfl⟩
  obtain ⟨c, hc⟩ : ∃ c, digB s = c := ⟨_, rfl⟩
  obtain ⟨j, hj⟩ : ∃ j, digN t = j := ⟨_, rfl⟩
  have HV := Lib.hid hv
  have HA := Lib.hid (awake w hv)
  have HN := Lib.hid (fun w1 hv1 => Number n hn w1 hv1)
  rw [ht] at HN
  have HT := Lib.hid (fun w1 hv1 => Digits t htl w1 hv1 j b hj hb)
  have HS := Lib.hid (fun w1 hv1 => Digits s (by omega) w1 hv1 k c hk hc)
  have HK : Hid (c = true → ∀ w1, Vars w1 → Calls Tryd.prog 13 #[.int .i64 k] w1 fun e w' => e = .returned (strV s) ∧ Below w1.heap.size w1 w') := Lib.hid (fun h w1 hv1 => by
    obtain ⟨h1, h2⟩ := digN_yes (by rw [hc]; exact h)
    have h3 := Number (digN s) h2 w1 hv1
    rw [h1, hk] at h3
    exact h3)
  have HK0 : Hid (c = false → k = 0) := Lib.hid (fun h => by rw [← hk]; exact digN_no (by rw [hc]; exact h))
  have HJ : Hid (b = true → j = n) := Lib.hid (fun h => by rw [← hj]; exact hd h)
  have HJ' := Lib.hid hd'
  have HI := Lib.hid hi
  clear hv ht htl hb hi hd hd' hk hc hj
  go_enter Tryd.func5, Tryd.ntmps5
  go_wp2_with fail
  refine HA.out.mono ?_
  rintro e w1 ⟨rfl, hb⟩
  have HB := Lib.hid hb; replace HV := Lib.hid (HV.out.mv hb); clear hb HA
  go_wp2_with fail
  refine (HN.out w1 HV.out).mono ?_
  rintro e w2 ⟨rfl, hb⟩
  replace HB := Lib.hid (below_mv HB.out hb); replace HV := Lib.hid (HV.out.mv hb); clear hb HN
  go_wp2_with fail
  refine (HT.out w2 HV.out).mono ?_
  rintro e w3 ⟨rfl, hb⟩
  replace HB := Lib.hid (below_mv HB.out hb); replace HV := Lib.hid (HV.out.mv hb); clear hb HT
  have key : (0 ≤ n ∧ n ≤ 1048576 ∧ b = true ∧ j = n) ∨ (n < 0 ∧ b = false ∧ t = []) ∨ (0 ≤ n ∧ 1048576 < n ∧ b = false ∧ t = []) := by
    by_cases h0 : 0 ≤ n
    · by_cases h1 : n ≤ 1048576
      · have hb : b = true := by rw [← HI.out]; simp [h0, h1]
        exact .inl ⟨h0, h1, hb, HJ.out hb⟩
      · have hb : b = false := by rw [← HI.out]; simp [h1]
        exact .inr (.inr ⟨h0, by omega, hb, HJ'.out hb⟩)
    · have hb : b = false := by rw [← HI.out]; simp [h0]
      exact .inr (.inl ⟨by omega, hb, HJ'.out hb⟩)
  clear HI HJ HJ'
  rcases key with ⟨h0, h1, rfl, rfl⟩ | ⟨h0, rfl, rfl⟩ | ⟨h0, h1, rfl, rfl⟩
  all_goals
    go_wp2_with fail
    refine (HS.out w3 HV.out).mono ?_
    rintro e w4 ⟨rfl, hb⟩
    replace HB := Lib.hid (below_mv HB.out hb); replace HV := Lib.hid (HV.out.mv hb); clear hb HS
    cases c with
    | false =>
      obtain rfl := HK0.out rfl
      clear HK HK0
      go_wp2
      go_ret
      exact ⟨rfl, HB.out⟩
    | true =>
      have HK1 := Lib.hid (HK.out rfl w4 HV.out)
      clear HK HK0
      go_wp2_with fail
      refine HK1.out.mono ?_
      rintro e w5 ⟨rfl, hb⟩
      replace HB := Lib.hid (below_mv HB.out hb); clear hb HK1
      go_wp2
      go_ret
      exact ⟨rfl, HB.out⟩

set_option maxRecDepth 100000 in
set_option maxHeartbeats 4000000 in
theorem codeNumbers_walk (n : Int) (s : List UInt8) (w : World) (hn : I64 n) (hs : s.length ≤ maxLen) (hv : Vars w) :
    Calls Tryd.prog 5 #[.int .i64 n, strV s] w fun e w' => e = .returned (.bool true) ∧ Below w.heap.size w w' := by
  obtain ⟨m, hm⟩ : ∃ m, s.length = m := ⟨_, rfl⟩
  have HV := Lib.hid hv
  have HA := Lib.hid (awake w hv)
  by_cases h100 : 100 < m
  · clear hv hs
    go_enter Tryd.func5, Tryd.ntmps5
    go_wp2_with fail
    refine HA.out.mono ?_
    rintro e w1 ⟨rfl, hb⟩
    have HB := Lib.hid hb; clear hb HA
    go_wp2
    go_ret
    exact ⟨rfl, HB.out⟩
  · by_cases h : 0 ≤ n ∧ n ≤ 1048576
    · exact numbers_rest n s (numI n) m w true hn hm h100 hv rfl (Nat.le_trans (numI_len n) (by decide)) (digN_in h).2 (decide_eq_true h) (fun _ => (digN_in h).1) (fun e => by cases e)
    · exact numbers_rest n s [] m w false hn hm h100 hv (numI_no h) (by decide) (digN_out h).2 (decide_eq_false h) (fun e => by cases e) (fun _ => rfl)

open Go.ChangeShapes Go.WideShapes Go.ChangeAt
open Go.ChangeMaps (open_string shut_string)

theorem codeNumbers_laidOut : laidOutB Tryd.prog = true := by kernel_rfl
theorem codeNumbers_reads (os : Os) {H : Type} (enc : TypeId × Value → H) : ∃ places, DataW.whole enc Tryd.prog ((laidWorld os).forCall (fun _ _ => 0) ⟨#[], #[.int .i64 0, .string ByteArray.empty], []⟩).memory Tryd.f5.params.toList Rows.codeNumbersSpec.vars false [.int .i64 0, .string ByteArray.empty] 8 = some ([.lit (.int .i64 0), .lit (.string [])], [], places) :=
  ⟨[], by kernel_rfl⟩

set_option maxRecDepth 100000 in
theorem codeNumbers_lifted (os : Os) (started : os.Started) (H : Type) (enc : TypeId × Value → H) (J : Stop.Interp) :
    ReturnsInHanded {} Tryd.checked os 5 .any ((OpenSpec.ofChange Rows.codeNumbersSpec).preRow enc Tryd.prog Tryd.f5 Rows.codeNumbersRow.domain false Rows.codeNumbersRow.laid) (((OpenSpec.ofChange Rows.codeNumbersSpec).at J).post enc Tryd.prog Tryd.f5 false true false false) := by
  obtain ⟨places, hx⟩ := codeNumbers_reads os enc
  refine returnsInHanded_of_row (C := Tryd.checked) (s := OpenSpec.ofChange Rows.codeNumbersSpec) own started (by kernel_rfl) Tryd.func5
    (witness_row_atRef (enc := enc) (C := Tryd.checked) false (laidWorld os) #[.int .i64 0, .string ByteArray.empty] rfl (by kernel_rfl) (by kernel_rfl) (by kernel_rfl)
      (OpenSpec.preRow_of_cond 8 hx (by kernel_rfl) (fun k hk => by cases hk) (by kernel_rfl) (laid_met os _))) ?_
  intro W base args ds gs before hval0 hW hcnd _ _ hL hsh _
  have hvars : Vars W := vars_of hL hsh
  have hval : ∀ (j : Nat) t v, Tryd.f5.params[j]? = some t → args[j]? = some v → Value.okWide Tryd.prog W .any base t v := hval0
  have hW' := hW
  obtain ⟨p, q, hA0, hV, rfl, hfz, hnd⟩ := hW
  have hA : DataW.TrodAll enc Tryd.prog W 0 (fun _ => true) true Tryd.f5.params.toList args.toList ds p := hA0
  rw [Tryd.params5] at hA hval
  obtain ⟨v0, vs0, d0, ds0, p0, q0, hargs, rfl, rfl, h0, r0⟩ := trodAll_cons hA
  obtain ⟨v1, vs1, d1, ds1, p1, q1, rfl, rfl, rfl, h1, r1⟩ := trodAll_cons r0
  obtain ⟨rfl, rfl, rfl⟩ := trodAll_nil r1
  obtain rfl : args = #[v0, v1] := by cases args; simp_all
  obtain ⟨rfl, rfl⟩ := trodVars_none hV
  have k0 := h0
  have lt0 : ∀ x ∈ p0, x.block < W.heap.size := by obtain ⟨m, hm⟩ := k0; exact DataW.trod_lt m _ _ _ hm
  obtain ⟨i0, rfl, rfl, rfl, w0⟩ := open_int Tryd.underlying3 (hval 0 3 v0 rfl rfl) h0
  obtain ⟨a1, rfl, rfl, rfl, w1⟩ := open_string Tryd.underlying9 (hval 1 9 v1 rfl rfl) h1
  clear hA0 hval0
  refine (codeNumbers_walk i0 a1.data.toList W (i64_wf w0) (by rw [Array.length_toList]; exact w1) hvars).mono fun e W' ⟨he, bel⟩ => ?_
  subst he
  exact ⟨_, rfl, _, _, _, [], _, [], hW', trodAll_mk1 (shut_bool Tryd.underlying4 _), (trodAll_cons_mk (Below.trod codeNumbers_laidOut (by kernel_rfl) (of_decide_eq_true (by kernel_rfl)) k0 bel lt0) (trodAll_cons_mk (shut_string Tryd.underlying9 w1) trodAll_mk0)), rfl, bel.frame _, fun h => by cases h⟩

theorem codeNumbers_said : Rows.CodeNumbersSaid :=
  OpenClaim.holds_of_cond 5 Tryd.f5 rfl rfl rfl rfl rfl rfl rfl ⟨rfl, rfl, rfl, rfl, rfl⟩ rfl rfl rfl rfl rfl (by kernel_rfl) Tryd.func5 (by kernel_rfl)
    (of_decide_eq_true (by kernel_rfl)) (by unfold Func.isWrapper; first | (rw [if_pos (by decide +kernel)]; kernel_rfl) | (rw [if_neg (by decide +kernel)]; exact ⟨rfl, rfl⟩))
    (fun os started H enc _ J => by rw [OpenClaim.pre_eq_preRow]; exact codeNumbers_lifted os started H enc J)

/-- No parameter wants a stand-in. -/
theorem codeNumbers_plain (f : FuncId) (fn : Func) (hf : Tryd.pinned.checked.prog.funcNamed "quiltmaker/quiltmakerlaw12.CodeNumbers" = some f) (hfn : Tryd.pinned.checked.prog.funcs[f]? = some fn) :
    true = Tryd.pinned.checked.prog.looks [] ∧ ∀ (j : Nat) t, fn.params[j]? = some t → Tryd.pinned.checked.prog.wantsStandIn t = false := by
  obtain rfl : f = 5 := Option.some.inj ((show Tryd.prog.funcNamed "quiltmaker/quiltmakerlaw12.CodeNumbers" = some 5 by kernel_rfl).symm.trans hf) |>.symm
  obtain rfl : fn = Tryd.f5 := (Option.some.inj (Tryd.func5.symm.trans hfn)).symm
  refine ⟨by kernel_rfl, fun j t ht => ?_⟩
  rw [Tryd.params5] at ht
  have hm := Array.mem_of_getElem? ht
  simp only [List.mem_toArray, List.mem_cons, List.not_mem_nil, or_false] at hm
  rcases hm with rfl | rfl
  · exact (show Tryd.prog.wantsStandIn 3 = false by kernel_rfl)
  · exact (show Tryd.prog.wantsStandIn 9 = false by kernel_rfl)

/-- The statement. -/
theorem codeNumbers_proved : Rows.CodeNumbersCardSaid :=
  Claim7.holds_tied_plain_at .later [] _ _ _ _ codeNumbers_said (fun _ h => by cases h) (by kernel_rfl) (fun _ h => by cases h) codeNumbers_row_tie rfl ⟨rfl, rfl⟩ (by kernel_rfl) rfl codeNumbers_plain (by kernel_rfl)

#print axioms codeNumbers_proved
end Cd
end Go.Proofs.YtfihjgnafipblaaDoor
