/-
  CodeTells: any changes in bytes, and any number in digits, are what the document says (walk, and the statement).
-/
import Derived.Test.YtfihjgnafipblaaGreatDoorCdAwake
import Derived.Test.YtfihjgnafipblaaGreatDoorCdFrame
import Derived.Test.YtfihjgnafipblaaGreatDoorCdRefPut
import Derived.Test.YtfihjgnafipblaaGreatDoorFlOpen
import Derived.Test.YtfihjgnafipblaaGreatDoorFlRef
import Derived.ShutString
set_option maxRecDepth 100000
namespace Go.Proofs.YtfihjgnafipblaaGreatDoor
open Go.RowKit
set_option linter.unusedVariables false
set_option linter.unusedSimpArgs false
namespace Cd
open Tx Df Sq Hk Tr Pr Fl

set_option maxRecDepth 100000 in
set_option maxHeartbeats 8000000 in
theorem codeTells_walk (A : Option Addr) (n c : Nat) (l : List Ch) (k : Int) (s : List UInt8) (w : World) (h : PrsArg w A n c l) (hk : I64 k) (hs : s.length ≤ maxLen) (hv : Vars w) :
    Calls Tryz.prog 3 #[.slice A n c, .int .i64 k, strV s] w fun e w' => e = .returned (.bool true) ∧ Below w.heap.size w w' := by
  obtain ⟨b, hb⟩ : ∃ b, fewP l 60 = b := ⟨_, rfl⟩
  obtain ⟨er, x, hp⟩ : ∃ er x, putP l = (er, x) := ⟨_, _, rfl⟩
  obtain ⟨m, hm⟩ : ∃ m, s.length = m := ⟨_, rfl⟩
  obtain ⟨u, hu⟩ : ∃ u, digN s = u := ⟨_, rfl⟩
  obtain ⟨z, hz⟩ : ∃ z, digB s = z := ⟨_, rfl⟩
  obtain ⟨t, ht⟩ : ∃ t, numI k = t := ⟨_, rfl⟩
  have HP := Lib.hid hp; have HF := Lib.hid hb; have HM := Lib.hid hm
  have HV := Lib.hid hv
  have HA := Lib.hid (awake w hv)
  have HL := Lib.hid h
  have HN1 := Lib.hid (fun Y hY => Number k hk Y hY)
  have HN2 := Lib.hid (fun Y => refNumber k hk Y)
  rw [ht] at HN1 HN2
  have HD2 := Lib.hid (fun Y => refDigits s hs Y)
  rw [hu, hz] at HD2
  have HU := Lib.hid hu; have HZ := Lib.hid hz
  clear hb hp hv h hm hs hu hz ht
  go_enter Tryz.func3, Tryz.ntmps3
  go_wp2_with fail
  refine HA.out.mono ?_
  rintro e w1 ⟨rfl, hb⟩
  have HB := Lib.hid hb; replace HV := Lib.hid (HV.out.mv hb)
  have HL1 : Hid (PrsArg w1 A n c l) := Lib.hid ⟨HL.out.len, HL.out.cap, HL.out.le, HL.out.rd.mv hb⟩
  clear hb HA HL
  go_wp2_with fail
  refine (Few A n c 60 l w1 b (by decide) HL1.out HF.out).mono ?_
  rintro e w2 ⟨rfl, hb⟩
  replace HB := Lib.hid (below_mv HB.out hb); replace HV := Lib.hid (HV.out.mv hb)
  have HR : Hid (RdP w2 (· < w2.heap.size) A l) := Lib.hid (HL1.out.rd.mv hb)
  have HN := Lib.hid HL1.out.len; have HLE := Lib.hid HL1.out.le
  clear hb HL1
  cases b with
  | false =>
    go_wp2
    go_ret
    exact ⟨rfl, HB.out⟩
  | true =>
    have hml := HM.out
    by_cases h1 : 100 < m
    · have hd : decide ((100 : Int) < (m : Int)) = true := decide_eq_true (by omega)
      go_wp2
      go_ret
      exact ⟨rfl, HB.out⟩
    · have hd : decide ((100 : Int) < (m : Int)) = false := decide_eq_false (by omega)
      have HD1 := Lib.hid (fun Y hY => Digits s (by omega) Y hY u z HU.out HZ.out)
      clear h1
      go_wp2_with fail
      refine (Put A n c l w2 er x HN.out HLE.out HR.out HV.out HP.out).mono ?_
      rintro e w3 ⟨B1, n1, d1, rfl, hn1, hd1, hr1, hb⟩
      replace HB := Lib.hid (below_mv HB.out hb); replace HV := Lib.hid (HV.out.mv hb); replace HR : Hid (RdP w3 (· < w3.heap.size) A l) := Lib.hid (HR.out.mv hb)
      have HR1 := Lib.hid hr1; have HX1 := Lib.hid hn1
      clear hn1 hd1 hr1 hb
      go_wp2_with fail
      refine (refPut A n c l w3 er x HN.out HLE.out HR.out HP.out).mono ?_
      rintro e w4 ⟨B2, n2, d2, rfl, hn2, hd2, hr2, hb⟩
      replace HB := Lib.hid (below_mv HB.out hb); replace HV := Lib.hid (HV.out.mv hb)
      replace HR1 : Hid (RdB w4 w4.heap.size B1 x) := Lib.hid (Rd.up (Rd.below HR1.out hb) hb.size)
      have HR2 := Lib.hid hr2
      obtain rfl : n1 = n2 := HX1.out.symm.trans hn2
      clear hn2 hd2 hr2 hb HR
      go_wp2_with fail
      refine (HD1.out w4 HV.out).mono ?_
      rintro e w5 ⟨rfl, hb⟩
      replace HB := Lib.hid (below_mv HB.out hb); replace HV := Lib.hid (HV.out.mv hb)
      replace HR1 : Hid (RdB w5 w5.heap.size B1 x) := Lib.hid (Rd.up (Rd.below HR1.out hb) hb.size); replace HR2 : Hid (RdB w5 w5.heap.size B2 x) := Lib.hid (Rd.up (Rd.below HR2.out hb) hb.size)
      clear hb HD1
      go_wp2_with fail
      refine (HD2.out w5).mono ?_
      rintro e w6 ⟨rfl, hb⟩
      replace HB := Lib.hid (below_mv HB.out hb); replace HV := Lib.hid (HV.out.mv hb)
      replace HR1 : Hid (RdB w6 w6.heap.size B1 x) := Lib.hid (Rd.up (Rd.below HR1.out hb) hb.size); replace HR2 : Hid (RdB w6 w6.heap.size B2 x) := Lib.hid (Rd.up (Rd.below HR2.out hb) hb.size)
      clear hb HD2
      have hcv1 := run_conv (P := Tryz.prog) HR1.out 25 9 5 d1 Tryz.underlying25 Tryz.underlying5 Tryz.underlying9
      have hcv2 := run_conv (P := Tryz.prog) HR2.out 25 9 5 d2 Tryz.underlying25 Tryz.underlying5 Tryz.underlying9
      rw [HX1.out] at hcv1 hcv2
      go_wp2_with fail
      refine (HN1.out w6 HV.out).mono ?_
      rintro e w7 ⟨rfl, hb⟩
      replace HB := Lib.hid (below_mv HB.out hb)
      clear hb HN1 hcv1 hcv2
      go_wp2_with fail
      refine (HN2.out w7).mono ?_
      rintro e w8 ⟨rfl, hb⟩
      replace HB := Lib.hid (below_mv HB.out hb)
      clear hb HN2
      go_wp2
      go_ret
      exact ⟨rfl, HB.out⟩

open Go.ChangeShapes Go.WideShapes Go.ChangeAt
open Go.ChangeMaps (open_string shut_string)

theorem codeTells_laidOut : laidOutB Tryz.prog = true := by kernel_rfl
theorem codeTells_reads (os : Os) {H : Type} (enc : TypeId × Value → H) : ∃ places, DataW.whole enc Tryz.prog ((laidWorld os).forCall (fun _ _ => 0) ⟨#[], #[.slice none 0 0, .int .i64 0, .string ByteArray.empty], []⟩).memory Tryz.f3.params.toList Rows.codeTellsSpec.vars false [.slice none 0 0, .int .i64 0, .string ByteArray.empty] 8 = some ([.nil, .lit (.int .i64 0), .lit (.string [])], [], places) :=
  ⟨[], by kernel_rfl⟩

set_option maxRecDepth 100000 in
theorem codeTells_lifted (os : Os) (started : os.Started) (H : Type) (enc : TypeId × Value → H) (J : Stop.Interp) :
    ReturnsInHanded {} Tryz.checked os 3 .any ((OpenSpec.ofChange Rows.codeTellsSpec).preRow enc Tryz.prog Tryz.f3 Rows.codeTellsRow.domain false Rows.codeTellsRow.laid) (((OpenSpec.ofChange Rows.codeTellsSpec).at J).post enc Tryz.prog Tryz.f3 false true false false) := by
  obtain ⟨places, hx⟩ := codeTells_reads os enc
  refine returnsInHanded_of_row (C := Tryz.checked) (s := OpenSpec.ofChange Rows.codeTellsSpec) own started (by kernel_rfl) Tryz.func3
    (witness_row_atRef (enc := enc) (C := Tryz.checked) false (laidWorld os) #[.slice none 0 0, .int .i64 0, .string ByteArray.empty] rfl (by kernel_rfl) (by kernel_rfl) (by kernel_rfl)
      (OpenSpec.preRow_of_cond 8 hx (by kernel_rfl) (fun k hk => by cases hk) (by kernel_rfl) (laid_met os _))) ?_
  intro W base args ds gs before hval0 hW hcnd _ _ hL hsh _
  have hvars : Vars W := vars_of hL hsh
  have hval : ∀ (j : Nat) t v, Tryz.f3.params[j]? = some t → args[j]? = some v → Value.okWide Tryz.prog W .any base t v := hval0
  have hW' := hW
  obtain ⟨p, q, hA0, hV, rfl, hfz, hnd⟩ := hW
  have hA : DataW.TrodAll enc Tryz.prog W 0 (fun _ => true) true Tryz.f3.params.toList args.toList ds p := hA0
  rw [Tryz.params3] at hA hval
  obtain ⟨v0, vs0, d0, ds0, p0, q0, hargs, rfl, rfl, h0, r0⟩ := trodAll_cons hA
  obtain ⟨v1, vs1, d1, ds1, p1, q1, rfl, rfl, rfl, h1, r1⟩ := trodAll_cons r0
  obtain ⟨v2, vs2, d2, ds2, p2, q2, rfl, rfl, rfl, h2, r2⟩ := trodAll_cons r1
  obtain ⟨rfl, rfl, rfl⟩ := trodAll_nil r2
  obtain rfl : args = #[v0, v1, v2] := by cases args; simp_all
  obtain ⟨rfl, rfl⟩ := trodVars_none hV
  obtain ⟨a0, n0, c0, rfl⟩ := okWide_slice Tryz.underlying22 (hval 0 22 v0 rfl rfl)
  have k0 := h0
  have lt0 : ∀ x ∈ p0, x.block < W.heap.size := by obtain ⟨m, hm⟩ := k0; exact DataW.trod_lt m _ _ _ hm
  obtain ⟨l0, s0⟩ : ∃ l, PrsArg W a0 n0 c0 l := by
    obtain ⟨fuel, hf⟩ := h0
    exact prs_in hf (by simp [Value.cells])
  have k1 := h1
  have lt1 : ∀ x ∈ p1, x.block < W.heap.size := by obtain ⟨m, hm⟩ := k1; exact DataW.trod_lt m _ _ _ hm
  obtain ⟨i1, rfl, rfl, rfl, w1⟩ := open_int Tryz.underlying3 (hval 1 3 v1 rfl rfl) h1
  obtain ⟨a2, rfl, rfl, rfl, w2⟩ := open_string Tryz.underlying9 (hval 2 9 v2 rfl rfl) h2
  clear hA0 hval0
  refine (codeTells_walk a0 n0 c0 l0 i1 a2.data.toList W s0 (i64_wf w1) (by rw [Array.length_toList]; exact w2) hvars).mono fun e W' ⟨he, bel⟩ => ?_
  subst he
  exact ⟨_, rfl, _, _, _, [], _, [], hW', trodAll_mk1 (shut_bool Tryz.underlying4 _), (trodAll_cons_mk (Below.trod codeTells_laidOut (by kernel_rfl) (of_decide_eq_true (by kernel_rfl)) k0 bel lt0) (trodAll_cons_mk (Below.trod codeTells_laidOut (by kernel_rfl) (of_decide_eq_true (by kernel_rfl)) k1 bel lt1) (trodAll_cons_mk (shut_string Tryz.underlying9 w2) trodAll_mk0))), rfl, bel.frame _, fun h => by cases h⟩

theorem codeTells_said : Rows.CodeTellsSaid :=
  OpenClaim.holds_of_cond 3 Tryz.f3 rfl rfl rfl rfl rfl rfl rfl ⟨rfl, rfl, rfl, rfl, rfl⟩ rfl rfl rfl rfl rfl (by kernel_rfl) Tryz.func3 (by kernel_rfl)
    (of_decide_eq_true (by kernel_rfl)) (by unfold Func.isWrapper; first | (rw [if_pos (by decide +kernel)]; kernel_rfl) | (rw [if_neg (by decide +kernel)]; exact ⟨rfl, rfl⟩))
    (fun os started H enc _ J => by rw [OpenClaim.pre_eq_preRow]; exact codeTells_lifted os started H enc J)

/-- No parameter wants a stand-in. -/
theorem codeTells_plain (f : FuncId) (fn : Func) (hf : Tryz.pinned.checked.prog.funcNamed "quiltmaker/quiltmakerlaw12.CodeTells" = some f) (hfn : Tryz.pinned.checked.prog.funcs[f]? = some fn) :
    true = Tryz.pinned.checked.prog.looks [] ∧ ∀ (j : Nat) t, fn.params[j]? = some t → Tryz.pinned.checked.prog.wantsStandIn t = false := by
  obtain rfl : f = 3 := Option.some.inj ((show Tryz.prog.funcNamed "quiltmaker/quiltmakerlaw12.CodeTells" = some 3 by kernel_rfl).symm.trans hf) |>.symm
  obtain rfl : fn = Tryz.f3 := (Option.some.inj (Tryz.func3.symm.trans hfn)).symm
  refine ⟨by kernel_rfl, fun j t ht => ?_⟩
  rw [Tryz.params3] at ht
  have hm := Array.mem_of_getElem? ht
  simp only [List.mem_toArray, List.mem_cons, List.not_mem_nil, or_false] at hm
  rcases hm with rfl | rfl | rfl
  · exact (show Tryz.prog.wantsStandIn 22 = false by kernel_rfl)
  · exact (show Tryz.prog.wantsStandIn 3 = false by kernel_rfl)
  · exact (show Tryz.prog.wantsStandIn 9 = false by kernel_rfl)

/-- The statement. -/
theorem codeTells_proved : Rows.CodeTellsCardSaid :=
  Claim7.holds_tied_plain_at .later [] _ _ _ _ codeTells_said (fun _ h => by cases h) (by kernel_rfl) (fun _ h => by cases h) codeTells_row_tie rfl ⟨rfl, rfl⟩ (by kernel_rfl) rfl codeTells_plain (by kernel_rfl)

#print axioms codeTells_proved
end Cd
end Go.Proofs.YtfihjgnafipblaaGreatDoor
