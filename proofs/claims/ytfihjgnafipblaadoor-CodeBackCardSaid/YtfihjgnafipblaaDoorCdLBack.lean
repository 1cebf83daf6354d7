/-
  CodeBack: what is put is got; what is got is put as the same bytes, and may be (walk, and the statement).
-/
import Derived.Test.YtfihjgnafipblaaDoorCdAwake
import Derived.Test.YtfihjgnafipblaaDoorCdFrame
import Derived.Test.YtfihjgnafipblaaDoorCdOpen
import Derived.Test.YtfihjgnafipblaaDoorFlOpen
import Derived.Test.YtfihjgnafipblaaDoorFlRef
set_option maxRecDepth 100000
namespace Go.Proofs.YtfihjgnafipblaaDoor
open Go.RowKit
set_option linter.unusedVariables false
set_option linter.unusedSimpArgs false
namespace Cd
open Tx Df Sq Hk Tr Pr Fl

theorem few_len {l : List Ch} {k : Nat} (h : fewP l k = true) : l.length ≤ k := by
  unfold fewP at h
  rw [Bool.and_eq_true, decide_eq_true_eq] at h
  exact h.1

set_option maxRecDepth 100000 in
set_option maxHeartbeats 8000000 in
theorem codeBack_walk (A : Option Addr) (n c : Nat) (l : List Ch) (B' : Option Addr) (n' c' : Nat) (bs : List UInt8) (w : World) (h : PrsArg w A n c l) (hbs : BysArg w B' n' c' bs) (hv : Vars w) :
    Calls Tryd.prog 3 #[.slice A n c, .slice B' n' c'] w fun e w' => e = .returned (.bool true) ∧ Below w.heap.size w w' := by
  obtain ⟨b, hb⟩ : ∃ b, fewP l 60 = b := ⟨_, rfl⟩
  obtain ⟨er, x, hp⟩ : ∃ er x, putP l = (er, x) := ⟨_, _, rfl⟩
  have HP := Lib.hid hp; have HF := Lib.hid hb
  have HV := Lib.hid hv
  have HA := Lib.hid (awake w hv)
  have HL := Lib.hid h; have HBY := Lib.hid hbs
  clear hb hp hv h hbs
  go_enter Tryd.func3, Tryd.ntmps3
  go_wp2_with fail
  refine HA.out.mono ?_
  rintro e w1 ⟨rfl, hb⟩
  have HB := Lib.hid hb; replace HV := Lib.hid (HV.out.mv hb); replace HBY := Lib.hid (HBY.out.mv hb)
  have HL1 : Hid (PrsArg w1 A n c l) := Lib.hid ⟨HL.out.len, HL.out.cap, HL.out.le, HL.out.rd.mv hb⟩
  clear hb HA HL
  go_wp2_with fail
  refine (Few A n c 60 l w1 b (by decide) HL1.out HF.out).mono ?_
  rintro e w2 ⟨rfl, hb⟩
  replace HB := Lib.hid (below_mv HB.out hb); replace HV := Lib.hid (HV.out.mv hb); replace HBY := Lib.hid (HBY.out.mv hb)
  have HR : Hid (RdP w2 (· < w2.heap.size) A l) := Lib.hid (HL1.out.rd.mv hb)
  have HN := Lib.hid HL1.out.len; have HLE := Lib.hid HL1.out.le
  clear hb HL1
  cases b with
  | false =>
    go_wp2
    go_ret
    exact ⟨rfl, HB.out⟩
  | true =>
    by_cases h3 : 3000 < n'
    · have hd : decide ((3000 : Int) < (n' : Int)) = true := decide_eq_true (by omega)
      go_wp2
      go_ret
      exact ⟨rfl, HB.out⟩
    · have hd : decide ((3000 : Int) < (n' : Int)) = false := decide_eq_false (by omega)
      have hn60 : Hid (n ≤ 60) := Lib.hid (by rw [← HN.out]; exact few_len HF.out)
      clear h3
      go_wp2_with fail
      refine (Put A n c l w2 er x HN.out HLE.out HR.out HV.out HP.out).mono ?_
      rintro e w3 ⟨B, m, d, rfl, hm, hd3, hr, hb⟩
      replace HB := Lib.hid (below_mv HB.out hb); replace HV := Lib.hid (HV.out.mv hb); replace HBY := Lib.hid (HBY.out.mv hb); replace HR : Hid (RdP w3 (· < w3.heap.size) A l) := Lib.hid (HR.out.mv hb)
      have HM := Lib.hid hm; have HD := Lib.hid hd3; have HRX := Lib.hid hr
      clear hm hd3 hr hb
      by_cases h0 : er = 0
      · subst h0
        obtain ⟨_, _, hx, _⟩ := putP_ok.1 HP.out
        have hgx : getC x = some l := by rw [getC_eq]; exact getP_iff.2 HP.out
        have key := Get B m d x w3 HM.out HD.out (by rw [← HM.out]; exact Nat.le_trans hx (by decide)) HRX.out HV.out
        rw [hgx] at key
        have KEY := Lib.hid key; clear key hgx hx
        go_wp2_with fail
        refine KEY.out.mono ?_
        rintro e w4 ⟨A4, n4, c4, rfl, hn4, hc4, hr4, hb⟩
        have HN4 := Lib.hid hn4; have HR4 := Lib.hid hr4
        replace HB := Lib.hid (below_mv HB.out hb); replace HV := Lib.hid (HV.out.mv hb); replace HBY := Lib.hid (HBY.out.mv hb); replace HR : Hid (RdP w4 (· < w4.heap.size) A l) := Lib.hid (HR.out.mv hb)
        clear KEY hn4 hc4 hr4 hb HRX HM HD
        go_wp2_with fail
        refine (SameL A n c A4 n4 c4 l l w4 true HN.out HN4.out (Nat.le_trans hn60.out (by decide)) HR.out HR4.out (listP_self l)).mono ?_
        rintro e w5 ⟨rfl, hb⟩
        replace HB := Lib.hid (below_mv HB.out hb); replace HV := Lib.hid (HV.out.mv hb); replace HBY := Lib.hid (HBY.out.mv hb)
        clear hb HR HR4 HN4 HN
        have key := Get B' n' c' bs w5 HBY.out.len HBY.out.cap HBY.out.le HBY.out.rd HV.out
        rw [getC_eq] at key
        cases hg : getP bs with
        | none =>
          rw [hg] at key
          have KEY := Lib.hid key; clear key hg
          go_wp2_with fail
          refine KEY.out.mono ?_
          rintro e w6 ⟨rfl, hb⟩
          replace HB := Lib.hid (below_mv HB.out hb); clear KEY hb
          go_wp2
          go_ret
          exact ⟨rfl, HB.out⟩
        | some m =>
          have hpm : putP m = (0, bs) := getP_iff.1 hg
          obtain ⟨hm1, hm2, hm3, hm4⟩ := putP_ok.1 hpm
          rw [hg] at key
          have KEY := Lib.hid key; have HPM := Lib.hid hpm; have HM1 := Lib.hid hm1; have HM2 := Lib.hid hm2
          clear key hg hpm hm1 hm2 hm3 hm4
          go_wp2_with fail
          refine KEY.out.mono ?_
          rintro e w6 ⟨A6, n6, c6, rfl, hn6, hc6, hr6, hb⟩
          have HN6 := Lib.hid hn6; have HR6 := Lib.hid hr6
          replace HB := Lib.hid (below_mv HB.out hb); replace HV := Lib.hid (HV.out.mv hb); replace HBY := Lib.hid (HBY.out.mv hb)
          clear KEY hn6 hc6 hr6 hb
          have HL6 : Hid (n6 ≤ 200) := Lib.hid (by rw [← HN6.out]; exact HM1.out)
          go_wp2_with fail
          refine (Put A6 n6 c6 m w6 0 bs HN6.out (Nat.le_trans HL6.out (by decide)) HR6.out HV.out HPM.out).mono ?_
          rintro e w7 ⟨B7, n7, d7, rfl, hn7, hd7, hr7, hb⟩
          obtain rfl : n' = n7 := HBY.out.len.symm.trans hn7
          have HR7 := Lib.hid hr7
          replace HB := Lib.hid (below_mv HB.out hb); replace HBY := Lib.hid (HBY.out.mv hb); replace HR6 : Hid (RdP w7 (· < w7.heap.size) A6 m) := Lib.hid (HR6.out.mv hb)
          clear hn7 hd7 hr7 hb HV
          go_wp2_with fail
          refine (MayL A6 n6 c6 m w7 true HN6.out (Nat.le_trans HL6.out (by decide)) HR6.out HM2.out).mono ?_
          rintro e w8 ⟨rfl, hb⟩
          replace HB := Lib.hid (below_mv HB.out hb); replace HBY := Lib.hid (HBY.out.mv hb); replace HR7 : Hid (RdB w8 w8.heap.size B7 bs) := Lib.hid (Rd.up (Rd.below HR7.out hb) hb.size)
          clear hb HR6
          have hcv1 := run_conv (P := Tryd.prog) HR7.out 23 9 5 d7 Tryd.underlying23 Tryd.underlying5 Tryd.underlying9
          have hcv2 := run_conv (P := Tryd.prog) HBY.out.rd 23 9 5 c' Tryd.underlying23 Tryd.underlying5 Tryd.underlying9
          rw [HBY.out.len] at hcv1 hcv2
          go_wp2
          go_ret
          exact ⟨rfl, HB.out⟩
      · have hE : ((er : Int) == 0) = false := by rw [beq_eq_false_iff_ne]; exact h0
        clear h0 HR HRX HM HD HN
        have key := Get B' n' c' bs w3 HBY.out.len HBY.out.cap HBY.out.le HBY.out.rd HV.out
        rw [getC_eq] at key
        cases hg : getP bs with
        | none =>
          rw [hg] at key
          have KEY := Lib.hid key; clear key hg
          go_wp2_with fail
          refine KEY.out.mono ?_
          rintro e w6 ⟨rfl, hb⟩
          replace HB := Lib.hid (below_mv HB.out hb); clear KEY hb
          go_wp2
          go_ret
          exact ⟨rfl, HB.out⟩
        | some m =>
          have hpm : putP m = (0, bs) := getP_iff.1 hg
          obtain ⟨hm1, hm2, hm3, hm4⟩ := putP_ok.1 hpm
          rw [hg] at key
          have KEY := Lib.hid key; have HPM := Lib.hid hpm; have HM1 := Lib.hid hm1; have HM2 := Lib.hid hm2
          clear key hg hpm hm1 hm2 hm3 hm4
          go_wp2_with fail
          refine KEY.out.mono ?_
          rintro e w6 ⟨A6, n6, c6, rfl, hn6, hc6, hr6, hb⟩
          have HN6 := Lib.hid hn6; have HR6 := Lib.hid hr6
          replace HB := Lib.hid (below_mv HB.out hb); replace HV := Lib.hid (HV.out.mv hb); replace HBY := Lib.hid (HBY.out.mv hb)
          clear KEY hn6 hc6 hr6 hb
          have HL6 : Hid (n6 ≤ 200) := Lib.hid (by rw [← HN6.out]; exact HM1.out)
          go_wp2_with fail
          refine (Put A6 n6 c6 m w6 0 bs HN6.out (Nat.le_trans HL6.out (by decide)) HR6.out HV.out HPM.out).mono ?_
          rintro e w7 ⟨B7, n7, d7, rfl, hn7, hd7, hr7, hb⟩
          obtain rfl : n' = n7 := HBY.out.len.symm.trans hn7
          have HR7 := Lib.hid hr7
          replace HB := Lib.hid (below_mv HB.out hb); replace HBY := Lib.hid (HBY.out.mv hb); replace HR6 : Hid (RdP w7 (· < w7.heap.size) A6 m) := Lib.hid (HR6.out.mv hb)
          clear hn7 hd7 hr7 hb HV
          go_wp2_with fail
          refine (MayL A6 n6 c6 m w7 true HN6.out (Nat.le_trans HL6.out (by decide)) HR6.out HM2.out).mono ?_
          rintro e w8 ⟨rfl, hb⟩
          replace HB := Lib.hid (below_mv HB.out hb); replace HBY := Lib.hid (HBY.out.mv hb); replace HR7 : Hid (RdB w8 w8.heap.size B7 bs) := Lib.hid (Rd.up (Rd.below HR7.out hb) hb.size)
          clear hb HR6
          have hcv1 := run_conv (P := Tryd.prog) HR7.out 23 9 5 d7 Tryd.underlying23 Tryd.underlying5 Tryd.underlying9
          have hcv2 := run_conv (P := Tryd.prog) HBY.out.rd 23 9 5 c' Tryd.underlying23 Tryd.underlying5 Tryd.underlying9
          rw [HBY.out.len] at hcv1 hcv2
          go_wp2
          go_ret
          exact ⟨rfl, HB.out⟩

open Go.ChangeShapes Go.WideShapes Go.ChangeAt
open Go.ChangeMaps (open_string shut_string)

theorem codeBack_laidOut : laidOutB Tryd.prog = true := by kernel_rfl
theorem codeBack_reads (os : Os) {H : Type} (enc : TypeId × Value → H) : ∃ places, DataW.whole enc Tryd.prog ((laidWorld os).forCall (fun _ _ => 0) ⟨#[], #[.slice none 0 0, .slice none 0 0], []⟩).memory Tryd.f3.params.toList Rows.codeBackSpec.vars false [.slice none 0 0, .slice none 0 0] 8 = some ([.nil, .nil], [], places) :=
  ⟨[], by kernel_rfl⟩

set_option maxRecDepth 100000 in
theorem codeBack_lifted (os : Os) (started : os.Started) (H : Type) (enc : TypeId × Value → H) (J : Stop.Interp) :
    ReturnsInHanded {} Tryd.checked os 3 .any ((OpenSpec.ofChange Rows.codeBackSpec).preRow enc Tryd.prog Tryd.f3 Rows.codeBackRow.domain false Rows.codeBackRow.laid) (((OpenSpec.ofChange Rows.codeBackSpec).at J).post enc Tryd.prog Tryd.f3 false true false false) := by
  obtain ⟨places, hx⟩ := codeBack_reads os enc
  refine returnsInHanded_of_row (C := Tryd.checked) (s := OpenSpec.ofChange Rows.codeBackSpec) own started (by kernel_rfl) Tryd.func3
    (witness_row_atRef (enc := enc) (C := Tryd.checked) false (laidWorld os) #[.slice none 0 0, .slice none 0 0] rfl (by kernel_rfl) (by kernel_rfl) (by kernel_rfl)
      (OpenSpec.preRow_of_cond 8 hx (by kernel_rfl) (fun k hk => by cases hk) (by kernel_rfl) (laid_met os _))) ?_
  intro W base args ds gs before hval0 hW hcnd _ _ hL hsh _
  have hvars : Vars W := vars_of hL hsh
  have hval : ∀ (j : Nat) t v, Tryd.f3.params[j]? = some t → args[j]? = some v → Value.okWide Tryd.prog W .any base t v := hval0
  have hW' := hW
  obtain ⟨p, q, hA0, hV, rfl, hfz, hnd⟩ := hW
  have hA : DataW.TrodAll enc Tryd.prog W 0 (fun _ => true) true Tryd.f3.params.toList args.toList ds p := hA0
  rw [Tryd.params3] at hA hval
  obtain ⟨v0, vs0, d0, ds0, p0, q0, hargs, rfl, rfl, h0, r0⟩ := trodAll_cons hA
  obtain ⟨v1, vs1, d1, ds1, p1, q1, rfl, rfl, rfl, h1, r1⟩ := trodAll_cons r0
  obtain ⟨rfl, rfl, rfl⟩ := trodAll_nil r1
  obtain rfl : args = #[v0, v1] := by cases args; simp_all
  obtain ⟨rfl, rfl⟩ := trodVars_none hV
  obtain ⟨a0, n0, c0, rfl⟩ := okWide_slice Tryd.underlying22 (hval 0 22 v0 rfl rfl)
  have k0 := h0
  have lt0 : ∀ x ∈ p0, x.block < W.heap.size := by obtain ⟨m, hm⟩ := k0; exact DataW.trod_lt m _ _ _ hm
  obtain ⟨l0, s0⟩ : ∃ l, PrsArg W a0 n0 c0 l := by
    obtain ⟨fuel, hf⟩ := h0
    exact prs_in hf (by simp [Value.cells])
  obtain ⟨a1, n1, c1, rfl⟩ := okWide_slice Tryd.underlying23 (hval 1 23 v1 rfl rfl)
  have k1 := h1
  have lt1 : ∀ x ∈ p1, x.block < W.heap.size := by obtain ⟨m, hm⟩ := k1; exact DataW.trod_lt m _ _ _ hm
  obtain ⟨l1, s1⟩ : ∃ l, BysArg W a1 n1 c1 l := by
    obtain ⟨fuel, hf⟩ := h1
    exact bys_in hf (by simp [Value.cells])
  clear hA0 hval0
  refine (codeBack_walk a0 n0 c0 l0 a1 n1 c1 l1 W s0 s1 hvars).mono fun e W' ⟨he, bel⟩ => ?_
  subst he
  exact ⟨_, rfl, _, _, _, [], _, [], hW', trodAll_mk1 (shut_bool Tryd.underlying4 _), (trodAll_cons_mk (Below.trod codeBack_laidOut (by kernel_rfl) (of_decide_eq_true (by kernel_rfl)) k0 bel lt0) (trodAll_cons_mk (Below.trod codeBack_laidOut (by kernel_rfl) (of_decide_eq_true (by kernel_rfl)) k1 bel lt1) trodAll_mk0)), rfl, bel.frame _, fun h => by cases h⟩

theorem codeBack_said : Rows.CodeBackSaid :=
  OpenClaim.holds_of_cond 3 Tryd.f3 rfl rfl rfl rfl rfl rfl rfl ⟨rfl, rfl, rfl, rfl, rfl⟩ rfl rfl rfl rfl rfl (by kernel_rfl) Tryd.func3 (by kernel_rfl)
    (of_decide_eq_true (by kernel_rfl)) (by unfold Func.isWrapper; first | (rw [if_pos (by decide +kernel)]; kernel_rfl) | (rw [if_neg (by decide +kernel)]; exact ⟨rfl, rfl⟩))
    (fun os started H enc _ J => by rw [OpenClaim.pre_eq_preRow]; exact codeBack_lifted os started H enc J)

/-- No parameter wants a stand-in. -/
theorem codeBack_plain (f : FuncId) (fn : Func) (hf : Tryd.pinned.checked.prog.funcNamed "quiltmaker/quiltmakerlaw12.CodeBack" = some f) (hfn : Tryd.pinned.checked.prog.funcs[f]? = some fn) :
    true = Tryd.pinned.checked.prog.looks [] ∧ ∀ (j : Nat) t, fn.params[j]? = some t → Tryd.pinned.checked.prog.wantsStandIn t = false := by
  obtain rfl : f = 3 := Option.some.inj ((show Tryd.prog.funcNamed "quiltmaker/quiltmakerlaw12.CodeBack" = some 3 by kernel_rfl).symm.trans hf) |>.symm
  obtain rfl : fn = Tryd.f3 := (Option.some.inj (Tryd.func3.symm.trans hfn)).symm
  refine ⟨by kernel_rfl, fun j t ht => ?_⟩
  rw [Tryd.params3] at ht
  have hm := Array.mem_of_getElem? ht
  simp only [List.mem_toArray, List.mem_cons, List.not_mem_nil, or_false] at hm
  rcases hm with rfl | rfl
  · exact (show Tryd.prog.wantsStandIn 22 = false by kernel_rfl)
  · exact (show Tryd.prog.wantsStandIn 23 = false by kernel_rfl)

/-- The statement. -/
theorem codeBack_proved : Rows.CodeBackCardSaid :=
  Claim7.holds_tied_plain_at .later [] _ _ _ _ codeBack_said (fun _ h => by cases h) (by kernel_rfl) (fun _ h => by cases h) codeBack_row_tie rfl ⟨rfl, rfl⟩ (by kernel_rfl) rfl codeBack_plain (by kernel_rfl)

#print axioms codeBack_proved
end Cd
end Go.Proofs.YtfihjgnafipblaaDoor
