/-
  CodeGets: the changes of any bytes, or that there are none, are what the document says (walk, and the statement).
-/
import Derived.Test.YtjhjmfodpnipiaaGreatDoorGJ
import Derived.Test.YtjhjmfodpnipiaaGreatDoorFlRef
import Derived.Test.YtjhjmfodpnipiaaGreatDoorGE
set_option maxRecDepth 100000
namespace Go.Proofs.YtjhjmfodpnipiaaGreatDoor
open Go.RowKit
set_option linter.unusedVariables false
set_option linter.unusedSimpArgs false
namespace Cd
open Tx Df Sq Hk Tr Pr Fl

set_option maxRecDepth 100000 in
set_option maxHeartbeats 8000000 in
theorem codeGets_walk (A : Option Addr) (n c : Nat) (bs : List UInt8) (w : World) (hbs : BysArg w A n c bs) (hv : Vars w) :
    Calls Tryz.prog 3 #[.slice A n c] w fun e w' => e = .returned (.bool true) ∧ Below w.heap.size w w' := by
  have HV := Lib.hid hv
  have HA := Lib.hid (awake w hv)
  have HBY := Lib.hid hbs
  clear hv hbs
  go_enter Tryz.func3, Tryz.ntmps3
  go_wp2_with fail
  refine HA.out.mono ?_
  rintro e w1 ⟨rfl, hb⟩
  have HB := Lib.hid hb; replace HV := Lib.hid (HV.out.mv hb); replace HBY := Lib.hid (HBY.out.mv hb)
  clear hb HA
  by_cases h3 : 3000 < n
  · have hd : decide ((3000 : Int) < (n : Int)) = true := decide_eq_true (by omega)
    go_wp2
    go_ret
    exact ⟨rfl, HB.out⟩
  · have hd : decide ((3000 : Int) < (n : Int)) = false := decide_eq_false (by omega)
    have HN3 : Hid (n ≤ 200000) := Lib.hid (by omega)
    clear h3
    have key := Get A n c bs w1 HBY.out.len HBY.out.cap HBY.out.le HBY.out.rd HV.out
    rw [getC_eq] at key
    have HRG := Lib.hid (fun w (h : BysArg w A n c bs) => refGet A n c bs w h.len h.cap HN3.out h.rd)
    obtain ⟨o, ho⟩ : ∃ o, getP bs = o := ⟨_, rfl⟩
    have HO := Lib.hid ho
    rw [ho] at key HRG
    clear ho
    cases o with
    | none =>
      have KEY := Lib.hid key; clear key
      go_wp2_with fail
      refine KEY.out.mono ?_
      rintro e w2 ⟨rfl, hb⟩
      replace HB := Lib.hid (below_mv HB.out hb); replace HBY := Lib.hid (HBY.out.mv hb)
      clear KEY hb
      have KEY := Lib.hid (HRG.out w2 HBY.out)
      go_wp2_with fail
      refine KEY.out.mono ?_
      rintro e w3 ⟨rfl, hb⟩
      replace HB := Lib.hid (below_mv HB.out hb)
      clear KEY hb HRG
      go_wp2_with fail
      refine (refListL none 0 0 none 0 0 [] [] w3 true rfl rfl (by decide) (.inl rfl) (.inl rfl) (listP_self [])).mono ?_
      rintro e w4 ⟨rfl, hb⟩
      replace HB := Lib.hid (below_mv HB.out hb)
      clear hb
      go_wp2
      go_ret
      exact ⟨rfl, HB.out⟩
    | some l =>
      have HLE : Hid (l.length ≤ 20000) := Lib.hid (by
        obtain ⟨h1, _⟩ := putP_ok.1 (getP_iff.1 HO.out)
        omega)
      have KEY := Lib.hid key; clear key
      go_wp2_with fail
      refine KEY.out.mono ?_
      rintro e w2 ⟨A2, n2, c2, rfl, hn2, hc2, hr2, hb⟩
      replace HB := Lib.hid (below_mv HB.out hb); replace HBY := Lib.hid (HBY.out.mv hb)
      have HN2 := Lib.hid hn2; have HR2 := Lib.hid hr2
      clear KEY hb hn2 hc2 hr2
      have KEY := Lib.hid (HRG.out w2 HBY.out)
      go_wp2_with fail
      refine KEY.out.mono ?_
      rintro e w3 ⟨A5, n5, c5, rfl, hn5, hc5, hr5, hb⟩
      replace HB := Lib.hid (below_mv HB.out hb); replace HR2 := Lib.hid (HR2.out.mv hb)
      have HN5 := Lib.hid hn5; have HR5 := Lib.hid hr5
      clear KEY hb HRG hn5 hc5 hr5
      go_wp2_with fail
      refine (refListL A2 n2 c2 A5 n5 c5 l l w3 true HN2.out HN5.out (by rw [← HN2.out]; exact HLE.out) HR2.out HR5.out (listP_self l)).mono ?_
      rintro e w4 ⟨rfl, hb⟩
      replace HB := Lib.hid (below_mv HB.out hb)
      clear hb
      go_wp2
      go_ret
      exact ⟨rfl, HB.out⟩

open Go.ChangeShapes Go.WideShapes Go.ChangeAt
open Go.ChangeMaps (open_string shut_string)

theorem codeGets_laidOut : laidOutB Tryz.prog = true := by kernel_rfl
theorem codeGets_reads (os : Os) {H : Type} (enc : TypeId × Value → H) : ∃ places, DataW.whole enc Tryz.prog ((laidWorld os).forCall (fun _ _ => 0) ⟨#[], #[.slice none 0 0], []⟩).memory Tryz.f3.params.toList Rows.codeGetsSpec.vars false [.slice none 0 0] 8 = some ([.nil], [], places) :=
  ⟨[], by kernel_rfl⟩

set_option maxRecDepth 100000 in
theorem codeGets_lifted (os : Os) (started : os.Started) (H : Type) (enc : TypeId × Value → H) (J : Stop.Interp) :
    ReturnsInHanded {} Tryz.checked os 3 .any ((OpenSpec.ofChange Rows.codeGetsSpec).preRow enc Tryz.prog Tryz.f3 Rows.codeGetsRow.domain false Rows.codeGetsRow.laid) (((OpenSpec.ofChange Rows.codeGetsSpec).at J).post enc Tryz.prog Tryz.f3 false true false false) := by
  obtain ⟨places, hx⟩ := codeGets_reads os enc
  refine returnsInHanded_of_row (C := Tryz.checked) (s := OpenSpec.ofChange Rows.codeGetsSpec) own started (by kernel_rfl) Tryz.func3
    (witness_row_atRef (enc := enc) (C := Tryz.checked) false (laidWorld os) #[.slice none 0 0] rfl (by kernel_rfl) (by kernel_rfl) (by kernel_rfl)
      (OpenSpec.preRow_of_cond 8 hx (by kernel_rfl) (fun k hk => by cases hk) (by kernel_rfl) (laid_met os _))) ?_
  intro W base args ds gs before hval0 hW hcnd _ _ hL hsh _
  have hvars : Vars W := vars_of hL hsh
  have hval : ∀ (j : Nat) t v, Tryz.f3.params[j]? = some t → args[j]? = some v → Value.okWide Tryz.prog W .any base t v := hval0
  have hW' := hW
  obtain ⟨p, q, hA0, hV, rfl, hfz, hnd⟩ := hW
  have hA : DataW.TrodAll enc Tryz.prog W 0 (fun _ => true) true Tryz.f3.params.toList args.toList ds p := hA0
  rw [Tryz.params3] at hA hval
  obtain ⟨v0, vs0, d0, ds0, p0, q0, hargs, rfl, rfl, h0, r0⟩ := trodAll_cons hA
  obtain ⟨rfl, rfl, rfl⟩ := trodAll_nil r0
  obtain rfl : args = #[v0] := by cases args; simp_all
  obtain ⟨rfl, rfl⟩ := trodVars_none hV
  obtain ⟨a0, n0, c0, rfl⟩ := okWide_slice Tryz.underlying22 (hval 0 22 v0 rfl rfl)
  have k0 := h0
  have lt0 : ∀ x ∈ p0, x.block < W.heap.size := by obtain ⟨m, hm⟩ := k0; exact DataW.trod_lt m _ _ _ hm
  obtain ⟨l0, s0⟩ : ∃ l, BysArg W a0 n0 c0 l := by
    obtain ⟨fuel, hf⟩ := h0
    exact bys_in hf (by simp [Value.cells])
  clear hA0 hval0
  refine (codeGets_walk a0 n0 c0 l0 W s0 hvars).mono fun e W' ⟨he, bel⟩ => ?_
  subst he
  exact ⟨_, rfl, _, _, _, [], _, [], hW', trodAll_mk1 (shut_bool Tryz.underlying4 _), (trodAll_cons_mk (Below.trod codeGets_laidOut (by kernel_rfl) (of_decide_eq_true (by kernel_rfl)) k0 bel lt0) trodAll_mk0), rfl, bel.frame _, fun h => by cases h⟩

theorem codeGets_said : Rows.CodeGetsSaid :=
  OpenClaim.holds_of_cond 3 Tryz.f3 rfl rfl rfl rfl rfl rfl rfl ⟨rfl, rfl, rfl, rfl, rfl⟩ rfl rfl rfl rfl rfl (by kernel_rfl) Tryz.func3 (by kernel_rfl)
    (of_decide_eq_true (by kernel_rfl)) (by unfold Func.isWrapper; first | (rw [if_pos (by decide +kernel)]; kernel_rfl) | (rw [if_neg (by decide +kernel)]; exact ⟨rfl, rfl⟩))
    (fun os started H enc _ J => by rw [OpenClaim.pre_eq_preRow]; exact codeGets_lifted os started H enc J)

/-- No parameter wants a stand-in. -/
theorem codeGets_plain (f : FuncId) (fn : Func) (hf : Tryz.pinned.checked.prog.funcNamed "quiltmaker/quiltmakerlaw12.CodeGets" = some f) (hfn : Tryz.pinned.checked.prog.funcs[f]? = some fn) :
    true = Tryz.pinned.checked.prog.looks [] ∧ ∀ (j : Nat) t, fn.params[j]? = some t → Tryz.pinned.checked.prog.wantsStandIn t = false := by
  obtain rfl : f = 3 := Option.some.inj ((show Tryz.prog.funcNamed "quiltmaker/quiltmakerlaw12.CodeGets" = some 3 by kernel_rfl).symm.trans hf) |>.symm
  obtain rfl : fn = Tryz.f3 := (Option.some.inj (Tryz.func3.symm.trans hfn)).symm
  refine ⟨by kernel_rfl, fun j t ht => ?_⟩
  rw [Tryz.params3] at ht
  have hm := Array.mem_of_getElem? ht
  simp only [List.mem_toArray, List.mem_cons, List.not_mem_nil, or_false] at hm
  subst hm
  · exact (show Tryz.prog.wantsStandIn 22 = false by kernel_rfl)

/-- The statement. -/
theorem codeGets_proved : Rows.CodeGetsCardSaid :=
  Claim7.holds_tied_plain_at .later [] _ _ _ _ codeGets_said (fun _ h => by cases h) (by kernel_rfl) (fun _ h => by cases h) codeGets_row_tie rfl ⟨rfl, rfl⟩ (by kernel_rfl) rfl codeGets_plain (by kernel_rfl)

#print axioms codeGets_proved
end Cd
end Go.Proofs.YtjhjmfodpnipiaaGreatDoor
