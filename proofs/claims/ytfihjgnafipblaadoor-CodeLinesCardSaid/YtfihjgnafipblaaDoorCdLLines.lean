/-
  CodeLines: a line for each change and for each line of its hunk, and no other one (walk, and the statement).
-/
import Derived.Test.YtfihjgnafipblaaDoorCdAwake
import Derived.Test.YtfihjgnafipblaaDoorCdFrame
import Derived.Test.YtfihjgnafipblaaDoorFlOpen
import Derived.Test.YtfihjgnafipblaaDoorFlRef
import Derived.BigQuiet
set_option maxRecDepth 100000
namespace Go.Proofs.YtfihjgnafipblaaDoor
open Go.RowKit
set_option linter.unusedVariables false
set_option linter.unusedSimpArgs false
namespace Cd
open Tx Df Sq Hk Tr Pr Fl

/-- The lines of the hunks. -/
def sumL (l : List Ch) : Nat := (l.map fun p => p.h.old.length + p.h.new.length).foldr (· + ·) 0
theorem sumL_app : ∀ (l u : List Ch), sumL (l ++ u) = sumL l + sumL u
  | [], u => by simp [sumL]
  | p :: l, u => by
    have := sumL_app l u
    simp only [sumL, List.cons_append, List.map_cons, List.foldr_cons] at this ⊢
    omega
theorem linesL_eq : ∀ (l : List Ch), linesL l = l.length + sumL l
  | [] => rfl
  | p :: l => by
    have := linesL_eq l
    simp only [linesL, sumL, List.map_cons, List.foldr_cons, List.length_cons] at this ⊢
    omega
theorem sumL_take {l : List Ch} {k : Nat} {x : Ch} (h : l[k]? = some x) : sumL (l.take (k + 1)) = sumL (l.take k) + (x.h.old.length + x.h.new.length) := by
  rw [take_at h, sumL_app]
  simp [sumL]
theorem sumL_le {l : List Ch} (h : ∀ x ∈ l, x.h.old.length ≤ 300 ∧ x.h.new.length ≤ 300) : sumL l ≤ 600 * l.length := by
  induction l with
  | nil => simp [sumL]
  | cons p l ih =>
    have h1 := ih (fun x hx => h x (.tail _ hx))
    have h2 := h p (.head _)
    simp only [sumL, List.map_cons, List.foldr_cons, List.length_cons] at h1 ⊢
    omega
theorem count_take {b : List UInt8} {k : Nat} {c : UInt8} (h : b[k]? = some c) : (b.take (k + 1)).count 10 = (b.take k).count 10 + (if c = 10 then 1 else 0) := by
  rw [take_at h, List.count_append]
  by_cases h10 : c = 10
  · rw [if_pos h10, h10]; rfl
  · rw [if_neg h10, List.count_cons_of_ne h10]; rfl
theorem few_light {l : List Ch} {k : Nat} (h : fewP l k = true) : l.length ≤ k ∧ ∀ x ∈ l, lightP x = true := by
  unfold fewP at h
  rw [Bool.and_eq_true, decide_eq_true_eq] at h
  refine ⟨h.1, fun x hx => ?_⟩
  have h1 := List.all_eq_true.1 h.2 x hx
  unfold okP at h1
  rw [Bool.and_eq_true] at h1
  exact h1.1
theorem light_h {p : Ch} (h : lightP p = true) : p.h.old.length ≤ 300 ∧ p.h.new.length ≤ 300 := by
  unfold lightP light at h
  simp only [Bool.and_eq_true, decide_eq_true_eq] at h
  exact ⟨h.1.1.1, h.1.2.1⟩

set_option maxRecDepth 100000 in
set_option maxHeartbeats 4000000 in
/-- Where it ends early. -/
theorem codeLines_none (A : Option Addr) (n c : Nat) (l : List Ch) (w : World) (h : PrsArg w A n c l) (hv : Vars w) (hno : fewP l 60 = false ∨ (putP l).1 ≠ 0) :
    Calls Tryd.prog 6 #[.slice A n c] w fun e w' => e = .returned (.bool true) ∧ Below w.heap.size w w' := by
  obtain ⟨b, hb⟩ : ∃ b, fewP l 60 = b := ⟨_, rfl⟩
  obtain ⟨er, bs, hp⟩ : ∃ er bs, putP l = (er, bs) := ⟨_, _, rfl⟩
  rw [hb, hp] at hno
  have HP := Lib.hid hp; have HF := Lib.hid hb
  have HV := Lib.hid hv
  have HA := Lib.hid (awake w hv)
  have HL := Lib.hid h
  clear hb hp hv h
  have hE : b = false ∨ ((er : Int) == 0) = false := hno.imp id (fun h => by rw [beq_eq_false_iff_ne]; exact h)
  clear hno
  go_enter Tryd.func6, Tryd.ntmps6
  go_wp2_with fail
  refine HA.out.mono ?_
  rintro e w1 ⟨rfl, hb⟩
  have HB := Lib.hid hb; replace HV := Lib.hid (HV.out.mv hb)
  have HL1 : Hid (PrsArg w1 A n c l) := Lib.hid ⟨HL.out.len, HL.out.cap, HL.out.le, HL.out.rd.mv hb⟩
  clear hb HA HL
  go_wp2_with fail
  refine (Few A n c 60 l w1 b (by decide) HL1.out HF.out).mono ?_
  rintro e w2 ⟨rfl, hb⟩
  replace HB := Lib.hid (below_mv HB.out hb); replace HV := Lib.hid (HV.out.mv hb)
  have HR : Hid (RdP w2 (· < w2.heap.size) A l) := Lib.hid (HL1.out.rd.mv hb)
  have HN := Lib.hid HL1.out.len; have HLE := Lib.hid HL1.out.le
  clear hb HL1
  go_wp2_with fail
  refine (Put A n c l w2 er bs HN.out HLE.out HR.out HV.out HP.out).mono ?_
  rintro e w3 ⟨B, m, d, rfl, hm, hd, hr, hb⟩
  replace HB := Lib.hid (below_mv HB.out hb)
  clear hm hd hr hb HR
  rcases hE with rfl | hE
  · go_wp2
    go_ret
    exact ⟨rfl, HB.out⟩
  · cases b with
    | false =>
      go_wp2
      go_ret
      exact ⟨rfl, HB.out⟩
    | true =>
      go_wp2
      go_ret
      exact ⟨rfl, HB.out⟩

set_option maxRecDepth 100000 in
set_option maxHeartbeats 8000000 in
theorem codeLines_yes (A : Option Addr) (n c : Nat) (l : List Ch) (w : World) (h : PrsArg w A n c l) (hv : Vars w) (hf : fewP l 60 = true) (hp : putP l = (0, bytesL l)) :
    Calls Tryd.prog 6 #[.slice A n c] w fun e w' => e = .returned (.bool true) ∧ Below w.heap.size w w' := by
  have HP := Lib.hid hp; have HF := Lib.hid hf
  have HV := Lib.hid hv
  have HA := Lib.hid (awake w hv)
  have HL := Lib.hid h
  have HLT := Lib.hid (few_light hf)
  clear hf hp hv h
  go_enter Tryd.func6, Tryd.ntmps6
  go_wp2_with fail
  refine HA.out.mono ?_
  rintro e w1 ⟨rfl, hb⟩
  have HB := Lib.hid hb; replace HV := Lib.hid (HV.out.mv hb)
  have HL1 : Hid (PrsArg w1 A n c l) := Lib.hid ⟨HL.out.len, HL.out.cap, HL.out.le, HL.out.rd.mv hb⟩
  clear hb HA HL
  go_wp2_with fail
  refine (Few A n c 60 l w1 true (by decide) HL1.out HF.out).mono ?_
  rintro e w2 ⟨rfl, hb⟩
  replace HB := Lib.hid (below_mv HB.out hb); replace HV := Lib.hid (HV.out.mv hb)
  have HR : Hid (RdP w2 (· < w2.heap.size) A l) := Lib.hid (HL1.out.rd.mv hb)
  have HN := Lib.hid HL1.out.len; have HLE := Lib.hid HL1.out.le
  clear hb HL1
  go_wp2_with fail
  refine (Put A n c l w2 0 (bytesL l) HN.out HLE.out HR.out HV.out HP.out).mono ?_
  rintro e w3 ⟨B, m, d, rfl, hm, hd, hr, hb⟩
  replace HB := Lib.hid (below_mv HB.out hb); replace HR : Hid (RdP w3 (· < w3.heap.size) A l) := Lib.hid (HR.out.mv hb)
  have HM := Lib.hid hm; have HD := Lib.hid hd; have HRB := Lib.hid hr
  clear hm hd hr hb HV
  have hn60 : n ≤ 60 := by rw [← HN.out]; exact HLT.out.1
  go_wp2
  go_loopw [7, 8] (fun v i wr => ∃ (k s : Nat), k ≤ n ∧ i = .int .i64 (k : Int) ∧ v = .int .i64 (s : Int) ∧ s = n + sumL (l.take k) ∧ Below w3.heap.size w3 wr) (fun _ i _ => n - (intOf i).toNat)
  case atStart => exact ⟨0, n, Nat.zero_le _, rfl, rfl, by simp [sumL], Below.refl _ _⟩
  case round =>
    obtain ⟨k, s, hk, rfl, rfl, hs, hbw⟩ := hrel
    have HS := Lib.hid hs; have HBW := Lib.hid hbw; clear hs hbw
    by_cases hlt : k < n
    · have hki : (k : Int) < (n : Int) := by omega
      obtain ⟨a, x, D, i, ci, E, j, cj, rfl, hS, hx, c0, c1, c2, c3, c4, c5, c6⟩ := ((HR.out.mv HBW.out).elem (k := k) (by rw [HN.out]; exact hlt))
      have HX := Lib.hid hx
      have hi : x.h.old.length = i := c6.l
      have hj : x.h.new.length = j := c6.l'
      have hl3 := light_h (HLT.out.2 x (List.mem_of_getElem? hx))
      rw [hi, hj] at hl3
      have hsl : s ≤ 60 + 600 * 60 := by
        have h1 := sumL_le (l := l.take k) (fun y hy => light_h (HLT.out.2 y (List.mem_of_mem_take hy)))
        have h2 : (l.take k).length ≤ 60 := by rw [List.length_take]; omega
        have h3 := HS.out
        omega
      have HI := Lib.hid hi; have HJ := Lib.hid hj
      have s1 : IntKind.i64.wrap ((s : Int) + (i : Int)) = (s : Int) + (i : Int) := IntWalk.i64_in _ (by omega)
      have s2 : IntKind.i64.wrap ((s : Int) + (i : Int) + (j : Int)) = (s : Int) + (i : Int) + (j : Int) := IntWalk.i64_in _ (by omega)
      clear c0 c1 c2 c3 c6 hx hS hi hj
      go_wp2
      go_quiet (fail)
      clear s1 s2 c4 c5
      go_wp2
      exact ⟨⟨k + 1, s + i + j, by omega, by go_num, congrArg (Value.int .i64) (by omega), by rw [sumL_take HX.out, HI.out, HJ.out, HS.out]; omega, below_drewN HBW.out _⟩, by simp [intOf]; omega⟩
    · obtain rfl : k = n := by omega
      have hs : s = linesL l := by rw [HS.out, linesL_eq, HN.out, List.take_of_length_le (Nat.le_of_eq HN.out)]
      have hct : (bytesL l).count 10 = s := by rw [hs]; exact bytesL_count (putP_ok.1 HP.out).2.1
      have HCT := Lib.hid hct
      have HBY : Hid (bytesL l = [] ∨ (bytesL l).getLast? = some 10) := Lib.hid (by
        by_cases h0 : l = []
        · exact .inl (by rw [h0]; rfl)
        · exact .inr (bytesL_last h0))
      have hm2 : m ≤ 200000 := by rw [← HM.out]; exact (putP_ok.1 HP.out).2.2.1
      generalize bytesL l = bs at HCT HBY HM HRB HP
      clear hs hct HS
      go_wp2
      go_loopw [9, 10] (fun v i W => ∃ (q t : Nat), q ≤ m ∧ i = .int .i64 (q : Int) ∧ v = .int .i64 (t : Int) ∧ t = (bs.take q).count 10 ∧ Below w3.heap.size w3 W) (fun _ i _ => m - (intOf i).toNat)
      case atStart => exact ⟨0, 0, Nat.zero_le _, rfl, rfl, rfl, HBW.out⟩
      case round =>
        obtain ⟨q, t, hq, rfl, rfl, ht, hbq⟩ := hrel
        have HT := Lib.hid ht; have HBQ := Lib.hid hbq; clear ht hbq
        have HRQ : Hid (RdB wr wr.heap.size B bs) := Lib.hid (Rd.up (Rd.below HRB.out HBQ.out) HBQ.out.size)
        by_cases hlt : q < m
        · have hqi : (q : Int) < (m : Int) := by omega
          have hql : q < (bs.map byteV).length := by rw [List.length_map, HM.out]; exact hlt
          obtain ⟨a, rfl, _, hcell⟩ := HRQ.out.at_ hql
          rw [List.getElem_map] at hcell
          have hql2 : q < bs.length := by rw [HM.out]; exact hlt
          obtain ⟨b, hb⟩ : ∃ b, bs[q] = b := ⟨_, rfl⟩
          rw [hb] at hcell
          have HX := Lib.hid (show bs[q]? = some b by rw [List.getElem?_eq_getElem hql2, hb])
          have hc : wr.cell? (a.add q) = some (.int .u8 (b.toNat : Int)) := hcell
          have hti : t ≤ 200000 := by
            have h1 := HT.out
            have h2 : (bs.take q).count 10 ≤ (bs.take q).length := List.count_le_length
            rw [List.length_take] at h2
            omega
          clear hcell hb hql hql2
          by_cases h10 : b = 10
          · subst h10
            have e10 : ((10 : UInt8).toNat : Int) = 10 := rfl
            rw [e10] at hc
            go_wp2
            exact ⟨⟨q + 1, t + 1, by omega, by go_num, by go_num, by rw [count_take HX.out, if_pos rfl, HT.out], HBQ.out⟩, by simp [intOf]; omega⟩
          · have hne : ((b.toNat : Int) == 10) = false := by
              rw [beq_eq_false_iff_ne]
              intro h
              have h1 : b.toNat = 10 := by omega
              exact h10 (UInt8.toNat_inj.1 h1)
            go_wp2
            exact ⟨⟨q + 1, t, by omega, by go_num, rfl, by rw [count_take HX.out, if_neg h10, HT.out]; rfl, HBQ.out⟩, by simp [intOf]; omega⟩
        · obtain rfl : q = m := by omega
          have ht : t = s := by rw [HT.out, List.take_of_length_le (Nat.le_of_eq HM.out), HCT.out]
          subst ht
          have hbw : Below w.heap.size w wr := below_mv HB.out HBQ.out
          have HBW2 := Lib.hid hbw; clear hbw
          cases q with
          | zero =>
            go_wp2
            go_ret
            exact ⟨rfl, HBW2.out⟩
          | succ j =>
            have hjl : j < (bs.map byteV).length := by rw [List.length_map, HM.out]; exact Nat.lt_succ_self j
            obtain ⟨a, rfl, _, hcell⟩ := HRQ.out.at_ hjl
            rw [List.getElem_map] at hcell
            have hl : bs[j]'(by rw [HM.out]; exact Nat.lt_succ_self j) = 10 := by
              rcases HBY.out with h | h
              · have h1 := HM.out; rw [h] at h1; simp at h1
              · rw [List.getLast?_eq_getElem?, HM.out, Nat.add_sub_cancel] at h
                rw [List.getElem?_eq_getElem (by rw [HM.out]; exact Nat.lt_succ_self j)] at h
                injection h
            rw [hl] at hcell
            have hc : wr.cell? (a.add j) = some (.int .u8 10) := hcell
            have hj0 : ((((j + 1 : Nat) : Int)) == 0) = false := by rw [beq_eq_false_iff_ne]; omega
            have s1 : IntKind.i64.wrap (((j + 1 : Nat) : Int) - 1) = (j : Int) := by rw [IntWalk.i64_in _ (by omega)]; omega
            clear hcell hl hjl
            go_wp2
            go_ret
            exact ⟨rfl, HBW2.out⟩

theorem codeLines_walk (A : Option Addr) (n c : Nat) (l : List Ch) (w : World) (h : PrsArg w A n c l) (hv : Vars w) :
    Calls Tryd.prog 6 #[.slice A n c] w fun e w' => e = .returned (.bool true) ∧ Below w.heap.size w w' := by
  by_cases hf : fewP l 60 = true
  · by_cases h0 : (putP l).1 = 0
    · have hp : putP l = (0, (putP l).2) := Prod.ext h0 rfl
      have e := (putP_ok.1 hp).2.2.2
      exact codeLines_yes A n c l w h hv hf (hp.trans (by rw [e]))
    · exact codeLines_none A n c l w h hv (.inr h0)
  · exact codeLines_none A n c l w h hv (.inl (by simpa using hf))

open Go.ChangeShapes Go.WideShapes Go.ChangeAt
open Go.ChangeMaps (open_string shut_string)

theorem codeLines_laidOut : laidOutB Tryd.prog = true := by kernel_rfl
theorem codeLines_reads (os : Os) {H : Type} (enc : TypeId × Value → H) : ∃ places, DataW.whole enc Tryd.prog ((laidWorld os).forCall (fun _ _ => 0) ⟨#[], #[.slice none 0 0], []⟩).memory Tryd.f6.params.toList Rows.codeLinesSpec.vars false [.slice none 0 0] 8 = some ([.nil], [], places) :=
  ⟨[], by kernel_rfl⟩

set_option maxRecDepth 100000 in
theorem codeLines_lifted (os : Os) (started : os.Started) (H : Type) (enc : TypeId × Value → H) (J : Stop.Interp) :
    ReturnsInHanded {} Tryd.checked os 6 .any ((OpenSpec.ofChange Rows.codeLinesSpec).preRow enc Tryd.prog Tryd.f6 Rows.codeLinesRow.domain false Rows.codeLinesRow.laid) (((OpenSpec.ofChange Rows.codeLinesSpec).at J).post enc Tryd.prog Tryd.f6 false true false false) := by
  obtain ⟨places, hx⟩ := codeLines_reads os enc
  refine returnsInHanded_of_row (C := Tryd.checked) (s := OpenSpec.ofChange Rows.codeLinesSpec) own started (by kernel_rfl) Tryd.func6
    (witness_row_atRef (enc := enc) (C := Tryd.checked) false (laidWorld os) #[.slice none 0 0] rfl (by kernel_rfl) (by kernel_rfl) (by kernel_rfl)
      (OpenSpec.preRow_of_cond 8 hx (by kernel_rfl) (fun k hk => by cases hk) (by kernel_rfl) (laid_met os _))) ?_
  intro W base args ds gs before hval0 hW hcnd _ _ hL hsh _
  have hvars : Vars W := vars_of hL hsh
  have hval : ∀ (j : Nat) t v, Tryd.f6.params[j]? = some t → args[j]? = some v → Value.okWide Tryd.prog W .any base t v := hval0
  have hW' := hW
  obtain ⟨p, q, hA0, hV, rfl, hfz, hnd⟩ := hW
  have hA : DataW.TrodAll enc Tryd.prog W 0 (fun _ => true) true Tryd.f6.params.toList args.toList ds p := hA0
  rw [Tryd.params6] at hA hval
  obtain ⟨v0, vs0, d0, ds0, p0, q0, hargs, rfl, rfl, h0, r0⟩ := trodAll_cons hA
  obtain ⟨rfl, rfl, rfl⟩ := trodAll_nil r0
  obtain rfl : args = #[v0] := by cases args; simp_all
  obtain ⟨rfl, rfl⟩ := trodVars_none hV
  obtain ⟨a0, n0, c0, rfl⟩ := okWide_slice Tryd.underlying22 (hval 0 22 v0 rfl rfl)
  have k0 := h0
  have lt0 : ∀ x ∈ p0, x.block < W.heap.size := by obtain ⟨m, hm⟩ := k0; exact DataW.trod_lt m _ _ _ hm
  obtain ⟨l0, s0⟩ : ∃ l, PrsArg W a0 n0 c0 l := by
    obtain ⟨fuel, hf⟩ := h0
    exact prs_in hf (by simp [Value.cells])
  clear hA0 hval0
  refine (codeLines_walk a0 n0 c0 l0 W s0 hvars).mono fun e W' ⟨he, bel⟩ => ?_
  subst he
  exact ⟨_, rfl, _, _, _, [], _, [], hW', trodAll_mk1 (shut_bool Tryd.underlying4 _), (trodAll_cons_mk (Below.trod codeLines_laidOut (by kernel_rfl) (of_decide_eq_true (by kernel_rfl)) k0 bel lt0) trodAll_mk0), rfl, bel.frame _, fun h => by cases h⟩

theorem codeLines_said : Rows.CodeLinesSaid :=
  OpenClaim.holds_of_cond 6 Tryd.f6 rfl rfl rfl rfl rfl rfl rfl ⟨rfl, rfl, rfl, rfl, rfl⟩ rfl rfl rfl rfl rfl (by kernel_rfl) Tryd.func6 (by kernel_rfl)
    (of_decide_eq_true (by kernel_rfl)) (by unfold Func.isWrapper; first | (rw [if_pos (by decide +kernel)]; kernel_rfl) | (rw [if_neg (by decide +kernel)]; exact ⟨rfl, rfl⟩))
    (fun os started H enc _ J => by rw [OpenClaim.pre_eq_preRow]; exact codeLines_lifted os started H enc J)

/-- No parameter wants a stand-in. -/
theorem codeLines_plain (f : FuncId) (fn : Func) (hf : Tryd.pinned.checked.prog.funcNamed "quiltmaker/quiltmakerlaw12.CodeLines" = some f) (hfn : Tryd.pinned.checked.prog.funcs[f]? = some fn) :
    true = Tryd.pinned.checked.prog.looks [] ∧ ∀ (j : Nat) t, fn.params[j]? = some t → Tryd.pinned.checked.prog.wantsStandIn t = false := by
  obtain rfl : f = 6 := Option.some.inj ((show Tryd.prog.funcNamed "quiltmaker/quiltmakerlaw12.CodeLines" = some 6 by kernel_rfl).symm.trans hf) |>.symm
  obtain rfl : fn = Tryd.f6 := (Option.some.inj (Tryd.func6.symm.trans hfn)).symm
  refine ⟨by kernel_rfl, fun j t ht => ?_⟩
  rw [Tryd.params6] at ht
  have hm := Array.mem_of_getElem? ht
  simp only [List.mem_toArray, List.mem_cons, List.not_mem_nil, or_false] at hm
  subst hm
  · exact (show Tryd.prog.wantsStandIn 22 = false by kernel_rfl)

/-- The statement. -/
theorem codeLines_proved : Rows.CodeLinesCardSaid :=
  Claim7.holds_tied_plain_at .later [] _ _ _ _ codeLines_said (fun _ h => by cases h) (by kernel_rfl) (fun _ h => by cases h) codeLines_row_tie rfl ⟨rfl, rfl⟩ (by kernel_rfl) rfl codeLines_plain (by kernel_rfl)

#print axioms codeLines_proved
end Cd
end Go.Proofs.YtfihjgnafipblaaDoor
