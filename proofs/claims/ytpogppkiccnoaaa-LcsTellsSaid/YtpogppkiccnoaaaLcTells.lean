/-
  The statement LcsTells: for every two lists of lines the law returns true, and both read as they did. No conditions.
-/
import Derived.Test.YtpogppkiccnoaaaLcLaw
import Derived.Test.YtpogppkiccnoaaaLcCells
import Derived.Test.YtpogppkiccnoaaaLcRefs
namespace Go.Proofs.Ytpogppkiccnoaaa
open Go.RowKit
set_option linter.unusedVariables false
namespace Lc
open Tx
attribute [local go_sem] eq_pair

/-- Where the pairs of a list are read. -/
def PRd (w : World) (A : Option Addr) (l : List (Nat × Nat)) : Prop := ∀ i (hi : i < l.length), ∃ g, A = some ⟨g, 0, none⟩ ∧ g < w.heap.size ∧ w.cell? ⟨g, i * 2, none⟩ = some (.int .i64 (l[i].1 : Int)) ∧ w.cell? ⟨g, i * 2 + 1, none⟩ = some (.int .i64 (l[i].2 : Int))
theorem PRd.below {w w' : World} {A : Option Addr} {l : List (Nat × Nat)} (h : PRd w A l) (hb : Below w.heap.size w w') : PRd w' A l := fun i hi => by
  obtain ⟨g, h1, h2, h3, h4⟩ := h i hi
  exact ⟨g, h1, Nat.lt_of_lt_of_le h2 hb.size, (hb.cell (p := ⟨g, i * 2, none⟩) h2).trans h3, (hb.cell (p := ⟨g, i * 2 + 1, none⟩) h2).trans h4⟩

set_option maxRecDepth 100000 in
set_option maxHeartbeats 1000000 in
theorem refSame (A A' : Option Addr) (c c' n : Nat) (l : List (Nat × Nat)) (w : World) (hn : l.length = n) (hle : n ≤ 1000) (h : PRd w A l) (h' : PRd w A' l) :
    Calls Try.prog 11 #[.slice A n c, .slice A' n c'] w fun e w' => e = .returned (.bool true) ∧ ∃ d, w' = w.drewN d := by
  have HN := Lib.hid hn; clear hn
  go_enter Try.func11, Try.ntmps11
  go_wp2
  go_loopw [5] (fun v5 wr => ∃ i : Nat, i ≤ n ∧ v5 = .int .i64 (i : Int) ∧ ∃ d, wr = w.drewN d) (fun v5 _ => n - (intOf v5).toNat)
  case atStart => exact ⟨0, Nat.zero_le _, rfl, 0, rfl⟩
  case round =>
    obtain ⟨i, hi, rfl, d, rfl⟩ := hrel
    by_cases hlt : i < n
    · have hil : i < l.length := by rw [HN.out]; exact hlt
      obtain ⟨g, rfl, _, c0, c1⟩ := h i hil
      obtain ⟨g', rfl, _, d0, d1⟩ := h' i hil
      generalize l[i].1 = p0 at *
      generalize l[i].2 = p1 at *
      have hki : (i : Int) < (n : Int) := by omega
      go_wp2
      go_quiet (fail)
      go_wp2
      go_roundw
      case rel => exact ⟨i + 1, by omega, by go_num, _, rfl⟩
      case measure => simp [intOf]; omega
    · obtain rfl : i = n := by omega
      go_wp2
      go_ret
      exact ⟨rfl, _, rfl⟩

set_option maxRecDepth 100000 in
set_option maxHeartbeats 4000000 in
theorem lcsTells_walk (A : Option Addr) (n c : Nat) (a : List (List UInt8)) (A1 : Option Addr) (n1 c1 : Nat) (b : List (List UInt8)) (w : World) (h : StrArg w A n c a) (h1 : StrArg w A1 n1 c1 b) :
    Calls Try.prog 3 #[.slice A n c, .slice A1 n1 c1] w (LawEnd w) := by
  go_enter Try.func3, Try.ntmps3
  go_wp2_with fail
  refine (awake w).mono ?_
  rintro e w1 ⟨rfl, hB1⟩
  go_wp2_with fail
  refine (Light _ _ _ _ 60 a _ h.len h.le (h.rd.below hB1) (by decide)).mono ?_
  rintro e w' ⟨rfl, rfl⟩
  go_wp2_with fail
  refine (Light _ _ _ _ 60 b _ h1.len h1.le (h1.rd.below hB1) (by decide)).mono ?_
  rintro e w' ⟨rfl, rfl⟩
  cases hl : light a 60 with
  | false =>
    clear hl
    go_wp2
    go_ret
    exact ⟨rfl, hB1⟩
  | true =>
  have hn := light_len hl h.len
  clear hl
  cases hl : light b 60 with
  | false =>
    clear hl
    go_wp2
    go_ret
    exact ⟨rfl, hB1⟩
  | true =>
  have hn1 := light_len hl h1.len
  clear hl
  have hn' : n ≤ 1000 := by omega
  have hn1' : n1 ≤ 1000 := by omega
  have hpl := pairs_len a b
  have hle := (lcs_le a b).1
  rw [h.len, ← hpl] at hle
  clear hpl
  obtain ⟨nl, hnl⟩ : ∃ nl, (pairs a b).length = nl := ⟨_, rfl⟩
  rw [hnl] at hle
  have HNL := Lib.hid hnl; clear hnl
  go_wp2_with fail
  refine (Pairs A A1 c c1 n n1 w.heap.size a b w1 h.len h1.len h.cap hn' hn1' hB1.size (h.rd.below hB1) (h1.rd.below hB1)).mono ?_
  rintro e w2 ⟨v2, rfl, hrow2, hb2⟩
  have hB2 := hB1.trans (hb2.mono hB1.size)
  rw [HNL.out] at hrow2
  obtain ⟨Ap, cp, rfl, hcp⟩ := pairs_cells hrow2 HNL.out
  have HP2 := Lib.hid (show PRd w2 Ap (pairs a b) from hcp)
  clear hcp hrow2 hb2
  go_wp2_with fail
  refine (refPairs A A1 c c1 n n1 w.heap.size a b w2 h.len h1.len hn' hn1' hB2.size (h.rd.below hB2) (h1.rd.below hB2)).mono ?_
  rintro e w3 ⟨v3, rfl, hrow3, hb3⟩
  have hB3 := hB2.trans (hb3.mono hB2.size)
  rw [HNL.out] at hrow3
  obtain ⟨Aq, cq, rfl, hcq⟩ := pairs_cells hrow3 HNL.out
  have HP3 := Lib.hid (show PRd w3 Aq (pairs a b) from hcq)
  have HP23 := Lib.hid (PRd.below HP2.out hb3)
  clear hcq hrow3 hb3
  go_wp2_with fail
  refine (refSame Ap Aq cp cq nl (pairs a b) w3 HNL.out (by omega) HP23.out HP3.out).mono ?_
  rintro e w' ⟨rfl, d, rfl⟩
  have hB4 : Below w.heap.size w (w3.drewN d) := below_drewN hB3 d
  generalize w3.drewN d = w4 at *
  clear HP2 HP3 HP23
  go_wp2_with fail
  refine (Many A A1 c c1 n n1 w.heap.size a b w4 h.len h1.len hn' hn1' hB4.size (h.rd.below hB4) (h1.rd.below hB4)).mono ?_
  generalize hk : lcs a b = k at *
  have HK := Lib.hid hk; clear hk
  rintro e w5 ⟨rfl, hb5⟩
  have hB5 := hB4.trans (hb5.mono hB4.size)
  go_wp2_with fail
  refine (refMany A A1 c c1 n n1 w.heap.size a b w5 h.len h1.len hn' hn1' hB5.size (h.rd.below hB5) (h1.rd.below hB5)).mono ?_
  rw [HK.out]
  rintro e w6 ⟨rfl, hb6⟩
  have hB6 := hB5.trans (hb6.mono hB5.size)
  clear hb5 hb6
  go_wp2
  go_ret
  exact ⟨rfl, hB6⟩

end Lc
open Tx Lc
open Go.ChangeShapes Go.WideShapes Go.ChangeAt

theorem lcsTells_own : ownKnob Try.prog.godebug = none := by kernel_rfl
theorem lcsTells_laidOut : laidOutB Try.prog = true := by kernel_rfl

set_option maxRecDepth 100000 in
theorem lcsTells_lifted (os : Os) (started : os.Started) (H : Type) (enc : TypeId × Value → H) :
    ReturnsInHanded {} Try.checked os 3 .any (Rows.lcsTellsSpec.pre6 enc Try.prog Try.f3 Rows.lcsTellsRow.domain false) (Rows.lcsTellsSpec.post enc Try.prog Try.f3 false true false false) := by
  refine returnsInHanded_of_change (C := Try.checked) lcsTells_own started (by kernel_rfl) Try.func3
    (ChangeSpec.witness6 (enc := enc) (C := Try.checked) false ⟨#[], #[.slice none 0 0, .slice none 0 0], []⟩ 8 (by kernel_rfl) (by kernel_rfl) (by kernel_rfl) (by kernel_rfl)) ?_
  intro W base args ds gs before hval0 hW hcnd _
  have hval : ∀ (j : Nat) t v, Try.f3.params[j]? = some t → args[j]? = some v → Value.okWide Try.prog W .any base t v := hval0
  have hW' := hW
  obtain ⟨p, q, hA0, hV, rfl, hfz, hnd⟩ := hW
  have hA : DataW.TrodAll enc Try.prog W 0 (fun _ => true) true Try.f3.params.toList args.toList ds p := hA0
  rw [Try.params3] at hA hval
  obtain ⟨v0, vs0, d0, ds0, p0, q0, hargs, rfl, rfl, h0, r0⟩ := trodAll_cons hA
  obtain ⟨v1, vs1, d1, ds1, p1, q1, rfl, rfl, rfl, h1, r1⟩ := trodAll_cons r0
  obtain ⟨rfl, rfl, rfl⟩ := trodAll_nil r1
  obtain rfl : args = #[v0, v1] := by cases args; simp_all
  obtain ⟨rfl, rfl⟩ := trodVars_none hV
  obtain ⟨a0, n0, c0, rfl⟩ := okWide_slice Try.underlying22 (hval 0 22 v0 rfl rfl)
  have k0 := h0
  have lt0 : ∀ x ∈ p0, x.block < W.heap.size := by obtain ⟨m, hm⟩ := k0; exact DataW.trod_lt m _ _ _ hm
  obtain ⟨l0, s0⟩ : ∃ l, StrArg W a0 n0 c0 l := by
    obtain ⟨fuel, hf⟩ := h0
    exact strs_in hf (by simp [Value.cells])
  obtain ⟨a1, n1, c1, rfl⟩ := okWide_slice Try.underlying22 (hval 1 22 v1 rfl rfl)
  have k1 := h1
  have lt1 : ∀ x ∈ p1, x.block < W.heap.size := by obtain ⟨m, hm⟩ := k1; exact DataW.trod_lt m _ _ _ hm
  obtain ⟨l1, s1⟩ : ∃ l, StrArg W a1 n1 c1 l := by
    obtain ⟨fuel, hf⟩ := h1
    exact strs_in hf (by simp [Value.cells])
  clear hA0 hval0
  refine (lcsTells_walk a0 n0 c0 l0 a1 n1 c1 l1 W s0 s1).mono fun e W' ⟨he, bel⟩ => ?_
  subst he
  exact ⟨_, rfl, _, _, _, [], _, [], hW', trodAll_mk1 (shut_bool Try.underlying4 _), (trodAll_cons_mk (Below.trod lcsTells_laidOut (by kernel_rfl) (of_decide_eq_true (by kernel_rfl)) k0 bel lt0) (trodAll_cons_mk (Below.trod lcsTells_laidOut (by kernel_rfl) (of_decide_eq_true (by kernel_rfl)) k1 bel lt1) trodAll_mk0)), rfl, bel.frame _, fun h => by cases h⟩

/-- The statement. -/
theorem lcsTells_proved : Rows.LcsTellsSaid :=
  OpenClaim.holds_of_wide 3 Try.f3 rfl rfl rfl rfl rfl rfl rfl ⟨rfl, rfl, rfl, rfl, rfl⟩ rfl rfl rfl rfl rfl (by kernel_rfl) Try.func3 (by kernel_rfl)
    (of_decide_eq_true (by kernel_rfl)) (by unfold Func.isWrapper; first | (rw [if_pos (by decide +kernel)]; kernel_rfl) | (rw [if_neg (by decide +kernel)]; exact ⟨rfl, rfl⟩))
    (fun os started H enc _ => lcsTells_lifted os started H enc)

#print axioms lcsTells_proved
end Go.Proofs.Ytpogppkiccnoaaa
