/-
  The statement DiffGives: for every two lists of lines the law returns true, and both read as they did. No conditions.
-/
import Derived.Test.YtnhhbenddjkjaaaDfLaw
namespace Go.Proofs.Ytnhhbenddjkjaaa
open Go.RowKit
set_option linter.unusedVariables false
namespace Df
open Tx Lc

set_option maxRecDepth 100000 in
set_option maxHeartbeats 4000000 in
theorem diffGives_walk (A : Option Addr) (n c : Nat) (a : List (List UInt8)) (A1 : Option Addr) (n1 c1 : Nat) (b : List (List UInt8)) (w : World) (h : StrArg w A n c a) (h1 : StrArg w A1 n1 c1 b) :
    Calls Try.prog 5 #[.slice A n c, .slice A1 n1 c1] w (LawEnd w) := by
  go_enter Try.func5, Try.ntmps5
  go_wp2_with fail
  refine (awake w).mono ?_
  rintro e w1 ⟨rfl, hB1⟩
  go_wp2_with fail
  refine (Light _ _ _ _ 60 a _ h.len h.le (h.rd.below hB1) (by decide)).mono ?_
  rintro e w' ⟨rfl, rfl⟩
  go_wp2_with fail
  refine (Light _ _ _ _ 60 b _ h1.len h1.le (h1.rd.below hB1) (by decide)).mono ?_
  rintro e w' ⟨rfl, rfl⟩
  cases hl : light a 60 with
  | false =>
    clear hl
    go_wp2
    go_ret
    exact ⟨rfl, hB1⟩
  | true =>
  have hn := light_len hl h.len
  clear hl
  cases hl : light b 60 with
  | false =>
    clear hl
    go_wp2
    go_ret
    exact ⟨rfl, hB1⟩
  | true =>
  have hn1 := light_len hl h1.len
  clear hl
  have happ := edits_appl a b
  have hnone := edits_none a b
  obtain ⟨k, _, _, hk1, hk2⟩ := costL h h1 hn hn1
  go_wp2_with fail
  refine (EditsL h h1 hB1 hn hn1).mono ?_
  generalize edits a b = es at *
  rintro e w2 ⟨Al, cl, rfl, hcl, hE, hb2⟩
  have hB2 := hB1.trans (hb2.mono hB1.size)
  obtain ⟨ne, hne⟩ : ∃ ne, es.length = ne := ⟨_, rfl⟩
  rw [hne] at hk2 hcl hnone ⊢
  have HNE := Lib.hid hne; clear hne
  have HAP := Lib.hid happ; clear happ
  have HNO := Lib.hid hnone; clear hnone
  go_wp2_with fail
  refine (Apply A Al c cl n ne w2.heap.size a es w2 h.len HNE.out h.cap (by omega) (by unfold maxLen; omega) (Nat.le_refl _) (Rd.up (h.rd.below hB2) hB2.size) hE (fun r hr => by rw [HAP.out] at hr; injection hr with hr; rw [← hr, h1.len]; omega)).mono ?_
  rw [HAP.out]
  rintro e w3 ⟨v, rfl, hA, hb3⟩
  rw [Option.getD_some, h1.len] at hA
  obtain ⟨A3, c3, rfl, hc3, _, hrd3, _⟩ := hA
  have hB3 := hB2.trans (hb3.mono hB2.size)
  clear hE hb2 hb3
  go_wp2_with fail
  refine (Same A1 A3 c1 c3 n1 n1 w3.heap.size b b w3 h1.len h1.len h1.le (Rd.up (h1.rd.below hB3) hB3.size) hrd3).mono ?_
  rw [decide_eq_true (rfl : b = b)]
  rintro e w4 ⟨rfl, d, rfl⟩
  go_wp2_with fail
  refine (Same A A1 c c1 n n1 w.heap.size a b _ h.len h1.len h.le (Rd.drewN (h.rd.below hB3) _) (Rd.drewN (h1.rd.below hB3) _)).mono ?_
  rintro e w5 ⟨rfl, d', rfl⟩
  by_cases hab : a = b
  · have hz : ne = 0 := HNO.out.2 hab
    rw [decide_eq_true hab]
    subst hz
    clear hab HNO
    go_wp2
    go_ret
    exact ⟨rfl, below_drewN hB3 _⟩
  · have hz : ne ≠ 0 := fun e => hab (HNO.out.1 e)
    rw [decide_eq_false hab]
    have hz' : ((ne : Int) == 0) = false := by simpa using hz
    clear hab HNO hz
    go_wp2
    go_ret
    exact ⟨rfl, below_drewN hB3 _⟩

end Df
open Tx Df
open Go.ChangeShapes Go.WideShapes Go.ChangeAt

theorem diffGives_own : ownKnob Try.prog.godebug = none := by kernel_rfl
theorem diffGives_laidOut : laidOutB Try.prog = true := by kernel_rfl

set_option maxRecDepth 100000 in
theorem diffGives_lifted (os : Os) (started : os.Started) (H : Type) (enc : TypeId × Value → H) :
    ReturnsInHanded {} Try.checked os 5 .any (Rows.diffGivesSpec.pre6 enc Try.prog Try.f5 Rows.diffGivesRow.domain false) (Rows.diffGivesSpec.post enc Try.prog Try.f5 false true false false) := by
  refine returnsInHanded_of_change (C := Try.checked) diffGives_own started (by kernel_rfl) Try.func5
    (ChangeSpec.witness6 (enc := enc) (C := Try.checked) false ⟨#[], #[.slice none 0 0, .slice none 0 0], []⟩ 8 (by kernel_rfl) (by kernel_rfl) (by kernel_rfl) (by kernel_rfl)) ?_
  intro W base args ds gs before hval0 hW hcnd _
  have hval : ∀ (j : Nat) t v, Try.f5.params[j]? = some t → args[j]? = some v → Value.okWide Try.prog W .any base t v := hval0
  have hW' := hW
  obtain ⟨p, q, hA0, hV, rfl, hfz, hnd⟩ := hW
  have hA : DataW.TrodAll enc Try.prog W 0 (fun _ => true) true Try.f5.params.toList args.toList ds p := hA0
  rw [Try.params5] at hA hval
  obtain ⟨v0, vs0, d0, ds0, p0, q0, hargs, rfl, rfl, h0, r0⟩ := trodAll_cons hA
  obtain ⟨v1, vs1, d1, ds1, p1, q1, rfl, rfl, rfl, h1, r1⟩ := trodAll_cons r0
  obtain ⟨rfl, rfl, rfl⟩ := trodAll_nil r1
  obtain rfl : args = #[v0, v1] := by cases args; simp_all
  obtain ⟨rfl, rfl⟩ := trodVars_none hV
  obtain ⟨a0, n0, c0, rfl⟩ := okWide_slice Try.underlying22 (hval 0 22 v0 rfl rfl)
  have k0 := h0
  have lt0 : ∀ x ∈ p0, x.block < W.heap.size := by obtain ⟨m, hm⟩ := k0; exact DataW.trod_lt m _ _ _ hm
  obtain ⟨l0, s0⟩ : ∃ l, StrArg W a0 n0 c0 l := by
    obtain ⟨fuel, hf⟩ := h0
    exact strs_in hf (by simp [Value.cells])
  obtain ⟨a1, n1, c1, rfl⟩ := okWide_slice Try.underlying22 (hval 1 22 v1 rfl rfl)
  have k1 := h1
  have lt1 : ∀ x ∈ p1, x.block < W.heap.size := by obtain ⟨m, hm⟩ := k1; exact DataW.trod_lt m _ _ _ hm
  obtain ⟨l1, s1⟩ : ∃ l, StrArg W a1 n1 c1 l := by
    obtain ⟨fuel, hf⟩ := h1
    exact strs_in hf (by simp [Value.cells])
  clear hA0 hval0
  refine (diffGives_walk a0 n0 c0 l0 a1 n1 c1 l1 W s0 s1).mono fun e W' ⟨he, bel⟩ => ?_
  subst he
  exact ⟨_, rfl, _, _, _, [], _, [], hW', trodAll_mk1 (shut_bool Try.underlying4 _), (trodAll_cons_mk (Below.trod diffGives_laidOut (by kernel_rfl) (of_decide_eq_true (by kernel_rfl)) k0 bel lt0) (trodAll_cons_mk (Below.trod diffGives_laidOut (by kernel_rfl) (of_decide_eq_true (by kernel_rfl)) k1 bel lt1) trodAll_mk0)), rfl, bel.frame _, fun h => by cases h⟩

/-- The statement. -/
theorem diffGives_proved : Rows.DiffGivesSaid :=
  OpenClaim.holds_of_wide 5 Try.f5 rfl rfl rfl rfl rfl rfl rfl ⟨rfl, rfl, rfl, rfl, rfl⟩ rfl rfl rfl rfl rfl (by kernel_rfl) Try.func5 (by kernel_rfl)
    (of_decide_eq_true (by kernel_rfl)) (by unfold Func.isWrapper; first | (rw [if_pos (by decide +kernel)]; kernel_rfl) | (rw [if_neg (by decide +kernel)]; exact ⟨rfl, rfl⟩))
    (fun os started H enc _ => diffGives_lifted os started H enc)

#print axioms diffGives_proved
end Go.Proofs.Ytnhhbenddjkjaaa
