/-
  The statement DiffLeast: for every two lists of lines and every list of edits the law returns true, and all read as they did. No conditions.
-/
import Derived.Test.YtnhhbenddjkjaaaDfLaw
import Derived.Test.YtnhhbenddjkjaaaDfOpen
namespace Go.Proofs.Ytnhhbenddjkjaaa
open Go.RowKit
set_option linter.unusedVariables false
namespace Df
open Tx Lc

set_option maxRecDepth 100000 in
set_option maxHeartbeats 4000000 in
theorem diffLeast_walk (A : Option Addr) (n c : Nat) (a : List (List UInt8)) (A1 : Option Addr) (n1 c1 : Nat) (b : List (List UInt8)) (Ae : Option Addr) (ne ce : Nat) (es : List E) (w : World) (h : StrArg w A n c a) (h1 : StrArg w A1 n1 c1 b) (he : EdArg w Ae ne ce es) :
    Calls Try.prog 6 #[.slice A n c, .slice A1 n1 c1, .slice Ae ne ce] w (LawEnd w) := by
  go_enter Try.func6, Try.ntmps6
  go_wp2_with fail
  refine (awake w).mono ?_
  rintro e w1 ⟨rfl, hB1⟩
  go_wp2_with fail
  refine (Light _ _ _ _ 60 a _ h.len h.le (h.rd.below hB1) (by decide)).mono ?_
  rintro e w' ⟨rfl, rfl⟩
  go_wp2_with fail
  refine (Light _ _ _ _ 60 b _ h1.len h1.le (h1.rd.below hB1) (by decide)).mono ?_
  rintro e w' ⟨rfl, rfl⟩
  go_wp2_with fail
  refine (Few _ _ _ _ es _ he.len he.le (he.rd.below hB1)).mono ?_
  rintro e w' ⟨rfl, rfl⟩
  cases hl : light a 60 with
  | false =>
    clear hl
    go_wp2
    go_ret
    exact ⟨rfl, hB1⟩
  | true =>
  have hn := light_len hl h.len
  clear hl
  cases hl : light b 60 with
  | false =>
    clear hl
    go_wp2
    go_ret
    exact ⟨rfl, hB1⟩
  | true =>
  have hn1 := light_len hl h1.len
  clear hl
  cases hl : few es with
  | false =>
    clear hl
    go_wp2
    go_ret
    exact ⟨rfl, hB1⟩
  | true =>
  have hfw := few_le hl
  clear hl
  obtain ⟨k, hkc, hkw, hk1, hk2⟩ := costL h h1 hn hn1
  have hcost := edits_cost a b
  rw [hkc, h.len, h1.len] at hcost
  obtain ⟨ml, hml⟩ : ∃ ml, lcs a b = ml := ⟨_, rfl⟩
  rw [hml] at hcost
  have HML := Lib.hid hml; have HKW := Lib.hid hkw; have HCO := Lib.hid hcost; clear hml hkw hkc hcost
  obtain ⟨hf1, hf2⟩ := hfw
  have hnews : news es ≤ 60 * 60 := by
    have := news_le es 60 hf2
    have h3 : es.length * 60 ≤ 60 * 60 := Nat.mul_le_mul_right 60 hf1
    omega
  rw [he.len] at hf1
  have HLEN : Hid (∀ r, appl a es = some r → r.length ≤ 1000000) := Lib.hid (fun r hr => by
    have := apl_len a es 0 true r hr (Nat.zero_le _)
    rw [h.len] at this; omega)
  have HLST : Hid (∀ r, appl a es = some r → r = b → (k : Int) ≤ cost es ∧ cost es ≤ 10000) := Lib.hid (fun r hr e => by
    subst e
    have h3 := appl_least hr
    obtain ⟨s, s1, s2, s3⟩ := apl_keeps a es 0 true r (Nat.zero_le _) hr
    have h4 := apl_len a es 0 true r hr (Nat.zero_le _)
    rw [HML.out, h.len, h1.len] at h3
    rw [h.len] at s3 h4
    have h5 := HCO.out
    constructor
    · omega
    · omega)
  go_wp2_with fail
  refine (EditsL h h1 hB1 hn hn1).mono ?_
  rintro e w2 ⟨Al, cl, rfl, hcl, hE, hb2⟩
  have hB2 := hB1.trans (hb2.mono hB1.size)
  go_wp2_with fail
  refine (Cost _ _ _ w2.heap.size _ w2 rfl (by unfold maxLen; omega) (Nat.le_refl _) hE).mono ?_
  rw [HKW.out]
  rintro e w3 ⟨rfl, hb3⟩
  have hB3 := hB2.trans (hb3.mono hB2.size)
  clear hE hb2 hb3 hcl
  go_wp2_with fail
  refine (Many A A1 c c1 n n1 w.heap.size a b w3 h.len h1.len (by omega) (by omega) hB3.size (h.rd.below hB3) (h1.rd.below hB3)).mono ?_
  rw [HML.out]
  rintro e w4 ⟨rfl, hb4⟩
  have hB4 := hB3.trans (hb4.mono hB3.size)
  have hne : ((k : Int) != (n : Int) + (n1 : Int) - 2 * (ml : Int)) = false := by simpa using HCO.out
  have hml1 : ml ≤ 60 := by have := HCO.out; omega
  go_wp2_with fail
  refine (Apply A Ae c ce n ne w.heap.size a es w4 h.len he.len h.cap (by omega) he.le hB4.size (h.rd.below hB4) (he.rd.below hB4) HLEN.out).mono ?_
  rintro e w5 ⟨v, rfl, hA, hb5⟩
  have hB5 := hB4.trans (hb5.mono hB4.size)
  obtain ⟨A3, c3, rfl, hc3, _, hrd3, _⟩ := hA
  have hrl : ((appl a es).getD []).length ≤ 1000000 := by
    cases ho : appl a es with
    | none => simp
    | some r => exact HLEN.out r ho
  clear hb4 hb5 hne
  go_wp2_with fail
  refine (Same A1 A3 c1 c3 n1 _ w5.heap.size b _ w5 h1.len rfl h1.le (Rd.up (h1.rd.below hB5) hB5.size) hrd3).mono ?_
  rintro e w6 ⟨rfl, d, rfl⟩
  have hB6 : Below w.heap.size w (w5.drewN d) := below_drewN hB5 d
  cases ho : appl a es with
  | none =>
    rw [Option.isSome_none]
    clear ho
    go_wp2
    go_ret
    exact ⟨rfl, hB6⟩
  | some r =>
    rw [Option.isSome_some, Option.getD_some]
    by_cases hbr : b = r
    · obtain ⟨q1, q2⟩ := HLST.out r ho hbr.symm
      rw [decide_eq_true hbr]
      clear ho
      go_wp2_with fail
      refine (Cost Ae ce ne w.heap.size es _ he.len he.le hB6.size (he.rd.below hB6)).mono ?_
      rw [IntWalk.wrap64_in _ (by omega)]
      rintro e w7 ⟨rfl, hb7⟩
      have hB7 := hB6.trans (hb7.mono hB6.size)
      obtain ⟨ce', hce⟩ : ∃ ce', cost es = ce' := ⟨_, rfl⟩
      rw [hce] at q1 q2 ⊢
      clear hce hb7
      go_wp2
      go_ret
      exact ⟨rfl, hB7⟩
    · rw [decide_eq_false hbr]
      clear ho hbr
      go_wp2
      go_ret
      exact ⟨rfl, hB6⟩

end Df
open Tx Df
open Go.ChangeShapes Go.WideShapes Go.ChangeAt

theorem diffLeast_own : ownKnob Try.prog.godebug = none := by kernel_rfl
theorem diffLeast_laidOut : laidOutB Try.prog = true := by kernel_rfl

set_option maxRecDepth 100000 in
theorem diffLeast_lifted (os : Os) (started : os.Started) (H : Type) (enc : TypeId × Value → H) :
    ReturnsInHanded {} Try.checked os 6 .any (Rows.diffLeastSpec.pre6 enc Try.prog Try.f6 Rows.diffLeastRow.domain false) (Rows.diffLeastSpec.post enc Try.prog Try.f6 false true false false) := by
  refine returnsInHanded_of_change (C := Try.checked) diffLeast_own started (by kernel_rfl) Try.func6
    (ChangeSpec.witness6 (enc := enc) (C := Try.checked) false ⟨#[], #[.slice none 0 0, .slice none 0 0, .slice none 0 0], []⟩ 8 (by kernel_rfl) (by kernel_rfl) (by kernel_rfl) (by kernel_rfl)) ?_
  intro W base args ds gs before hval0 hW hcnd _
  have hval : ∀ (j : Nat) t v, Try.f6.params[j]? = some t → args[j]? = some v → Value.okWide Try.prog W .any base t v := hval0
  have hW' := hW
  obtain ⟨p, q, hA0, hV, rfl, hfz, hnd⟩ := hW
  have hA : DataW.TrodAll enc Try.prog W 0 (fun _ => true) true Try.f6.params.toList args.toList ds p := hA0
  rw [Try.params6] at hA hval
  obtain ⟨v0, vs0, d0, ds0, p0, q0, hargs, rfl, rfl, h0, r0⟩ := trodAll_cons hA
  obtain ⟨v1, vs1, d1, ds1, p1, q1, rfl, rfl, rfl, h1, r1⟩ := trodAll_cons r0
  obtain ⟨v2, vs2, d2, ds2, p2, q2, rfl, rfl, rfl, h2, r2⟩ := trodAll_cons r1
  obtain ⟨rfl, rfl, rfl⟩ := trodAll_nil r2
  obtain rfl : args = #[v0, v1, v2] := by cases args; simp_all
  obtain ⟨rfl, rfl⟩ := trodVars_none hV
  obtain ⟨a0, n0, c0, rfl⟩ := okWide_slice Try.underlying22 (hval 0 22 v0 rfl rfl)
  have k0 := h0
  have lt0 : ∀ x ∈ p0, x.block < W.heap.size := by obtain ⟨m, hm⟩ := k0; exact DataW.trod_lt m _ _ _ hm
  obtain ⟨l0, s0⟩ : ∃ l, StrArg W a0 n0 c0 l := by
    obtain ⟨fuel, hf⟩ := h0
    exact strs_in hf (by simp [Value.cells])
  obtain ⟨a1, n1, c1, rfl⟩ := okWide_slice Try.underlying22 (hval 1 22 v1 rfl rfl)
  have k1 := h1
  have lt1 : ∀ x ∈ p1, x.block < W.heap.size := by obtain ⟨m, hm⟩ := k1; exact DataW.trod_lt m _ _ _ hm
  obtain ⟨l1, s1⟩ : ∃ l, StrArg W a1 n1 c1 l := by
    obtain ⟨fuel, hf⟩ := h1
    exact strs_in hf (by simp [Value.cells])
  obtain ⟨a2, n2, c2, rfl⟩ := okWide_slice Try.underlying26 (hval 2 26 v2 rfl rfl)
  have k2 := h2
  have lt2 : ∀ x ∈ p2, x.block < W.heap.size := by obtain ⟨m, hm⟩ := k2; exact DataW.trod_lt m _ _ _ hm
  obtain ⟨l2, s2⟩ : ∃ l, EdArg W a2 n2 c2 l := by
    obtain ⟨fuel, hf⟩ := h2
    exact eds_in hf (by simp [Value.cells])
  clear hA0 hval0
  refine (diffLeast_walk a0 n0 c0 l0 a1 n1 c1 l1 a2 n2 c2 l2 W s0 s1 s2).mono fun e W' ⟨he, bel⟩ => ?_
  subst he
  exact ⟨_, rfl, _, _, _, [], _, [], hW', trodAll_mk1 (shut_bool Try.underlying4 _), (trodAll_cons_mk (Below.trod diffLeast_laidOut (by kernel_rfl) (of_decide_eq_true (by kernel_rfl)) k0 bel lt0) (trodAll_cons_mk (Below.trod diffLeast_laidOut (by kernel_rfl) (of_decide_eq_true (by kernel_rfl)) k1 bel lt1) (trodAll_cons_mk (Below.trod diffLeast_laidOut (by kernel_rfl) (of_decide_eq_true (by kernel_rfl)) k2 bel lt2) trodAll_mk0))), rfl, bel.frame _, fun h => by cases h⟩

/-- The statement. -/
theorem diffLeast_proved : Rows.DiffLeastSaid :=
  OpenClaim.holds_of_wide 6 Try.f6 rfl rfl rfl rfl rfl rfl rfl ⟨rfl, rfl, rfl, rfl, rfl⟩ rfl rfl rfl rfl rfl (by kernel_rfl) Try.func6 (by kernel_rfl)
    (of_decide_eq_true (by kernel_rfl)) (by unfold Func.isWrapper; first | (rw [if_pos (by decide +kernel)]; kernel_rfl) | (rw [if_neg (by decide +kernel)]; exact ⟨rfl, rfl⟩))
    (fun os started H enc _ => diffLeast_lifted os started H enc)

#print axioms diffLeast_proved
end Go.Proofs.Ytnhhbenddjkjaaa
