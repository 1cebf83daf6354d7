/-
  The statement HunkOf: the hunks from any list to any other one are what the document says.
-/
import Derived.Test.YtkpgkbllcdpobaaHkLaw
import Derived.Test.YtkpgkbllcdpobaaHkRefOf
import Derived.Test.YtkpgkbllcdpobaaHkRefList
import Derived.Test.YtkpgkbllcdpobaaHkOpen
namespace Go.Proofs.Ytkpgkbllcdpobaa
open Go.RowKit
set_option linter.unusedVariables false
namespace Hk
open Tx Df Lc Sq

set_option maxRecDepth 100000 in
set_option maxHeartbeats 4000000 in
theorem hunkOf_walk (A : Option Addr) (n c : Nat) (a : List (List UInt8)) (A1 : Option Addr) (n1 c1 : Nat) (a1 : List (List UInt8)) (w : World) (h : StrArg w A n c a) (h1 : StrArg w A1 n1 c1 a1) :
    Calls Try.prog 4 #[.slice A n c, .slice A1 n1 c1] w (LawEnd w) := by
  go_enter Try.func4, Try.ntmps4
  go_wp2_with fail
  refine (awake w).mono ?_
  rintro e w1 ⟨rfl, hB1⟩
  go_wp2_with fail
  refine (Light _ _ _ _ 60 a _ h.len h.le (h.rd.below hB1) (by decide)).mono ?_
  rintro e w' ⟨rfl, rfl⟩
  go_wp2_with fail
  refine (Light _ _ _ _ 60 a1 _ h1.len h1.le (h1.rd.below hB1) (by decide)).mono ?_
  rintro e w' ⟨rfl, rfl⟩
  cases hl : light a 60 with
  | false =>
    clear hl
    go_wp2
    go_ret
    exact ⟨rfl, hB1⟩
  | true =>
  have hn := light_len hl h.len
  clear hl
  cases hl : light a1 60 with
  | false =>
    clear hl
    go_wp2
    go_ret
    exact ⟨rfl, hB1⟩
  | true =>
  have hn1 := light_len hl h1.len
  clear hl
  have HB1 := Lib.hid hB1
  clear hB1
  go_wp2_with fail
  refine (Of A A1 c c1 n n1 w.heap.size a a1 w1 h.len h1.len h.cap h1.cap (by omega) (by omega) HB1.out.size (h.rd.below HB1.out) (h1.rd.below HB1.out)).mono ?_
  have hNle : (hks a 0 (edits a a1)).length ≤ 120 := by
    rw [hks_len]
    have := edits_len_le a a1
    rw [h.len, h1.len] at this
    omega
  have HRO := Lib.hid (fun (W : World) (hb : Below w.heap.size w W) => refOf A A1 c c1 n n1 w.heap.size a a1 W h.len h1.len h.cap h1.cap (by omega) (by omega) hb.size (h.rd.below hb) (h1.rd.below hb))
  generalize hks a 0 (edits a a1) = hs at *
  obtain ⟨N, hN⟩ : ∃ N, hs.length = N := ⟨_, rfl⟩
  rw [hN] at hNle
  rintro e w2 ⟨A5, c5, rfl, hc5, hH, hb2⟩
  rw [hN] at hc5 ⊢
  have HB2 := Lib.hid (HB1.out.trans (hb2.mono HB1.out.size))
  have HH := Lib.hid hH; have HN := Lib.hid hN
  clear hH hb2 hN
  go_wp2_with fail
  refine (HRO.out w2 HB2.out).mono ?_
  rintro e w3 ⟨A6, c6, rfl, hc6, hH6, hb3⟩
  rw [HN.out] at hc6 ⊢
  have HB3 := Lib.hid (HB2.out.trans (hb3.mono HB2.out.size))
  have HH5 := Lib.hid ((HH.out.below hb3).up hb3.size)
  have HH6 := Lib.hid hH6
  have hN63 : N ≤ maxLen := by unfold maxLen; omega
  clear hH6 hb3
  go_wp2_with fail
  refine (refList A5 A6 c5 c6 N w3.heap.size hs w3 HN.out hN63 (Nat.le_refl _) HH5.out HH6.out).mono ?_
  rintro e w4 ⟨rfl, hb4⟩
  have HB4 := Lib.hid (HB3.out.trans (hb4.mono HB3.out.size))
  clear hb4
  go_wp2
  go_ret
  exact ⟨rfl, HB4.out⟩

end Hk
open Tx Df Hk
open Go.ChangeShapes Go.WideShapes Go.ChangeAt

theorem hunkOf_own : ownKnob Try.prog.godebug = none := by kernel_rfl
theorem hunkOf_laidOut : laidOutB Try.prog = true := by kernel_rfl

set_option maxRecDepth 100000 in
theorem hunkOf_lifted (os : Os) (started : os.Started) (H : Type) (enc : TypeId × Value → H) :
    ReturnsInHanded {} Try.checked os 4 .any (Rows.hunkOfSpec.pre6 enc Try.prog Try.f4 Rows.hunkOfRow.domain false) (Rows.hunkOfSpec.post enc Try.prog Try.f4 false true false false) := by
  refine returnsInHanded_of_change (C := Try.checked) hunkOf_own started (by kernel_rfl) Try.func4
    (ChangeSpec.witness6 (enc := enc) (C := Try.checked) false ⟨#[], #[.slice none 0 0, .slice none 0 0], []⟩ 8 (by kernel_rfl) (by kernel_rfl) (by kernel_rfl) (by kernel_rfl)) ?_
  intro W base args ds gs before hval0 hW hcnd _
  have hval : ∀ (j : Nat) t v, Try.f4.params[j]? = some t → args[j]? = some v → Value.okWide Try.prog W .any base t v := hval0
  have hW' := hW
  obtain ⟨p, q, hA0, hV, rfl, hfz, hnd⟩ := hW
  have hA : DataW.TrodAll enc Try.prog W 0 (fun _ => true) true Try.f4.params.toList args.toList ds p := hA0
  rw [Try.params4] at hA hval
  obtain ⟨v0, vs0, d0, ds0, p0, q0, hargs, rfl, rfl, h0, r0⟩ := trodAll_cons hA
  obtain ⟨v1, vs1, d1, ds1, p1, q1, rfl, rfl, rfl, h1, r1⟩ := trodAll_cons r0
  obtain ⟨rfl, rfl, rfl⟩ := trodAll_nil r1
  obtain rfl : args = #[v0, v1] := by cases args; simp_all
  obtain ⟨rfl, rfl⟩ := trodVars_none hV
  obtain ⟨a0, n0, c0, rfl⟩ := okWide_slice Try.underlying22 (hval 0 22 v0 rfl rfl)
  have k0 := h0
  have lt0 : ∀ x ∈ p0, x.block < W.heap.size := by obtain ⟨m, hm⟩ := k0; exact DataW.trod_lt m _ _ _ hm
  obtain ⟨l0, s0⟩ : ∃ l, StrArg W a0 n0 c0 l := by
    obtain ⟨fuel, hf⟩ := h0
    exact strs_in hf (by simp [Value.cells])
  obtain ⟨a1, n1, c1, rfl⟩ := okWide_slice Try.underlying22 (hval 1 22 v1 rfl rfl)
  have k1 := h1
  have lt1 : ∀ x ∈ p1, x.block < W.heap.size := by obtain ⟨m, hm⟩ := k1; exact DataW.trod_lt m _ _ _ hm
  obtain ⟨l1, s1⟩ : ∃ l, StrArg W a1 n1 c1 l := by
    obtain ⟨fuel, hf⟩ := h1
    exact strs_in hf (by simp [Value.cells])
  clear hA0 hval0
  refine (hunkOf_walk a0 n0 c0 l0 a1 n1 c1 l1 W s0 s1).mono fun e W' ⟨he, bel⟩ => ?_
  subst he
  exact ⟨_, rfl, _, _, _, [], _, [], hW', trodAll_mk1 (shut_bool Try.underlying4 _), (trodAll_cons_mk (Below.trod hunkOf_laidOut (by kernel_rfl) (of_decide_eq_true (by kernel_rfl)) k0 bel lt0) (trodAll_cons_mk (Below.trod hunkOf_laidOut (by kernel_rfl) (of_decide_eq_true (by kernel_rfl)) k1 bel lt1) trodAll_mk0)), rfl, bel.frame _, fun h => by cases h⟩

/-- The statement. -/
theorem hunkOf_proved : Rows.HunkOfSaid :=
  OpenClaim.holds_of_wide 4 Try.f4 rfl rfl rfl rfl rfl rfl rfl ⟨rfl, rfl, rfl, rfl, rfl⟩ rfl rfl rfl rfl rfl (by kernel_rfl) Try.func4 (by kernel_rfl)
    (of_decide_eq_true (by kernel_rfl)) (by unfold Func.isWrapper; first | (rw [if_pos (by decide +kernel)]; kernel_rfl) | (rw [if_neg (by decide +kernel)]; exact ⟨rfl, rfl⟩))
    (fun os started H enc _ => hunkOf_lifted os started H enc)

#print axioms hunkOf_proved
end Go.Proofs.Ytkpgkbllcdpobaa
