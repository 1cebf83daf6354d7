/-
  The statement HunkBack: what a hunk changes it changes back, turned; turned twice it is itself.
-/
import Derived.Test.YtkpgkbllcdpobaaHkLaw
import Derived.Test.YtkpgkbllcdpobaaHkTurn
import Derived.Test.YtkpgkbllcdpobaaHkOpen
import Derived.Test.YtkpgkbllcdpobaaQSame
namespace Go.Proofs.Ytkpgkbllcdpobaa
open Go.RowKit
set_option linter.unusedVariables false
namespace Hk
open Tx Df Lc Sq

set_option maxRecDepth 100000 in
set_option maxHeartbeats 4000000 in
theorem hunkBack_walk (A : Option Addr) (n c : Nat) (a : List (List UInt8)) (A1 : Option Addr) (n1 c1 : Nat) (D1 : Option Addr) (m1 k1 : Nat) (g1 : HU) (w : World) (h : StrArg w A n c a) (v1 : HV w w.heap.size A1 n1 c1 D1 m1 k1 g1) :
    Calls Try.prog 5 #[.slice A n c, hkV g1.pos A1 n1 c1 D1 m1 k1] w (LawEnd w) := by
  go_enter Try.func5, Try.ntmps5
  go_wp2_with fail
  have hw0 : Below w.heap.size w (w.alloc (.cells #[.int .i64 g1.pos, .slice A1 n1 c1, .slice D1 m1 k1] 24)) := ((Below.refl _ _).alloc (Nat.le_refl _) _)
  have x1 := Blk.new w 24 #[.int .i64 g1.pos, .slice A1 n1 c1, .slice D1 m1 k1]
  generalize (w.alloc (.cells #[.int .i64 g1.pos, .slice A1 n1 c1, .slice D1 m1 k1] 24)) = w0 at *
  obtain ⟨gb, hgb⟩ : ∃ gb, w.heap.size = gb := ⟨_, rfl⟩
  have HGB := Lib.hid hgb
  have X1 := Lib.hid x1
  rw [hgb] at ⊢
  have b1 : Blk w0 (gb) 24 #[.int .i64 g1.pos, .slice A1 n1 c1, .slice D1 m1 k1] := by rw [← hgb]; exact x1
  clear hgb x1 X1
  refine (awake w0).mono ?_
  rintro e w1 ⟨rfl, hb1⟩
  have hB1 := hw0.trans (hb1.mono hw0.size)
  have b1 := b1.below hb1 b1.lt
  clear hw0 hb1
  go_wp2_with fail
  refine (Light _ _ _ _ 300 a _ h.len h.le (h.rd.below hB1) (by decide)).mono ?_
  rintro e w' ⟨rfl, rfl⟩
  have y01 : w1.cell? ⟨gb, 0, none⟩ = some (.int .i64 g1.pos) := b1.cell 0 rfl
  have y11 : w1.cell? ⟨gb, 1, none⟩ = some (.slice A1 n1 c1) := b1.cell 1 rfl
  have y21 : w1.cell? ⟨gb, 2, none⟩ = some (.slice D1 m1 k1) := b1.cell 2 rfl
  go_wp2_with fail
  refine (LightH A1 n1 c1 D1 m1 k1 _ g1 w1 hB1.size (v1.below hB1)).mono ?_
  rintro e w2 ⟨rfl, hb2⟩
  have hB2 := hB1.trans (hb2.mono hB1.size)
  clear y01 y11 y21
  have b1 := b1.below hb2 b1.lt
  clear hb2 hB1
  cases hl : light a 300 with
  | false =>
    clear hl
    go_wp2
    go_ret
    exact ⟨rfl, hB2⟩
  | true =>
  have hn := light_len hl h.len
  clear hl
  cases hl : (light g1.old 300 && light g1.new 300) with
  | false =>
    clear hl
    go_wp2
    go_ret
    exact ⟨rfl, hB2⟩
  | true =>
  rw [Bool.and_eq_true] at hl
  have hn1 := light_len hl.1 v1.l
  have hm1 := light_len hl.2 v1.l'
  clear hl
  have HB2 := Lib.hid hB2
  have HC : Hid (∀ W, Below w2.heap.size w2 W → W.cell? ⟨gb, 0, none⟩ = some (.int .i64 g1.pos) ∧ W.cell? ⟨gb, 1, none⟩ = some (.slice A1 n1 c1) ∧ W.cell? ⟨gb, 2, none⟩ = some (.slice D1 m1 k1)) := Lib.hid (fun W hb => by
    have b := b1.below hb b1.lt
    exact ⟨b.cell 0 rfl, b.cell 1 rfl, b.cell 2 rfl⟩)
  have HVW : Hid (∀ W, Below w2.heap.size w2 W → HV W w.heap.size A1 n1 c1 D1 m1 k1 g1) := Lib.hid (fun W hb => (v1.below HB2.out).below (hb.mono HB2.out.size))
  have HLE : Hid (∀ W, Below w2.heap.size w2 W → w.heap.size ≤ W.heap.size) := Lib.hid (fun W hb => Nat.le_trans HB2.out.size hb.size)
  have hn1' : n1 ≤ 1000 := by omega
  have hm1' : m1 ≤ 1000 := by omega
  have HSM : Hid (∀ (u : World) (P : Option Addr) (p : Nat) (Q : Option Addr) (q : Nat), HV u u.heap.size P n1 p Q m1 q (turn (turn g1)) → Below w2.heap.size w2 u → Calls Try.prog 19 #[hkV g1.pos P n1 p Q m1 q, hkV g1.pos A1 n1 c1 D1 m1 k1] u (TestEnd u true)) := Lib.hid (fun u P p Q q hv hb => by
    have := SameH P n1 p Q m1 q A1 n1 c1 D1 m1 k1 u.heap.size (turn (turn g1)) g1 u (Nat.le_refl _) hv ((HVW.out u hb).up (HLE.out u hb))
    rw [turn_turn, sameH_self] at this
    exact this)
  have HMT : Hid (∀ (u : World) (P : Option Addr) (p : Nat) (Q : Option Addr) (q : Nat), HV u u.heap.size P m1 p Q n1 q (turn g1) → Calls Try.prog 18 #[hkV g1.pos P m1 p Q n1 q] u (TestEnd u (mayH g1))) := Lib.hid (fun u P p Q q hv => by
    have := May P m1 p Q n1 q u.heap.size (turn g1) u (Nat.le_refl _) hv
    rw [mayH_turn] at this
    exact this)
  have HMA : Hid (∀ u, Below w2.heap.size w2 u → Calls Try.prog 18 #[hkV g1.pos A1 n1 c1 D1 m1 k1] u (TestEnd u (mayH g1))) := Lib.hid (fun u hb => May A1 n1 c1 D1 m1 k1 w.heap.size g1 u (HLE.out u hb) (HVW.out u hb))
  have HTU : Hid (∀ u, Below w2.heap.size w2 u → Calls Try.prog 15 #[hkV g1.pos A1 n1 c1 D1 m1 k1] u (TurnEnd u n1 m1 g1)) := Lib.hid (fun u hb => Turn A1 n1 c1 D1 m1 k1 w.heap.size g1 u (HLE.out u hb) hn1' hm1' (HVW.out u hb))
  have HTT : Hid (∀ (u : World) (P : Option Addr) (p : Nat) (Q : Option Addr) (q : Nat), HV u u.heap.size P m1 p Q n1 q (turn g1) → Calls Try.prog 15 #[hkV g1.pos P m1 p Q n1 q] u (fun e u' => ∃ P p Q q, e = .returned (hkV g1.pos P n1 p Q m1 q) ∧ HV u' u'.heap.size P n1 p Q m1 q (turn (turn g1)) ∧ Below u.heap.size u u')) := Lib.hid (fun u P p Q q hv =>
    Turn P m1 p Q n1 q u.heap.size (turn g1) u (Nat.le_refl _) hm1' hn1' hv)
  obtain ⟨y0, y1, y2⟩ := HC.out w2 (Below.refl _ _)
  have HBL := Lib.hid b1
  clear hB2 b1
  go_wp2_with fail
  go_region_held3 (fun W => W.cell? ⟨gb, 0, none⟩ = some (.int .i64 g1.pos) ∧ W.cell? ⟨gb, 1, none⟩ = some (.slice A1 n1 c1) ∧ W.cell? ⟨gb, 2, none⟩ = some (.slice D1 m1 k1))
    (first
      | go_keep
      | (exact hS1)
      | (exact hS2)
      | (exact hS3)
      | (exact hS4)
      | (exact hS5)
      | (exact hS6))
    (first
      | (go_at_call 15; (with_reducible refine (HTU.out w2.drew (below_drewN (Below.refl _ _) 1)).mono ?_); rintro e u1 ⟨P1, p1, Q1, q1, rfl, hv, hb⟩; have hbu := (below_drewN (Below.refl w2.heap.size w2) 1).trans hb; have hS1 := HC.out u1 hbu; have HU1 := Lib.hid hbu; have HV1 := Lib.hid hv; clear hb hbu hv)
      | (go_at_call 15; (with_reducible refine (HTT.out u1 P1 p1 Q1 q1 HV1.out).mono ?_); rintro e u2 ⟨P2, p2, Q2, q2, rfl, hv, hb⟩; have hbu := HU1.out.trans (hb.mono HU1.out.size); have hS2 := HC.out u2 hbu; have HU2 := Lib.hid hbu; have HV2 := Lib.hid hv; clear hb hbu hv)
      | (go_at_call 19; (with_reducible refine (HSM.out u2 P2 p2 Q2 q2 HV2.out HU2.out).mono ?_); rintro e u3 ⟨rfl, hb⟩; have hbu := HU2.out.trans (hb.mono HU2.out.size); have hS3 := HC.out u3 hbu; have HU3 := Lib.hid hbu; clear hb hbu)
      | (go_at_call 15; (with_reducible refine (HTU.out u3 HU3.out).mono ?_); rintro e u4 ⟨P4, p4, Q4, q4, rfl, hv, hb⟩; have hbu := HU3.out.trans (hb.mono HU3.out.size); have hS4 := HC.out u4 hbu; have HU4 := Lib.hid hbu; have HV4 := Lib.hid hv; clear hb hbu hv)
      | (go_at_call 18; (with_reducible refine (HMT.out u4 P4 p4 Q4 q4 HV4.out).mono ?_); rintro e u5 ⟨rfl, hb⟩; have hbu := HU4.out.trans (hb.mono HU4.out.size); have hS5 := HC.out u5 hbu; have HU5 := Lib.hid hbu; clear hb hbu)
      | (go_at_call 18; (with_reducible refine (HMA.out u5 HU5.out).mono ?_); rintro e u6 ⟨rfl, hb⟩; have hbu := HU5.out.trans (hb.mono HU5.out.size); have hS6 := HC.out u6 hbu; have HU6 := Lib.hid hbu; clear hb hbu))
  go_wp2_with fail
  have HB6 := Lib.hid (HB2.out.trans (HU6.out.mono HB2.out.size))
  refine (Apply A n c A1 n1 c1 D1 m1 k1 w.heap.size a g1 u6 HB6.out.size h.len h.cap (by omega) hn1' hm1' (h.rd.below HB6.out) (HVW.out u6 HU6.out)).mono ?_
  rintro e u7 ⟨A7, k7, c7, rfl, hc7, hl7, hr7, hb7⟩
  have HB7 := Lib.hid (HB6.out.trans (hb7.mono HB6.out.size))
  have HU7 := Lib.hid (HU6.out.trans (hb7.mono HU6.out.size))
  have hk7 : k7 ≤ 1000 := by
    have := applyL_len (l := a) (h := g1)
    rw [hl7, h.len, v1.l'] at this
    omega
  have HL7 := Lib.hid hl7; have HR7 := Lib.hid hr7
  clear y0 y1 y2 hb7 hr7
  rcases applyE_cases a g1 with ⟨he, hl, _⟩ | ⟨he, hl, _⟩ | ⟨he, _⟩
  · obtain rfl : k7 = 0 := by rw [← hl7, hl]; rfl
    clear hl hl7
    rw [he]
    clear he
    go_wp2
    go_ret
    exact ⟨rfl, HB7.out⟩
  · obtain rfl : k7 = 0 := by rw [← hl7, hl]; rfl
    clear hl hl7
    rw [he]
    clear he
    go_wp2
    go_ret
    exact ⟨rfl, HB7.out⟩
  · obtain ⟨hE, hL⟩ := apply_back he
    have HE := Lib.hid hE; have HL := Lib.hid hL
    clear hE hL hl7
    rw [he]
    clear he
    obtain ⟨y0, y1, y2⟩ := HC.out u7 HU7.out
    go_wp2_with fail
    refine (HTU.out u7 HU7.out).mono ?_
    rintro e u8 ⟨P8, p8, Q8, q8, rfl, hv8, hb8⟩
    have HB8 := Lib.hid (HB7.out.trans (hb8.mono HB7.out.size))
    have HV8 := Lib.hid hv8
    have HR8 := Lib.hid (Rd.up (Rd.below HR7.out hb8) hb8.size)
    clear hv8 hb8 y0 y1 y2
    go_wp2_with fail
    refine (Apply A7 k7 c7 P8 m1 p8 Q8 n1 q8 u8.heap.size (applyL a g1) (turn g1) u8 (Nat.le_refl _) HL7.out hc7 hk7 hm1' hn1' HR8.out HV8.out).mono ?_
    rintro e u9 ⟨A9, k9, c9, rfl, hc9, hl9, hr9, hb9⟩
    rw [HL.out] at hl9 hr9
    rw [HE.out]
    have HB9 := Lib.hid (HB8.out.trans (hb9.mono HB8.out.size))
    have HL9 := Lib.hid hl9; have HR9 := Lib.hid hr9
    clear hl9 hr9 hb9
    go_wp2_with fail
    refine (Same A A9 c c9 n k9 u9.heap.size a a u9 h.len HL9.out h.le (Rd.up (h.rd.below HB9.out) HB9.out.size) HR9.out).mono ?_
    rw [decide_eq_true rfl]
    rintro e u10 ⟨rfl, d, rfl⟩
    go_wp2
    go_ret
    exact ⟨rfl, below_drewN HB9.out d⟩

end Hk
open Tx Df Hk
open Go.ChangeShapes Go.WideShapes Go.ChangeAt

theorem hunkBack_own : ownKnob Try.prog.godebug = none := by kernel_rfl
theorem hunkBack_laidOut : laidOutB Try.prog = true := by kernel_rfl

set_option maxRecDepth 100000 in
theorem hunkBack_lifted (os : Os) (started : os.Started) (H : Type) (enc : TypeId × Value → H) :
    ReturnsInHanded {} Try.checked os 5 .any (Rows.hunkBackSpec.pre6 enc Try.prog Try.f5 Rows.hunkBackRow.domain false) (Rows.hunkBackSpec.post enc Try.prog Try.f5 false true false false) := by
  refine returnsInHanded_of_change (C := Try.checked) hunkBack_own started (by kernel_rfl) Try.func5
    (ChangeSpec.witness6 (enc := enc) (C := Try.checked) false ⟨#[], #[.slice none 0 0, .agg #[.int .i64 0, .slice none 0 0, .slice none 0 0]], []⟩ 8 (by kernel_rfl) (by kernel_rfl) (by kernel_rfl) (by kernel_rfl)) ?_
  intro W base args ds gs before hval0 hW hcnd _
  have hval : ∀ (j : Nat) t v, Try.f5.params[j]? = some t → args[j]? = some v → Value.okWide Try.prog W .any base t v := hval0
  have hW' := hW
  obtain ⟨p, q, hA0, hV, rfl, hfz, hnd⟩ := hW
  have hA : DataW.TrodAll enc Try.prog W 0 (fun _ => true) true Try.f5.params.toList args.toList ds p := hA0
  rw [Try.params5] at hA hval
  obtain ⟨v0, vs0, d0, ds0, p0, q0, hargs, rfl, rfl, h0, r0⟩ := trodAll_cons hA
  obtain ⟨v1, vs1, d1, ds1, p1, q1, rfl, rfl, rfl, h1, r1⟩ := trodAll_cons r0
  obtain ⟨rfl, rfl, rfl⟩ := trodAll_nil r1
  obtain rfl : args = #[v0, v1] := by cases args; simp_all
  obtain ⟨rfl, rfl⟩ := trodVars_none hV
  obtain ⟨a0, n0, c0, rfl⟩ := okWide_slice Try.underlying22 (hval 0 22 v0 rfl rfl)
  have k0 := h0
  have lt0 : ∀ x ∈ p0, x.block < W.heap.size := by obtain ⟨m, hm⟩ := k0; exact DataW.trod_lt m _ _ _ hm
  obtain ⟨l0, s0⟩ : ∃ l, StrArg W a0 n0 c0 l := by
    obtain ⟨fuel, hf⟩ := h0
    exact strs_in hf (by simp [Value.cells])
  have k1 := h1
  have lt1 : ∀ x ∈ p1, x.block < W.heap.size := by obtain ⟨m, hm⟩ := k1; exact DataW.trod_lt m _ _ _ hm
  obtain ⟨a1, n1, c1, b1, m1, e1, l1, rfl, s1⟩ := hunk_in (hval 1 24 v1 rfl rfl) h1
  clear hA0 hval0
  refine (hunkBack_walk a0 n0 c0 l0 a1 n1 c1 b1 m1 e1 l1 W s0 s1).mono fun e W' ⟨he, bel⟩ => ?_
  subst he
  exact ⟨_, rfl, _, _, _, [], _, [], hW', trodAll_mk1 (shut_bool Try.underlying4 _), (trodAll_cons_mk (Below.trod hunkBack_laidOut (by kernel_rfl) (of_decide_eq_true (by kernel_rfl)) k0 bel lt0) (trodAll_cons_mk (Below.trod hunkBack_laidOut (by kernel_rfl) (of_decide_eq_true (by kernel_rfl)) k1 bel lt1) trodAll_mk0)), rfl, bel.frame _, fun h => by cases h⟩

/-- The statement. -/
theorem hunkBack_proved : Rows.HunkBackSaid :=
  OpenClaim.holds_of_wide 5 Try.f5 rfl rfl rfl rfl rfl rfl rfl ⟨rfl, rfl, rfl, rfl, rfl⟩ rfl rfl rfl rfl rfl (by kernel_rfl) Try.func5 (by kernel_rfl)
    (of_decide_eq_true (by kernel_rfl)) (by unfold Func.isWrapper; first | (rw [if_pos (by decide +kernel)]; kernel_rfl) | (rw [if_neg (by decide +kernel)]; exact ⟨rfl, rfl⟩))
    (fun os started H enc _ => hunkBack_lifted os started H enc)

#print axioms hunkBack_proved
end Go.Proofs.Ytkpgkbllcdpobaa
