/-
  The statement HunkTells: whether any hunk may be, what any list becomes by it, how it is turned, and whether two are the same, is what the document says.
-/
import Derived.Test.YtkpgkbllcdpobaaHkLaw
import Derived.Test.YtkpgkbllcdpobaaHkRef
import Derived.Test.YtkpgkbllcdpobaaHkTurn
import Derived.Test.YtkpgkbllcdpobaaHkOpen
import Derived.Test.YtkpgkbllcdpobaaQSame
namespace Go.Proofs.Ytkpgkbllcdpobaa
open Go.RowKit
set_option linter.unusedVariables false
namespace Hk
open Tx Df Lc Sq

set_option maxRecDepth 100000 in
set_option maxHeartbeats 4000000 in
theorem hunkTells_walk (A : Option Addr) (n c : Nat) (a : List (List UInt8)) (A1 : Option Addr) (n1 c1 : Nat) (D1 : Option Addr) (m1 k1 : Nat) (g1 : HU) (A2 : Option Addr) (n2 c2 : Nat) (D2 : Option Addr) (m2 k2 : Nat) (g2 : HU) (w : World) (h : StrArg w A n c a) (v1 : HV w w.heap.size A1 n1 c1 D1 m1 k1 g1) (v2 : HV w w.heap.size A2 n2 c2 D2 m2 k2 g2) :
    Calls Try.prog 3 #[.slice A n c, hkV g1.pos A1 n1 c1 D1 m1 k1, hkV g2.pos A2 n2 c2 D2 m2 k2] w (LawEnd w) := by
  go_enter Try.func3, Try.ntmps3
  go_wp2_with fail
  have hw0 : Below w.heap.size w ((w.alloc (.cells #[.int .i64 g1.pos, .slice A1 n1 c1, .slice D1 m1 k1] 24)).alloc (.cells #[.int .i64 g2.pos, .slice A2 n2 c2, .slice D2 m2 k2] 24)) := (((Below.refl _ _).alloc (Nat.le_refl _) _).alloc (by simp) _)
  have x1 := (Blk.new w 24 #[.int .i64 g1.pos, .slice A1 n1 c1, .slice D1 m1 k1]).alloc (.cells #[.int .i64 g2.pos, .slice A2 n2 c2, .slice D2 m2 k2] 24)
  have x2 := Blk.new (w.alloc (.cells #[.int .i64 g1.pos, .slice A1 n1 c1, .slice D1 m1 k1] 24)) 24 #[.int .i64 g2.pos, .slice A2 n2 c2, .slice D2 m2 k2]
  simp only [World.size_alloc] at x2
  generalize ((w.alloc (.cells #[.int .i64 g1.pos, .slice A1 n1 c1, .slice D1 m1 k1] 24)).alloc (.cells #[.int .i64 g2.pos, .slice A2 n2 c2, .slice D2 m2 k2] 24)) = w0 at *
  obtain ⟨gb, hgb⟩ : ∃ gb, w.heap.size = gb := ⟨_, rfl⟩
  have HGB := Lib.hid hgb
  have X1 := Lib.hid x1
  have X2 := Lib.hid x2
  rw [hgb] at ⊢
  have b1 : Blk w0 (gb) 24 #[.int .i64 g1.pos, .slice A1 n1 c1, .slice D1 m1 k1] := by rw [← hgb]; exact x1
  have b2 : Blk w0 (gb + 1) 24 #[.int .i64 g2.pos, .slice A2 n2 c2, .slice D2 m2 k2] := by rw [← hgb]; exact x2
  clear hgb x1 X1 x2 X2
  refine (awake w0).mono ?_
  rintro e w1 ⟨rfl, hb1⟩
  have hB1 := hw0.trans (hb1.mono hw0.size)
  have b1 := b1.below hb1 b1.lt
  have b2 := b2.below hb1 b2.lt
  clear hw0 hb1
  go_wp2_with fail
  refine (Light _ _ _ _ 300 a _ h.len h.le (h.rd.below hB1) (by decide)).mono ?_
  rintro e w' ⟨rfl, rfl⟩
  have y01 : w1.cell? ⟨gb, 0, none⟩ = some (.int .i64 g1.pos) := b1.cell 0 rfl
  have y11 : w1.cell? ⟨gb, 1, none⟩ = some (.slice A1 n1 c1) := b1.cell 1 rfl
  have y21 : w1.cell? ⟨gb, 2, none⟩ = some (.slice D1 m1 k1) := b1.cell 2 rfl
  go_wp2_with fail
  refine (LightH A1 n1 c1 D1 m1 k1 _ g1 w1 hB1.size (v1.below hB1)).mono ?_
  rintro e w2 ⟨rfl, hb2⟩
  have hB2 := hB1.trans (hb2.mono hB1.size)
  clear y01 y11 y21
  have b1 := b1.below hb2 b1.lt
  have b2 := b2.below hb2 b2.lt
  clear hb2 hB1
  have y02 : w2.cell? ⟨gb + 1, 0, none⟩ = some (.int .i64 g2.pos) := b2.cell 0 rfl
  have y12 : w2.cell? ⟨gb + 1, 1, none⟩ = some (.slice A2 n2 c2) := b2.cell 1 rfl
  have y22 : w2.cell? ⟨gb + 1, 2, none⟩ = some (.slice D2 m2 k2) := b2.cell 2 rfl
  go_wp2_with fail
  refine (LightH A2 n2 c2 D2 m2 k2 _ g2 w2 hB2.size (v2.below hB2)).mono ?_
  rintro e w3 ⟨rfl, hb3⟩
  have hB3 := hB2.trans (hb3.mono hB2.size)
  clear y02 y12 y22
  have b1 := b1.below hb3 b1.lt
  have b2 := b2.below hb3 b2.lt
  clear hb3 hB2
  cases hl : light a 300 with
  | false =>
    clear hl
    go_wp2
    go_ret
    exact ⟨rfl, hB3⟩
  | true =>
  have hn := light_len hl h.len
  clear hl
  cases hl : (light g1.old 300 && light g1.new 300) with
  | false =>
    clear hl
    go_wp2
    go_ret
    exact ⟨rfl, hB3⟩
  | true =>
  rw [Bool.and_eq_true] at hl
  have hn1 := light_len hl.1 v1.l
  have hm1 := light_len hl.2 v1.l'
  have HLT1 := Lib.hid hl; clear hl
  cases hl : (light g2.old 300 && light g2.new 300) with
  | false =>
    clear hl
    go_wp2
    go_ret
    exact ⟨rfl, hB3⟩
  | true =>
  rw [Bool.and_eq_true] at hl
  have hn2 := light_len hl.1 v2.l
  have hm2 := light_len hl.2 v2.l'
  have HLT2 := Lib.hid hl; clear hl
  have HB3 := Lib.hid hB3
  have HC : Hid (∀ W, Below w3.heap.size w3 W → W.cell? ⟨gb, 0, none⟩ = some (.int .i64 g1.pos) ∧ W.cell? ⟨gb, 1, none⟩ = some (.slice A1 n1 c1) ∧ W.cell? ⟨gb, 2, none⟩ = some (.slice D1 m1 k1)) := Lib.hid (fun W hb => by
    have b := b1.below hb b1.lt
    exact ⟨b.cell 0 rfl, b.cell 1 rfl, b.cell 2 rfl⟩)
  have HC2 : Hid (∀ W, Below w3.heap.size w3 W → W.cell? ⟨gb + 1, 0, none⟩ = some (.int .i64 g2.pos) ∧ W.cell? ⟨gb + 1, 1, none⟩ = some (.slice A2 n2 c2) ∧ W.cell? ⟨gb + 1, 2, none⟩ = some (.slice D2 m2 k2)) := Lib.hid (fun W hb => by
    have b := b2.below hb b2.lt
    exact ⟨b.cell 0 rfl, b.cell 1 rfl, b.cell 2 rfl⟩)
  have HVW : Hid (∀ W, Below w3.heap.size w3 W → HV W w.heap.size A1 n1 c1 D1 m1 k1 g1) := Lib.hid (fun W hb => (v1.below HB3.out).below (hb.mono HB3.out.size))
  have HVX : Hid (∀ W, Below w3.heap.size w3 W → HV W w.heap.size A2 n2 c2 D2 m2 k2 g2) := Lib.hid (fun W hb => (v2.below HB3.out).below (hb.mono HB3.out.size))
  have HLE : Hid (∀ W, Below w3.heap.size w3 W → w.heap.size ≤ W.heap.size) := Lib.hid (fun W hb => Nat.le_trans HB3.out.size hb.size)
  have hn1' : n1 ≤ 1000 := by omega
  have hm1' : m1 ≤ 1000 := by omega
  have HQ := Lib.hid (light_all HLT1.out.1)
  have HQ' := Lib.hid (light_all HLT1.out.2)
  obtain ⟨y0, y1, y2⟩ := HC.out w3 (Below.refl _ _)
  clear hB3 b1 b2
  go_wp2_with fail
  refine (Apply A n c A1 n1 c1 D1 m1 k1 w.heap.size a g1 w3 HB3.out.size h.len h.cap (by omega) hn1' hm1' (h.rd.below HB3.out) (HVW.out w3 (Below.refl _ _))).mono ?_
  rintro e u1 ⟨A4, k4, c4, rfl, hc4, hl4, hr4, hb4⟩
  have hk4 : k4 ≤ 1000 := by
    have := applyL_len (l := a) (h := g1)
    rw [hl4, h.len, v1.l'] at this
    omega
  have HU1 := Lib.hid hb4
  have HR4 := Lib.hid hr4; have HL4 := Lib.hid hl4
  clear y0 y1 y2 hb4 hr4 hl4
  obtain ⟨y0, y1, y2⟩ := HC.out u1 HU1.out
  go_wp2_with fail
  refine (refApply A n c A1 n1 c1 D1 m1 k1 w.heap.size a g1 u1 (HLE.out u1 HU1.out) h.len h.cap (by omega) hn1' hm1' ((h.rd.below HB3.out).below (HU1.out.mono HB3.out.size)) (HVW.out u1 HU1.out) HQ.out HQ'.out).mono ?_
  rintro e u2 ⟨A5, k5, c5, rfl, hc5, hl5, hr5, hb5⟩
  have HU2 := Lib.hid (HU1.out.trans (hb5.mono HU1.out.size))
  have HR5 := Lib.hid hr5; have HL5 := Lib.hid hl5
  have HR6 := Lib.hid (Rd.up (Rd.below HR4.out hb5) hb5.size)
  clear y0 y1 y2 hb5 hr5 hl5 HR4
  have hK4 : k4 ≤ maxLen := by unfold maxLen; omega
  obtain ⟨er, her⟩ : ∃ er, applyE a g1 = er := ⟨_, rfl⟩
  rw [her]
  clear her
  go_wp2_with fail
  refine (Same A4 A5 c4 c5 k4 k5 u2.heap.size (applyL a g1) (applyL a g1) u2 HL4.out HL5.out hK4 HR6.out HR5.out).mono ?_
  rw [decide_eq_true rfl]
  rintro e u3 ⟨rfl, d, rfl⟩
  have hu3 := below_drewN HU2.out d
  generalize u2.drewN d = u3 at *
  have HU3 := Lib.hid hu3
  have HU3D : Hid (Below w3.heap.size w3 u3.drew) := Lib.hid (below_drewN HU3.out 1)
  clear hu3 HR5 HR6
  have HTU : Hid (∀ u, Below w3.heap.size w3 u → Calls Try.prog 15 #[hkV g1.pos A1 n1 c1 D1 m1 k1] u (TurnEnd u n1 m1 g1)) := Lib.hid (fun u hb => Turn A1 n1 c1 D1 m1 k1 w.heap.size g1 u (HLE.out u hb) hn1' hm1' (HVW.out u hb))
  have HST : Hid (∀ (u : World) (P : Option Addr) (p : Nat) (Q : Option Addr) (q : Nat), HV u u.heap.size P m1 p Q n1 q (turn g1) → Below w3.heap.size w3 u → Calls Try.prog 14 #[hkV g1.pos P m1 p Q n1 q, hkV g1.pos D1 m1 k1 A1 n1 c1] u (TestEnd u true)) := Lib.hid (fun u P p Q q hv hb => by
    have := refSameH P m1 p Q n1 q D1 m1 k1 A1 n1 c1 u.heap.size (turn g1) (turn g1) u (Nat.le_refl _) hv ((HVW.out u hb).up (HLE.out u hb)).turn
    rw [sameH_self] at this
    exact this)
  obtain ⟨y0, y1, y2⟩ := HC.out u3 HU3.out
  go_wp2_with fail
  go_region_held3 (fun W => W.cell? ⟨gb, 0, none⟩ = some (.int .i64 g1.pos) ∧ W.cell? ⟨gb, 1, none⟩ = some (.slice A1 n1 c1) ∧ W.cell? ⟨gb, 2, none⟩ = some (.slice D1 m1 k1))
    (first
      | go_keep
      | (exact hS1)
      | (exact hS2)
      | (exact hS3))
    (first
      | (go_at_call 15; (with_reducible refine (HTU.out u3.drew HU3D.out).mono ?_); rintro e u4 ⟨P1, p1, Q1, q1, rfl, hv, hb⟩; have hbu := HU3D.out.trans (hb.mono HU3D.out.size); have hS1 := HC.out u4 hbu; have HU4 := Lib.hid hbu; have HV1 := Lib.hid hv; clear hb hbu hv)
      | (go_at_call 16; (with_reducible refine (refTurn g1.pos A1 n1 c1 D1 m1 k1 u4).mono ?_); rintro e u5 ⟨rfl, hb⟩; have hbu := HU4.out.trans (hb.mono HU4.out.size); have hS2 := HC.out u5 hbu; have HU5 := Lib.hid hbu; have HV2 := Lib.hid ((HV1.out.below hb).up hb.size); clear hb hbu)
      | (go_at_call 14; (with_reducible refine (HST.out u5 P1 p1 Q1 q1 HV2.out HU5.out).mono ?_); rintro e u6 ⟨rfl, hb⟩; have hbu := HU5.out.trans (hb.mono HU5.out.size); have hS3 := HC.out u6 hbu; have HU6 := Lib.hid hbu; clear hb hbu))
  clear y0 y1 y2
  obtain ⟨y0, y1, y2⟩ := HC.out u6 HU6.out
  go_wp2_with fail
  refine (refMay A1 n1 c1 D1 m1 k1 w.heap.size g1 u6 (HLE.out u6 HU6.out) (HVW.out u6 HU6.out) HQ.out HQ'.out).mono ?_
  rintro e u7 ⟨rfl, hb7⟩
  have HU7 := Lib.hid (HU6.out.trans (hb7.mono HU6.out.size))
  clear y0 y1 y2 hb7
  obtain ⟨y0, y1, y2⟩ := HC.out u7 HU7.out
  obtain ⟨z0, z1, z2⟩ := HC2.out u7 HU7.out
  go_wp2_with fail
  refine (refSameH A1 n1 c1 D1 m1 k1 A2 n2 c2 D2 m2 k2 w.heap.size g1 g2 u7 (HLE.out u7 HU7.out) (HVW.out u7 HU7.out) (HVX.out u7 HU7.out)).mono ?_
  rintro e u8 ⟨rfl, hb8⟩
  have HU8 := Lib.hid (HU7.out.trans (hb8.mono HU7.out.size))
  clear y0 y1 y2 z0 z1 z2 hb8
  obtain ⟨y0, y1, y2⟩ := HC.out u8 HU8.out
  go_wp2_with fail
  refine (May A1 n1 c1 D1 m1 k1 w.heap.size g1 u8 (HLE.out u8 HU8.out) (HVW.out u8 HU8.out)).mono ?_
  rintro e u9 ⟨rfl, hb9⟩
  have HU9 := Lib.hid (HU8.out.trans (hb9.mono HU8.out.size))
  clear y0 y1 y2 hb9
  obtain ⟨y0, y1, y2⟩ := HC.out u9 HU9.out
  obtain ⟨z0, z1, z2⟩ := HC2.out u9 HU9.out
  go_wp2_with fail
  refine (SameH A1 n1 c1 D1 m1 k1 A2 n2 c2 D2 m2 k2 w.heap.size g1 g2 u9 (HLE.out u9 HU9.out) (HVW.out u9 HU9.out) (HVX.out u9 HU9.out)).mono ?_
  rintro e u10 ⟨rfl, hb10⟩
  have HU10 := Lib.hid (HU9.out.trans (hb10.mono HU9.out.size))
  clear y0 y1 y2 z0 z1 z2 hb10
  go_wp2
  go_ret
  exact ⟨rfl, HB3.out.trans (HU10.out.mono HB3.out.size)⟩

end Hk
open Tx Df Hk
open Go.ChangeShapes Go.WideShapes Go.ChangeAt

theorem hunkTells_own : ownKnob Try.prog.godebug = none := by kernel_rfl
theorem hunkTells_laidOut : laidOutB Try.prog = true := by kernel_rfl

set_option maxRecDepth 100000 in
theorem hunkTells_lifted (os : Os) (started : os.Started) (H : Type) (enc : TypeId × Value → H) :
    ReturnsInHanded {} Try.checked os 3 .any (Rows.hunkTellsSpec.pre6 enc Try.prog Try.f3 Rows.hunkTellsRow.domain false) (Rows.hunkTellsSpec.post enc Try.prog Try.f3 false true false false) := by
  refine returnsInHanded_of_change (C := Try.checked) hunkTells_own started (by kernel_rfl) Try.func3
    (ChangeSpec.witness6 (enc := enc) (C := Try.checked) false ⟨#[], #[.slice none 0 0, .agg #[.int .i64 0, .slice none 0 0, .slice none 0 0], .agg #[.int .i64 0, .slice none 0 0, .slice none 0 0]], []⟩ 8 (by kernel_rfl) (by kernel_rfl) (by kernel_rfl) (by kernel_rfl)) ?_
  intro W base args ds gs before hval0 hW hcnd _
  have hval : ∀ (j : Nat) t v, Try.f3.params[j]? = some t → args[j]? = some v → Value.okWide Try.prog W .any base t v := hval0
  have hW' := hW
  obtain ⟨p, q, hA0, hV, rfl, hfz, hnd⟩ := hW
  have hA : DataW.TrodAll enc Try.prog W 0 (fun _ => true) true Try.f3.params.toList args.toList ds p := hA0
  rw [Try.params3] at hA hval
  obtain ⟨v0, vs0, d0, ds0, p0, q0, hargs, rfl, rfl, h0, r0⟩ := trodAll_cons hA
  obtain ⟨v1, vs1, d1, ds1, p1, q1, rfl, rfl, rfl, h1, r1⟩ := trodAll_cons r0
  obtain ⟨v2, vs2, d2, ds2, p2, q2, rfl, rfl, rfl, h2, r2⟩ := trodAll_cons r1
  obtain ⟨rfl, rfl, rfl⟩ := trodAll_nil r2
  obtain rfl : args = #[v0, v1, v2] := by cases args; simp_all
  obtain ⟨rfl, rfl⟩ := trodVars_none hV
  obtain ⟨a0, n0, c0, rfl⟩ := okWide_slice Try.underlying22 (hval 0 22 v0 rfl rfl)
  have k0 := h0
  have lt0 : ∀ x ∈ p0, x.block < W.heap.size := by obtain ⟨m, hm⟩ := k0; exact DataW.trod_lt m _ _ _ hm
  obtain ⟨l0, s0⟩ : ∃ l, StrArg W a0 n0 c0 l := by
    obtain ⟨fuel, hf⟩ := h0
    exact strs_in hf (by simp [Value.cells])
  have k1 := h1
  have lt1 : ∀ x ∈ p1, x.block < W.heap.size := by obtain ⟨m, hm⟩ := k1; exact DataW.trod_lt m _ _ _ hm
  obtain ⟨a1, n1, c1, b1, m1, e1, l1, rfl, s1⟩ := hunk_in (hval 1 24 v1 rfl rfl) h1
  have k2 := h2
  have lt2 : ∀ x ∈ p2, x.block < W.heap.size := by obtain ⟨m, hm⟩ := k2; exact DataW.trod_lt m _ _ _ hm
  obtain ⟨a2, n2, c2, b2, m2, e2, l2, rfl, s2⟩ := hunk_in (hval 2 24 v2 rfl rfl) h2
  clear hA0 hval0
  refine (hunkTells_walk a0 n0 c0 l0 a1 n1 c1 b1 m1 e1 l1 a2 n2 c2 b2 m2 e2 l2 W s0 s1 s2).mono fun e W' ⟨he, bel⟩ => ?_
  subst he
  exact ⟨_, rfl, _, _, _, [], _, [], hW', trodAll_mk1 (shut_bool Try.underlying4 _), (trodAll_cons_mk (Below.trod hunkTells_laidOut (by kernel_rfl) (of_decide_eq_true (by kernel_rfl)) k0 bel lt0) (trodAll_cons_mk (Below.trod hunkTells_laidOut (by kernel_rfl) (of_decide_eq_true (by kernel_rfl)) k1 bel lt1) (trodAll_cons_mk (Below.trod hunkTells_laidOut (by kernel_rfl) (of_decide_eq_true (by kernel_rfl)) k2 bel lt2) trodAll_mk0))), rfl, bel.frame _, fun h => by cases h⟩

/-- The statement. -/
theorem hunkTells_proved : Rows.HunkTellsSaid :=
  OpenClaim.holds_of_wide 3 Try.f3 rfl rfl rfl rfl rfl rfl rfl ⟨rfl, rfl, rfl, rfl, rfl⟩ rfl rfl rfl rfl rfl (by kernel_rfl) Try.func3 (by kernel_rfl)
    (of_decide_eq_true (by kernel_rfl)) (by unfold Func.isWrapper; first | (rw [if_pos (by decide +kernel)]; kernel_rfl) | (rw [if_neg (by decide +kernel)]; exact ⟨rfl, rfl⟩))
    (fun os started H enc _ => hunkTells_lifted os started H enc)

#print axioms hunkTells_proved
end Go.Proofs.Ytkpgkbllcdpobaa
