/-
  The statement SwapTouch: two that touch do not pass.
-/
import Derived.Test.YtdbhfohilfcgfaaSwLaw
import Derived.Test.YtdbhfohilfcgfaaSwAwake
import Derived.Test.YtdbhfohilfcgfaaHkOpen
import Derived.Test.YtdbhfohilfcgfaaQLaw
namespace Go.Proofs.Ytdbhfohilfcgfaa
open Go.RowKit
set_option linter.unusedVariables false
namespace Sw
open Tx Df Sq Hk

set_option maxRecDepth 100000 in
set_option maxHeartbeats 4000000 in
theorem swapTouch_walk (A : Option Addr) (n c : Nat) (D : Option Addr) (m k : Nat) (g : HU) (A1 : Option Addr) (n1 c1 : Nat) (D1 : Option Addr) (m1 k1 : Nat) (g1 : HU) (w : World) (v : HV w w.heap.size A n c D m k g) (v1 : HV w w.heap.size A1 n1 c1 D1 m1 k1 g1) :
    Calls Try.prog 9 #[hkV g.pos A n c D m k, hkV g1.pos A1 n1 c1 D1 m1 k1] w (LawEnd w) := by
  go_enter Try.func9, Try.ntmps9
  go_wp2_with fail
  have hw0 : Below w.heap.size w ((w.alloc (.cells #[.int .i64 g.pos, .slice A n c, .slice D m k] 24)).alloc (.cells #[.int .i64 g1.pos, .slice A1 n1 c1, .slice D1 m1 k1] 24)) := (((Below.refl _ _).alloc (Nat.le_refl _) _).alloc (by simp) _)
  have b := (Blk.new w 24 #[.int .i64 g.pos, .slice A n c, .slice D m k]).alloc (.cells #[.int .i64 g1.pos, .slice A1 n1 c1, .slice D1 m1 k1] 24)
  have b1 := Blk.new (w.alloc (.cells #[.int .i64 g.pos, .slice A n c, .slice D m k] 24)) 24 #[.int .i64 g1.pos, .slice A1 n1 c1, .slice D1 m1 k1]
  simp only [World.size_alloc] at b1
  generalize ((w.alloc (.cells #[.int .i64 g.pos, .slice A n c, .slice D m k] 24)).alloc (.cells #[.int .i64 g1.pos, .slice A1 n1 c1, .slice D1 m1 k1] 24)) = w0 at *
  obtain ⟨gb, hgb⟩ : ∃ gb, w.heap.size = gb := ⟨_, rfl⟩
  rw [hgb] at ⊢ b b1
  clear hgb
  refine (awake w0).mono ?_
  rintro e w1 ⟨rfl, hb1⟩
  have hB1 := hw0.trans (hb1.mono hw0.size)
  replace b := b.below hb1 b.lt; replace v := (v.below hB1).up hB1.size
  replace b1 := b1.below hb1 b1.lt; replace v1 := (v1.below hB1).up hB1.size
  clear hw0 hb1
  have y0 : w1.cell? ⟨gb, 0, none⟩ = some (.int .i64 g.pos) := b.cell 0 rfl; have y1 : w1.cell? ⟨gb, 1, none⟩ = some (.slice A n c) := b.cell 1 rfl; have y2 : w1.cell? ⟨gb, 2, none⟩ = some (.slice D m k) := b.cell 2 rfl; have yl := b.lt
  have yk := yl
  go_wp2_with fail
  refine (LightH A n c D m k _ g w1 (Nat.le_refl _) v).mono ?_
  rintro e w2 ⟨rfl, hb2⟩
  clear y0 y1 y2 yl yk
  replace b := b.below hb2 b.lt; replace v := (v.below hb2).up hb2.size
  replace b1 := b1.below hb2 b1.lt; replace v1 := (v1.below hb2).up hb2.size
  have hB2 := hB1.trans (hb2.mono hB1.size)
  clear hb2 hB1
  have y01 : w2.cell? ⟨gb + 1, 0, none⟩ = some (.int .i64 g1.pos) := b1.cell 0 rfl; have y11 : w2.cell? ⟨gb + 1, 1, none⟩ = some (.slice A1 n1 c1) := b1.cell 1 rfl; have y21 : w2.cell? ⟨gb + 1, 2, none⟩ = some (.slice D1 m1 k1) := b1.cell 2 rfl; have yl1 := b1.lt
  have yk1 : gb < w2.heap.size := Nat.lt_of_succ_lt yl1
  go_wp2_with fail
  refine (LightH A1 n1 c1 D1 m1 k1 _ g1 w2 (Nat.le_refl _) v1).mono ?_
  rintro e w3 ⟨rfl, hb3⟩
  clear y01 y11 y21 yl1 yk1
  replace b := b.below hb3 b.lt; replace v := (v.below hb3).up hb3.size
  replace b1 := b1.below hb3 b1.lt; replace v1 := (v1.below hb3).up hb3.size
  have hB3 := hB2.trans (hb3.mono hB2.size)
  clear hb3 hB2
  cases hl : (light g.old 300 && light g.new 300) with
  | false =>
    clear hl
    go_wp2
    go_ret
    exact ⟨rfl, hB3⟩
  | true =>
  rw [Bool.and_eq_true] at hl
  have ln := light_len hl.1 v.l; have lm := light_len hl.2 v.l'
  have HLT := Lib.hid hl; clear hl
  have hn : n ≤ 1000 := by omega
  have hm : m ≤ 1000 := by omega
  cases hl : (light g1.old 300 && light g1.new 300) with
  | false =>
    clear hl
    go_wp2
    go_ret
    exact ⟨rfl, hB3⟩
  | true =>
  rw [Bool.and_eq_true] at hl
  have ln1 := light_len hl.1 v1.l; have lm1 := light_len hl.2 v1.l'
  have HLT1 := Lib.hid hl; clear hl
  have hn1 : n1 ≤ 1000 := by omega
  have hm1 : m1 ≤ 1000 := by omega
  have y0 : w3.cell? ⟨gb, 0, none⟩ = some (.int .i64 g.pos) := b.cell 0 rfl; have y1 : w3.cell? ⟨gb, 1, none⟩ = some (.slice A n c) := b.cell 1 rfl; have y2 : w3.cell? ⟨gb, 2, none⟩ = some (.slice D m k) := b.cell 2 rfl; have yl := b.lt
  have yk := yl
  have y01 : w3.cell? ⟨gb + 1, 0, none⟩ = some (.int .i64 g1.pos) := b1.cell 0 rfl; have y11 : w3.cell? ⟨gb + 1, 1, none⟩ = some (.slice A1 n1 c1) := b1.cell 1 rfl; have y21 : w3.cell? ⟨gb + 1, 2, none⟩ = some (.slice D1 m1 k1) := b1.cell 2 rfl; have yl1 := b1.lt
  have yk1 : gb < w3.heap.size := Nat.lt_of_succ_lt yl1
  by_cases t1 : g1.pos < g.pos
  · go_wp2
    go_ret
    exact ⟨rfl, hB3⟩
  obtain ⟨s, hs⟩ : ∃ s, IntKind.i64.wrap (g.pos + (m : Int)) = s := ⟨_, rfl⟩
  by_cases t2 : s < g1.pos
  · go_wp2
    go_ret
    exact ⟨rfl, hB3⟩
  by_cases t3 : g.pos < 0
  · go_wp2
    go_ret
    exact ⟨rfl, hB3⟩
  by_cases t4 : 1048576 < g.pos
  · go_wp2
    go_ret
    exact ⟨rfl, hB3⟩
  have hs2 : s = g.pos + (m : Int) := by rw [← hs]; exact IntWalk.i64_in _ (by omega)
  subst hs2
  have hN : passH g g1 = none := passH_touch (by omega) (by rw [v.l']; omega)
  have HN := Lib.hid hN; clear hN
  go_wp2_with fail
  clear t1 t2 t3 t4 hs
  clear y0 y1 y2 yl yk
  clear y01 y11 y21 yl1 yk1
  obtain ⟨⟨g2, g3⟩, hx2⟩ : ∃ z, outH (passH g g1) = z := ⟨_, rfl⟩
  obtain ⟨is, hs2⟩ : ∃ b, (passH g g1).isSome = b := ⟨_, rfl⟩
  refine (PassL A n c D m k A1 n1 c1 D1 m1 k1 w3.heap.size g g1 w3 g2 g3 is (Nat.le_refl _) hn hm hn1 hm1 v v1 hx2 hs2).mono ?_
  rintro e w4 ⟨A2, n2, c2, D2, m2, k2, A3, n3, c3, D3, m3, k3, rfl, v2, v3, ⟨hn2, hm2, hn3, hm3⟩, hb4⟩
  replace b := b.below hb4 b.lt; replace v := (v.below hb4).up hb4.size
  replace b1 := b1.below hb4 b1.lt; replace v1 := (v1.below hb4).up hb4.size
  have hB4 := hB3.trans (hb4.mono hB3.size)
  clear hb4 hB3
  have HX2 := Lib.hid hx2; have HS2 := Lib.hid hs2; clear hx2 hs2
  obtain rfl : is = false := by rw [← HS2.out, HN.out]; rfl
  clear HX2 HS2 HN
  go_wp2
  go_ret
  exact ⟨rfl, (hB4.alloc hB4.size _).alloc (by have := hB4.size; simp; omega) _⟩

end Sw
open Tx Df Hk Sw
open Go.ChangeShapes Go.WideShapes Go.ChangeAt

theorem swapTouch_own : ownKnob Try.prog.godebug = none := by kernel_rfl
theorem swapTouch_laidOut : laidOutB Try.prog = true := by kernel_rfl

set_option maxRecDepth 100000 in
theorem swapTouch_lifted (os : Os) (started : os.Started) (H : Type) (enc : TypeId × Value → H) :
    ReturnsInHanded {} Try.checked os 9 .any (Rows.swapTouchSpec.pre6 enc Try.prog Try.f9 Rows.swapTouchRow.domain false) (Rows.swapTouchSpec.post enc Try.prog Try.f9 false true false false) := by
  refine returnsInHanded_of_change (C := Try.checked) swapTouch_own started (by kernel_rfl) Try.func9
    (ChangeSpec.witness6 (enc := enc) (C := Try.checked) false ⟨#[], #[.agg #[.int .i64 0, .slice none 0 0, .slice none 0 0], .agg #[.int .i64 0, .slice none 0 0, .slice none 0 0]], []⟩ 8 (by kernel_rfl) (by kernel_rfl) (by kernel_rfl) (by kernel_rfl)) ?_
  intro W base args ds gs before hval0 hW hcnd _
  have hval : ∀ (j : Nat) t v, Try.f9.params[j]? = some t → args[j]? = some v → Value.okWide Try.prog W .any base t v := hval0
  have hW' := hW
  obtain ⟨p, q, hA0, hV, rfl, hfz, hnd⟩ := hW
  have hA : DataW.TrodAll enc Try.prog W 0 (fun _ => true) true Try.f9.params.toList args.toList ds p := hA0
  rw [Try.params9] at hA hval
  obtain ⟨v0, vs0, d0, ds0, p0, q0, hargs, rfl, rfl, h0, r0⟩ := trodAll_cons hA
  obtain ⟨v1, vs1, d1, ds1, p1, q1, rfl, rfl, rfl, h1, r1⟩ := trodAll_cons r0
  obtain ⟨rfl, rfl, rfl⟩ := trodAll_nil r1
  obtain rfl : args = #[v0, v1] := by cases args; simp_all
  obtain ⟨rfl, rfl⟩ := trodVars_none hV
  have k0 := h0
  have lt0 : ∀ x ∈ p0, x.block < W.heap.size := by obtain ⟨m, hm⟩ := k0; exact DataW.trod_lt m _ _ _ hm
  obtain ⟨a0, n0, c0, b0, m0, e0, l0, rfl, s0⟩ := hunk_in (hval 0 24 v0 rfl rfl) h0
  have k1 := h1
  have lt1 : ∀ x ∈ p1, x.block < W.heap.size := by obtain ⟨m, hm⟩ := k1; exact DataW.trod_lt m _ _ _ hm
  obtain ⟨a1, n1, c1, b1, m1, e1, l1, rfl, s1⟩ := hunk_in (hval 1 24 v1 rfl rfl) h1
  clear hA0 hval0
  refine (swapTouch_walk a0 n0 c0 b0 m0 e0 l0 a1 n1 c1 b1 m1 e1 l1 W s0 s1).mono fun e W' ⟨he, bel⟩ => ?_
  subst he
  exact ⟨_, rfl, _, _, _, [], _, [], hW', trodAll_mk1 (shut_bool Try.underlying4 _), (trodAll_cons_mk (Below.trod swapTouch_laidOut (by kernel_rfl) (of_decide_eq_true (by kernel_rfl)) k0 bel lt0) (trodAll_cons_mk (Below.trod swapTouch_laidOut (by kernel_rfl) (of_decide_eq_true (by kernel_rfl)) k1 bel lt1) trodAll_mk0)), rfl, bel.frame _, fun h => by cases h⟩

/-- The statement. -/
theorem swapTouch_proved : Rows.SwapTouchSaid :=
  OpenClaim.holds_of_wide 9 Try.f9 rfl rfl rfl rfl rfl rfl rfl ⟨rfl, rfl, rfl, rfl, rfl⟩ rfl rfl rfl rfl rfl (by kernel_rfl) Try.func9 (by kernel_rfl)
    (of_decide_eq_true (by kernel_rfl)) (by unfold Func.isWrapper; first | (rw [if_pos (by decide +kernel)]; kernel_rfl) | (rw [if_neg (by decide +kernel)]; exact ⟨rfl, rfl⟩))
    (fun os started H enc _ => swapTouch_lifted os started H enc)

#print axioms swapTouch_proved
end Go.Proofs.Ytdbhfohilfcgfaa
