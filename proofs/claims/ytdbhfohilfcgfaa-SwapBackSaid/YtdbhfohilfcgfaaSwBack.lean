/-
  The statement SwapBack: those that passed one another pass back to what they were.
-/
import Derived.Test.YtdbhfohilfcgfaaSwLaw
import Derived.Test.YtdbhfohilfcgfaaSwAwake
import Derived.Test.YtdbhfohilfcgfaaHkOpen
import Derived.Test.YtdbhfohilfcgfaaQLaw
namespace Go.Proofs.Ytdbhfohilfcgfaa
open Go.RowKit
set_option linter.unusedVariables false
namespace Sw
open Tx Df Sq Hk

set_option maxRecDepth 100000 in
set_option maxHeartbeats 4000000 in
theorem swapBack_walk (A : Option Addr) (n c : Nat) (D : Option Addr) (m k : Nat) (g : HU) (A1 : Option Addr) (n1 c1 : Nat) (D1 : Option Addr) (m1 k1 : Nat) (g1 : HU) (w : World) (v : HV w w.heap.size A n c D m k g) (v1 : HV w w.heap.size A1 n1 c1 D1 m1 k1 g1) :
    Calls Try.prog 5 #[hkV g.pos A n c D m k, hkV g1.pos A1 n1 c1 D1 m1 k1] w (LawEnd w) := by
  go_enter Try.func5, Try.ntmps5
  go_wp2_with fail
  have hw0 : Below w.heap.size w ((w.alloc (.cells #[.int .i64 g.pos, .slice A n c, .slice D m k] 24)).alloc (.cells #[.int .i64 g1.pos, .slice A1 n1 c1, .slice D1 m1 k1] 24)) := (((Below.refl _ _).alloc (Nat.le_refl _) _).alloc (by simp) _)
  have b := (Blk.new w 24 #[.int .i64 g.pos, .slice A n c, .slice D m k]).alloc (.cells #[.int .i64 g1.pos, .slice A1 n1 c1, .slice D1 m1 k1] 24)
  have b1 := Blk.new (w.alloc (.cells #[.int .i64 g.pos, .slice A n c, .slice D m k] 24)) 24 #[.int .i64 g1.pos, .slice A1 n1 c1, .slice D1 m1 k1]
  simp only [World.size_alloc] at b1
  generalize ((w.alloc (.cells #[.int .i64 g.pos, .slice A n c, .slice D m k] 24)).alloc (.cells #[.int .i64 g1.pos, .slice A1 n1 c1, .slice D1 m1 k1] 24)) = w0 at *
  obtain ⟨gb, hgb⟩ : ∃ gb, w.heap.size = gb := ⟨_, rfl⟩
  rw [hgb] at ⊢ b b1
  clear hgb
  refine (awake w0).mono ?_
  rintro e w1 ⟨rfl, hb1⟩
  have hB1 := hw0.trans (hb1.mono hw0.size)
  replace b := b.below hb1 b.lt; replace v := (v.below hB1).up hB1.size
  replace b1 := b1.below hb1 b1.lt; replace v1 := (v1.below hB1).up hB1.size
  clear hw0 hb1
  have y0 : w1.cell? ⟨gb, 0, none⟩ = some (.int .i64 g.pos) := b.cell 0 rfl; have y1 : w1.cell? ⟨gb, 1, none⟩ = some (.slice A n c) := b.cell 1 rfl; have y2 : w1.cell? ⟨gb, 2, none⟩ = some (.slice D m k) := b.cell 2 rfl; have yl := b.lt
  have yk := yl
  go_wp2_with fail
  refine (LightH A n c D m k _ g w1 (Nat.le_refl _) v).mono ?_
  rintro e w2 ⟨rfl, hb2⟩
  clear y0 y1 y2 yl yk
  replace b := b.below hb2 b.lt; replace v := (v.below hb2).up hb2.size
  replace b1 := b1.below hb2 b1.lt; replace v1 := (v1.below hb2).up hb2.size
  have hB2 := hB1.trans (hb2.mono hB1.size)
  clear hb2 hB1
  have y01 : w2.cell? ⟨gb + 1, 0, none⟩ = some (.int .i64 g1.pos) := b1.cell 0 rfl; have y11 : w2.cell? ⟨gb + 1, 1, none⟩ = some (.slice A1 n1 c1) := b1.cell 1 rfl; have y21 : w2.cell? ⟨gb + 1, 2, none⟩ = some (.slice D1 m1 k1) := b1.cell 2 rfl; have yl1 := b1.lt
  have yk1 : gb < w2.heap.size := Nat.lt_of_succ_lt yl1
  go_wp2_with fail
  refine (LightH A1 n1 c1 D1 m1 k1 _ g1 w2 (Nat.le_refl _) v1).mono ?_
  rintro e w3 ⟨rfl, hb3⟩
  clear y01 y11 y21 yl1 yk1
  replace b := b.below hb3 b.lt; replace v := (v.below hb3).up hb3.size
  replace b1 := b1.below hb3 b1.lt; replace v1 := (v1.below hb3).up hb3.size
  have hB3 := hB2.trans (hb3.mono hB2.size)
  clear hb3 hB2
  cases hl : (light g.old 300 && light g.new 300) with
  | false =>
    clear hl
    go_wp2
    go_ret
    exact ⟨rfl, hB3⟩
  | true =>
  rw [Bool.and_eq_true] at hl
  have ln := light_len hl.1 v.l; have lm := light_len hl.2 v.l'
  have HLT := Lib.hid hl; clear hl
  have hn : n ≤ 1000 := by omega
  have hm : m ≤ 1000 := by omega
  cases hl : (light g1.old 300 && light g1.new 300) with
  | false =>
    clear hl
    go_wp2
    go_ret
    exact ⟨rfl, hB3⟩
  | true =>
  rw [Bool.and_eq_true] at hl
  have ln1 := light_len hl.1 v1.l; have lm1 := light_len hl.2 v1.l'
  have HLT1 := Lib.hid hl; clear hl
  have hn1 : n1 ≤ 1000 := by omega
  have hm1 : m1 ≤ 1000 := by omega
  have y0 : w3.cell? ⟨gb, 0, none⟩ = some (.int .i64 g.pos) := b.cell 0 rfl; have y1 : w3.cell? ⟨gb, 1, none⟩ = some (.slice A n c) := b.cell 1 rfl; have y2 : w3.cell? ⟨gb, 2, none⟩ = some (.slice D m k) := b.cell 2 rfl; have yl := b.lt
  have yk := yl
  have y01 : w3.cell? ⟨gb + 1, 0, none⟩ = some (.int .i64 g1.pos) := b1.cell 0 rfl; have y11 : w3.cell? ⟨gb + 1, 1, none⟩ = some (.slice A1 n1 c1) := b1.cell 1 rfl; have y21 : w3.cell? ⟨gb + 1, 2, none⟩ = some (.slice D1 m1 k1) := b1.cell 2 rfl; have yl1 := b1.lt
  have yk1 : gb < w3.heap.size := Nat.lt_of_succ_lt yl1
  by_cases t0 : 524288 < g.pos
  · go_wp2
    go_ret
    exact ⟨rfl, hB3⟩
  by_cases t1 : 524288 < g1.pos
  · go_wp2
    go_ret
    exact ⟨rfl, hB3⟩
  go_wp2_with fail
  clear t0 t1
  clear y0 y1 y2 yl yk
  clear y01 y11 y21 yl1 yk1
  obtain ⟨⟨g2, g3⟩, hx2⟩ : ∃ z, outH (passH g g1) = z := ⟨_, rfl⟩
  obtain ⟨is, hs2⟩ : ∃ b, (passH g g1).isSome = b := ⟨_, rfl⟩
  refine (PassL A n c D m k A1 n1 c1 D1 m1 k1 w3.heap.size g g1 w3 g2 g3 is (Nat.le_refl _) hn hm hn1 hm1 v v1 hx2 hs2).mono ?_
  rintro e w4 ⟨A2, n2, c2, D2, m2, k2, A3, n3, c3, D3, m3, k3, rfl, v2, v3, ⟨hn2, hm2, hn3, hm3⟩, hb4⟩
  replace b := b.below hb4 b.lt; replace v := (v.below hb4).up hb4.size
  replace b1 := b1.below hb4 b1.lt; replace v1 := (v1.below hb4).up hb4.size
  have hB4 := hB3.trans (hb4.mono hB3.size)
  clear hb4 hB3
  have HX2 := Lib.hid hx2; have HS2 := Lib.hid hs2; clear hx2 hs2
  cases is with
  | false =>
    obtain ⟨e1, e2⟩ := outH_none HX2.out HS2.out
    obtain rfl : 0 = n2 := by rw [← v2.l, e1]; rfl
    obtain rfl : 0 = m2 := by rw [← v2.l', e1]; rfl
    obtain rfl : 0 = n3 := by rw [← v3.l, e2]; rfl
    obtain rfl : 0 = m3 := by rw [← v3.l', e2]; rfl
    clear e1 e2 HX2 HS2
    go_wp2
    go_ret
    exact ⟨rfl, (hB4.alloc hB4.size _).alloc (by have := hB4.size; simp; omega) _⟩
  | true =>
  have HP := Lib.hid (passH_back (outH_of HX2.out HS2.out))
  clear HX2 HS2
  go_wp2_with fail
  have hb5 : Below w4.heap.size w4 ((w4.alloc (.cells #[.int .i64 g2.pos, .slice A2 n2 c2, .slice D2 m2 k2] 24)).alloc (.cells #[.int .i64 g3.pos, .slice A3 n3 c3, .slice D3 m3 k3] 24)) := ((Below.refl _ _).alloc (Nat.le_refl _) _).alloc (by simp) _
  have b2 := (Blk.new w4 24 #[.int .i64 g2.pos, .slice A2 n2 c2, .slice D2 m2 k2]).alloc (.cells #[.int .i64 g3.pos, .slice A3 n3 c3, .slice D3 m3 k3] 24)
  have b3 := Blk.new (w4.alloc (.cells #[.int .i64 g2.pos, .slice A2 n2 c2, .slice D2 m2 k2] 24)) 24 #[.int .i64 g3.pos, .slice A3 n3 c3, .slice D3 m3 k3]
  simp only [World.size_alloc] at b3
  replace b := b.below hb5 b.lt; replace v := (v.below hb5).up hb5.size
  replace b1 := b1.below hb5 b1.lt; replace v1 := (v1.below hb5).up hb5.size
  replace v2 := (v2.below hb5).up hb5.size
  replace v3 := (v3.below hb5).up hb5.size
  have hB5 := hB4.trans (hb5.mono hB4.size)
  clear hb5 hB4
  generalize ((w4.alloc (.cells #[.int .i64 g2.pos, .slice A2 n2 c2, .slice D2 m2 k2] 24)).alloc (.cells #[.int .i64 g3.pos, .slice A3 n3 c3, .slice D3 m3 k3] 24)) = w5 at *
  generalize w4.heap.size = u2 at *
  obtain ⟨⟨g4, g5⟩, hx4⟩ : ∃ z, outH (passH g2 g3) = z := ⟨_, rfl⟩
  obtain ⟨back, hs4⟩ : ∃ b, (passH g2 g3).isSome = b := ⟨_, rfl⟩
  refine (PassL A2 n2 c2 D2 m2 k2 A3 n3 c3 D3 m3 k3 w5.heap.size g2 g3 w5 g4 g5 back (Nat.le_refl _) hn2 hm2 hn3 hm3 v2 v3 hx4 hs4).mono ?_
  rintro e w6 ⟨A4, n4, c4, D4, m4, k4, A5, n5, c5, D5, m5, k5, rfl, v4, v5, ⟨hn4, hm4, hn5, hm5⟩, hb6⟩
  replace b := b.below hb6 b.lt; replace v := (v.below hb6).up hb6.size
  replace b1 := b1.below hb6 b1.lt; replace v1 := (v1.below hb6).up hb6.size
  replace b2 := b2.below hb6 b2.lt; replace v2 := (v2.below hb6).up hb6.size
  replace b3 := b3.below hb6 b3.lt; replace v3 := (v3.below hb6).up hb6.size
  have hB6 := hB5.trans (hb6.mono hB5.size)
  clear hb6 hB5
  have HX4 := Lib.hid hx4; have HS4 := Lib.hid hs4; clear hx4 hs4
  obtain rfl : true = back := by rw [← HS4.out, HP.out]; rfl
  obtain ⟨e1, e2⟩ : g = g4 ∧ g1 = g5 := by
    have := (outH_some HP.out).symm.trans HX4.out
    injection this with h1 h2
    exact ⟨h1, h2⟩
  subst e1 e2
  clear HX4 HS4 HP
  have y0 : w6.cell? ⟨gb, 0, none⟩ = some (.int .i64 g.pos) := b.cell 0 rfl; have y1 : w6.cell? ⟨gb, 1, none⟩ = some (.slice A n c) := b.cell 1 rfl; have y2 : w6.cell? ⟨gb, 2, none⟩ = some (.slice D m k) := b.cell 2 rfl; have yl := b.lt
  have yk := yl
  go_wp2_with fail
  clear y0 y1 y2 yl yk
  have hb7 : Below w6.heap.size w6 ((w6.alloc (.cells #[.int .i64 g.pos, .slice A4 n4 c4, .slice D4 m4 k4] 24)).alloc (.cells #[.int .i64 g1.pos, .slice A5 n5 c5, .slice D5 m5 k5] 24)) := ((Below.refl _ _).alloc (Nat.le_refl _) _).alloc (by simp) _
  have b4 := (Blk.new w6 24 #[.int .i64 g.pos, .slice A4 n4 c4, .slice D4 m4 k4]).alloc (.cells #[.int .i64 g1.pos, .slice A5 n5 c5, .slice D5 m5 k5] 24)
  have b5 := Blk.new (w6.alloc (.cells #[.int .i64 g.pos, .slice A4 n4 c4, .slice D4 m4 k4] 24)) 24 #[.int .i64 g1.pos, .slice A5 n5 c5, .slice D5 m5 k5]
  simp only [World.size_alloc] at b5
  replace b := b.below hb7 b.lt; replace v := (v.below hb7).up hb7.size
  replace b1 := b1.below hb7 b1.lt; replace v1 := (v1.below hb7).up hb7.size
  replace b2 := b2.below hb7 b2.lt; replace v2 := (v2.below hb7).up hb7.size
  replace b3 := b3.below hb7 b3.lt; replace v3 := (v3.below hb7).up hb7.size
  replace v4 := (v4.below hb7).up hb7.size
  replace v5 := (v5.below hb7).up hb7.size
  have hB7 := hB6.trans (hb7.mono hB6.size)
  clear hb7 hB6
  generalize ((w6.alloc (.cells #[.int .i64 g.pos, .slice A4 n4 c4, .slice D4 m4 k4] 24)).alloc (.cells #[.int .i64 g1.pos, .slice A5 n5 c5, .slice D5 m5 k5] 24)) = w7 at *
  generalize w6.heap.size = u4 at *
  refine (Same_self A4 n4 c4 D4 m4 k4 A n c D m k _ g w7 (Nat.le_refl _) v4 v).mono ?_
  rintro e w8 ⟨rfl, hb8⟩
  replace b := b.below hb8 b.lt; replace v := (v.below hb8).up hb8.size
  replace b1 := b1.below hb8 b1.lt; replace v1 := (v1.below hb8).up hb8.size
  replace b2 := b2.below hb8 b2.lt; replace v2 := (v2.below hb8).up hb8.size
  replace b3 := b3.below hb8 b3.lt; replace v3 := (v3.below hb8).up hb8.size
  replace b4 := b4.below hb8 b4.lt; replace v4 := (v4.below hb8).up hb8.size
  replace b5 := b5.below hb8 b5.lt; replace v5 := (v5.below hb8).up hb8.size
  have hB8 := hB7.trans (hb8.mono hB7.size)
  clear hb8 hB7
  have y01 : w8.cell? ⟨gb + 1, 0, none⟩ = some (.int .i64 g1.pos) := b1.cell 0 rfl; have y11 : w8.cell? ⟨gb + 1, 1, none⟩ = some (.slice A1 n1 c1) := b1.cell 1 rfl; have y21 : w8.cell? ⟨gb + 1, 2, none⟩ = some (.slice D1 m1 k1) := b1.cell 2 rfl; have yl1 := b1.lt
  have yk1 : gb < w8.heap.size := Nat.lt_of_succ_lt yl1
  have y05 : w8.cell? ⟨u4 + 1, 0, none⟩ = some (.int .i64 g1.pos) := b5.cell 0 rfl; have y15 : w8.cell? ⟨u4 + 1, 1, none⟩ = some (.slice A5 n5 c5) := b5.cell 1 rfl; have y25 : w8.cell? ⟨u4 + 1, 2, none⟩ = some (.slice D5 m5 k5) := b5.cell 2 rfl; have yl5 := b5.lt
  have yk5 : u4 < w8.heap.size := Nat.lt_of_succ_lt yl5
  go_wp2_with fail
  clear y01 y11 y21 yl1 yk1
  clear y05 y15 y25 yl5 yk5
  refine (Same_self A5 n5 c5 D5 m5 k5 A1 n1 c1 D1 m1 k1 _ g1 w8 (Nat.le_refl _) v5 v1).mono ?_
  rintro e w9 ⟨rfl, hb9⟩
  replace b := b.below hb9 b.lt; replace v := (v.below hb9).up hb9.size
  replace b1 := b1.below hb9 b1.lt; replace v1 := (v1.below hb9).up hb9.size
  replace b2 := b2.below hb9 b2.lt; replace v2 := (v2.below hb9).up hb9.size
  replace b3 := b3.below hb9 b3.lt; replace v3 := (v3.below hb9).up hb9.size
  replace b4 := b4.below hb9 b4.lt; replace v4 := (v4.below hb9).up hb9.size
  replace b5 := b5.below hb9 b5.lt; replace v5 := (v5.below hb9).up hb9.size
  have hB9 := hB8.trans (hb9.mono hB8.size)
  clear hb9 hB8
  go_wp2
  go_ret
  exact ⟨rfl, hB9⟩

end Sw
open Tx Df Hk Sw
open Go.ChangeShapes Go.WideShapes Go.ChangeAt

theorem swapBack_own : ownKnob Try.prog.godebug = none := by kernel_rfl
theorem swapBack_laidOut : laidOutB Try.prog = true := by kernel_rfl

set_option maxRecDepth 100000 in
theorem swapBack_lifted (os : Os) (started : os.Started) (H : Type) (enc : TypeId × Value → H) :
    ReturnsInHanded {} Try.checked os 5 .any (Rows.swapBackSpec.pre6 enc Try.prog Try.f5 Rows.swapBackRow.domain false) (Rows.swapBackSpec.post enc Try.prog Try.f5 false true false false) := by
  refine returnsInHanded_of_change (C := Try.checked) swapBack_own started (by kernel_rfl) Try.func5
    (ChangeSpec.witness6 (enc := enc) (C := Try.checked) false ⟨#[], #[.agg #[.int .i64 0, .slice none 0 0, .slice none 0 0], .agg #[.int .i64 0, .slice none 0 0, .slice none 0 0]], []⟩ 8 (by kernel_rfl) (by kernel_rfl) (by kernel_rfl) (by kernel_rfl)) ?_
  intro W base args ds gs before hval0 hW hcnd _
  have hval : ∀ (j : Nat) t v, Try.f5.params[j]? = some t → args[j]? = some v → Value.okWide Try.prog W .any base t v := hval0
  have hW' := hW
  obtain ⟨p, q, hA0, hV, rfl, hfz, hnd⟩ := hW
  have hA : DataW.TrodAll enc Try.prog W 0 (fun _ => true) true Try.f5.params.toList args.toList ds p := hA0
  rw [Try.params5] at hA hval
  obtain ⟨v0, vs0, d0, ds0, p0, q0, hargs, rfl, rfl, h0, r0⟩ := trodAll_cons hA
  obtain ⟨v1, vs1, d1, ds1, p1, q1, rfl, rfl, rfl, h1, r1⟩ := trodAll_cons r0
  obtain ⟨rfl, rfl, rfl⟩ := trodAll_nil r1
  obtain rfl : args = #[v0, v1] := by cases args; simp_all
  obtain ⟨rfl, rfl⟩ := trodVars_none hV
  have k0 := h0
  have lt0 : ∀ x ∈ p0, x.block < W.heap.size := by obtain ⟨m, hm⟩ := k0; exact DataW.trod_lt m _ _ _ hm
  obtain ⟨a0, n0, c0, b0, m0, e0, l0, rfl, s0⟩ := hunk_in (hval 0 24 v0 rfl rfl) h0
  have k1 := h1
  have lt1 : ∀ x ∈ p1, x.block < W.heap.size := by obtain ⟨m, hm⟩ := k1; exact DataW.trod_lt m _ _ _ hm
  obtain ⟨a1, n1, c1, b1, m1, e1, l1, rfl, s1⟩ := hunk_in (hval 1 24 v1 rfl rfl) h1
  clear hA0 hval0
  refine (swapBack_walk a0 n0 c0 b0 m0 e0 l0 a1 n1 c1 b1 m1 e1 l1 W s0 s1).mono fun e W' ⟨he, bel⟩ => ?_
  subst he
  exact ⟨_, rfl, _, _, _, [], _, [], hW', trodAll_mk1 (shut_bool Try.underlying4 _), (trodAll_cons_mk (Below.trod swapBack_laidOut (by kernel_rfl) (of_decide_eq_true (by kernel_rfl)) k0 bel lt0) (trodAll_cons_mk (Below.trod swapBack_laidOut (by kernel_rfl) (of_decide_eq_true (by kernel_rfl)) k1 bel lt1) trodAll_mk0)), rfl, bel.frame _, fun h => by cases h⟩

/-- The statement. -/
theorem swapBack_proved : Rows.SwapBackSaid :=
  OpenClaim.holds_of_wide 5 Try.f5 rfl rfl rfl rfl rfl rfl rfl ⟨rfl, rfl, rfl, rfl, rfl⟩ rfl rfl rfl rfl rfl (by kernel_rfl) Try.func5 (by kernel_rfl)
    (of_decide_eq_true (by kernel_rfl)) (by unfold Func.isWrapper; first | (rw [if_pos (by decide +kernel)]; kernel_rfl) | (rw [if_neg (by decide +kernel)]; exact ⟨rfl, rfl⟩))
    (fun os started H enc _ => swapBack_lifted os started H enc)

#print axioms swapBack_proved
end Go.Proofs.Ytdbhfohilfcgfaa
