/-
  The statement SwapSame: where both change a list, one behind the other, those that are told do so, in their order, to the same.
-/
import Derived.Test.YtdbhfohilfcgfaaSwLaw
import Derived.Test.YtdbhfohilfcgfaaSwAwake
import Derived.Test.YtdbhfohilfcgfaaHkOpen
import Derived.Test.YtdbhfohilfcgfaaQLaw
import Derived.Test.YtdbhfohilfcgfaaQSame
namespace Go.Proofs.Ytdbhfohilfcgfaa
open Go.RowKit
set_option linter.unusedVariables false
namespace Sw
open Tx Df Sq Hk

set_option maxRecDepth 100000 in
set_option maxHeartbeats 4000000 in
theorem swapSame_walk (A : Option Addr) (n c : Nat) (a : List (List UInt8)) (A1 : Option Addr) (n1 c1 : Nat) (D1 : Option Addr) (m1 k1 : Nat) (g1 : HU) (A2 : Option Addr) (n2 c2 : Nat) (D2 : Option Addr) (m2 k2 : Nat) (g2 : HU) (w : World) (h : StrArg w A n c a) (v1 : HV w w.heap.size A1 n1 c1 D1 m1 k1 g1) (v2 : HV w w.heap.size A2 n2 c2 D2 m2 k2 g2) :
    Calls Try.prog 4 #[.slice A n c, hkV g1.pos A1 n1 c1 D1 m1 k1, hkV g2.pos A2 n2 c2 D2 m2 k2] w (LawEnd w) := by
  go_enter Try.func4, Try.ntmps4
  go_wp2_with fail
  have hw0 : Below w.heap.size w ((w.alloc (.cells #[.int .i64 g1.pos, .slice A1 n1 c1, .slice D1 m1 k1] 24)).alloc (.cells #[.int .i64 g2.pos, .slice A2 n2 c2, .slice D2 m2 k2] 24)) := (((Below.refl _ _).alloc (Nat.le_refl _) _).alloc (by simp) _)
  have b1 := (Blk.new w 24 #[.int .i64 g1.pos, .slice A1 n1 c1, .slice D1 m1 k1]).alloc (.cells #[.int .i64 g2.pos, .slice A2 n2 c2, .slice D2 m2 k2] 24)
  have b2 := Blk.new (w.alloc (.cells #[.int .i64 g1.pos, .slice A1 n1 c1, .slice D1 m1 k1] 24)) 24 #[.int .i64 g2.pos, .slice A2 n2 c2, .slice D2 m2 k2]
  simp only [World.size_alloc] at b2
  generalize ((w.alloc (.cells #[.int .i64 g1.pos, .slice A1 n1 c1, .slice D1 m1 k1] 24)).alloc (.cells #[.int .i64 g2.pos, .slice A2 n2 c2, .slice D2 m2 k2] 24)) = w0 at *
  obtain ⟨gb, hgb⟩ : ∃ gb, w.heap.size = gb := ⟨_, rfl⟩
  rw [hgb] at ⊢ b1 b2
  clear hgb
  refine (awake w0).mono ?_
  rintro e w1 ⟨rfl, hb1⟩
  have hB1 := hw0.trans (hb1.mono hw0.size)
  replace b1 := b1.below hb1 b1.lt; replace v1 := (v1.below hB1).up hB1.size
  replace b2 := b2.below hb1 b2.lt; replace v2 := (v2.below hB1).up hB1.size
  clear hw0 hb1
  have y01 : w1.cell? ⟨gb, 0, none⟩ = some (.int .i64 g1.pos) := b1.cell 0 rfl; have y11 : w1.cell? ⟨gb, 1, none⟩ = some (.slice A1 n1 c1) := b1.cell 1 rfl; have y21 : w1.cell? ⟨gb, 2, none⟩ = some (.slice D1 m1 k1) := b1.cell 2 rfl; have yl1 := b1.lt
  have yk1 := yl1
  go_wp2_with fail
  refine (LightH A1 n1 c1 D1 m1 k1 _ g1 w1 (Nat.le_refl _) v1).mono ?_
  rintro e w2 ⟨rfl, hb2⟩
  clear y01 y11 y21 yl1 yk1
  replace b1 := b1.below hb2 b1.lt; replace v1 := (v1.below hb2).up hb2.size
  replace b2 := b2.below hb2 b2.lt; replace v2 := (v2.below hb2).up hb2.size
  have hB2 := hB1.trans (hb2.mono hB1.size)
  clear hb2 hB1
  have y02 : w2.cell? ⟨gb + 1, 0, none⟩ = some (.int .i64 g2.pos) := b2.cell 0 rfl; have y12 : w2.cell? ⟨gb + 1, 1, none⟩ = some (.slice A2 n2 c2) := b2.cell 1 rfl; have y22 : w2.cell? ⟨gb + 1, 2, none⟩ = some (.slice D2 m2 k2) := b2.cell 2 rfl; have yl2 := b2.lt
  have yk2 : gb < w2.heap.size := Nat.lt_of_succ_lt yl2
  go_wp2_with fail
  refine (LightH A2 n2 c2 D2 m2 k2 _ g2 w2 (Nat.le_refl _) v2).mono ?_
  rintro e w3 ⟨rfl, hb3⟩
  clear y02 y12 y22 yl2 yk2
  replace b1 := b1.below hb3 b1.lt; replace v1 := (v1.below hb3).up hb3.size
  replace b2 := b2.below hb3 b2.lt; replace v2 := (v2.below hb3).up hb3.size
  have hB3 := hB2.trans (hb3.mono hB2.size)
  clear hb3 hB2
  go_wp2_with fail
  refine (Light _ _ _ _ 300 a _ h.len h.le (h.rd.below hB3) (by decide)).mono ?_
  rintro e w' ⟨rfl, rfl⟩
  cases hl : (light g1.old 300 && light g1.new 300) with
  | false =>
    clear hl
    go_wp2
    go_ret
    exact ⟨rfl, hB3⟩
  | true =>
  rw [Bool.and_eq_true] at hl
  have ln1 := light_len hl.1 v1.l; have lm1 := light_len hl.2 v1.l'
  have HLT1 := Lib.hid hl; clear hl
  have hn1 : n1 ≤ 1000 := by omega
  have hm1 : m1 ≤ 1000 := by omega
  cases hl : (light g2.old 300 && light g2.new 300) with
  | false =>
    clear hl
    go_wp2
    go_ret
    exact ⟨rfl, hB3⟩
  | true =>
  rw [Bool.and_eq_true] at hl
  have ln2 := light_len hl.1 v2.l; have lm2 := light_len hl.2 v2.l'
  have HLT2 := Lib.hid hl; clear hl
  have hn2 : n2 ≤ 1000 := by omega
  have hm2 : m2 ≤ 1000 := by omega
  cases hl : (light a 300) with
  | false =>
    clear hl
    go_wp2
    go_ret
    exact ⟨rfl, hB3⟩
  | true =>
  have hn := light_len hl h.len
  clear hl
  have y01 : w3.cell? ⟨gb, 0, none⟩ = some (.int .i64 g1.pos) := b1.cell 0 rfl; have y11 : w3.cell? ⟨gb, 1, none⟩ = some (.slice A1 n1 c1) := b1.cell 1 rfl; have y21 : w3.cell? ⟨gb, 2, none⟩ = some (.slice D1 m1 k1) := b1.cell 2 rfl; have yl1 := b1.lt
  have yk1 := yl1
  have y02 : w3.cell? ⟨gb + 1, 0, none⟩ = some (.int .i64 g2.pos) := b2.cell 0 rfl; have y12 : w3.cell? ⟨gb + 1, 1, none⟩ = some (.slice A2 n2 c2) := b2.cell 1 rfl; have y22 : w3.cell? ⟨gb + 1, 2, none⟩ = some (.slice D2 m2 k2) := b2.cell 2 rfl; have yl2 := b2.lt
  have yk2 : gb < w3.heap.size := Nat.lt_of_succ_lt yl2
  go_wp2_with fail
  clear y01 y11 y21 yl1 yk1
  clear y02 y12 y22 yl2 yk2
  obtain ⟨⟨g3, g4⟩, hx3⟩ : ∃ z, outH (passH g1 g2) = z := ⟨_, rfl⟩
  obtain ⟨is, hs3⟩ : ∃ b, (passH g1 g2).isSome = b := ⟨_, rfl⟩
  refine (PassL A1 n1 c1 D1 m1 k1 A2 n2 c2 D2 m2 k2 w3.heap.size g1 g2 w3 g3 g4 is (Nat.le_refl _) hn1 hm1 hn2 hm2 v1 v2 hx3 hs3).mono ?_
  rintro e w4 ⟨A3, n3, c3, D3, m3, k3, A4, n4, c4, D4, m4, k4, rfl, v3, v4, ⟨hn3, hm3, hn4, hm4⟩, hb4⟩
  replace b1 := b1.below hb4 b1.lt; replace v1 := (v1.below hb4).up hb4.size
  replace b2 := b2.below hb4 b2.lt; replace v2 := (v2.below hb4).up hb4.size
  have hB4 := hB3.trans (hb4.mono hB3.size)
  clear hb4 hB3
  have HX3 := Lib.hid hx3; have HS3 := Lib.hid hs3; clear hx3 hs3
  have y01 : w4.cell? ⟨gb, 0, none⟩ = some (.int .i64 g1.pos) := b1.cell 0 rfl; have y11 : w4.cell? ⟨gb, 1, none⟩ = some (.slice A1 n1 c1) := b1.cell 1 rfl; have y21 : w4.cell? ⟨gb, 2, none⟩ = some (.slice D1 m1 k1) := b1.cell 2 rfl; have yl1 := b1.lt
  have yk1 := yl1
  go_wp2_with fail
  clear y01 y11 y21 yl1 yk1
  have hb5 : Below w4.heap.size w4 ((w4.alloc (.cells #[.int .i64 g3.pos, .slice A3 n3 c3, .slice D3 m3 k3] 24)).alloc (.cells #[.int .i64 g4.pos, .slice A4 n4 c4, .slice D4 m4 k4] 24)) := ((Below.refl _ _).alloc (Nat.le_refl _) _).alloc (by simp) _
  have b3 := (Blk.new w4 24 #[.int .i64 g3.pos, .slice A3 n3 c3, .slice D3 m3 k3]).alloc (.cells #[.int .i64 g4.pos, .slice A4 n4 c4, .slice D4 m4 k4] 24)
  have b4 := Blk.new (w4.alloc (.cells #[.int .i64 g3.pos, .slice A3 n3 c3, .slice D3 m3 k3] 24)) 24 #[.int .i64 g4.pos, .slice A4 n4 c4, .slice D4 m4 k4]
  simp only [World.size_alloc] at b4
  replace b1 := b1.below hb5 b1.lt; replace v1 := (v1.below hb5).up hb5.size
  replace b2 := b2.below hb5 b2.lt; replace v2 := (v2.below hb5).up hb5.size
  replace v3 := (v3.below hb5).up hb5.size
  replace v4 := (v4.below hb5).up hb5.size
  have hB5 := hB4.trans (hb5.mono hB4.size)
  clear hb5 hB4
  generalize ((w4.alloc (.cells #[.int .i64 g3.pos, .slice A3 n3 c3, .slice D3 m3 k3] 24)).alloc (.cells #[.int .i64 g4.pos, .slice A4 n4 c4, .slice D4 m4 k4] 24)) = w5 at *
  generalize w4.heap.size = u3 at *
  refine (Apply A n c A1 n1 c1 D1 m1 k1 w5.heap.size a g1 w5 (Nat.le_refl _) h.len h.cap (by omega) hn1 hm1 ((Rd.below h.rd hB5).up hB5.size) v1).mono ?_
  rintro e w6 ⟨Em, lm, jm, rfl, hcm, hlm, hrm, hb6⟩
  replace b1 := b1.below hb6 b1.lt; replace v1 := (v1.below hb6).up hb6.size
  replace b2 := b2.below hb6 b2.lt; replace v2 := (v2.below hb6).up hb6.size
  replace b3 := b3.below hb6 b3.lt; replace v3 := (v3.below hb6).up hb6.size
  replace b4 := b4.below hb6 b4.lt; replace v4 := (v4.below hb6).up hb6.size
  have hB6 := hB5.trans (hb6.mono hB5.size)
  clear hb6 hB5
  have hkm : lm ≤ 600 := by
    have := applyL_len (l := a) (h := g1)
    rw [hlm, h.len, v1.l'] at this
    omega
  have y02 : w6.cell? ⟨gb + 1, 0, none⟩ = some (.int .i64 g2.pos) := b2.cell 0 rfl; have y12 : w6.cell? ⟨gb + 1, 1, none⟩ = some (.slice A2 n2 c2) := b2.cell 1 rfl; have y22 : w6.cell? ⟨gb + 1, 2, none⟩ = some (.slice D2 m2 k2) := b2.cell 2 rfl; have yl2 := b2.lt
  have yk2 : gb < w6.heap.size := Nat.lt_of_succ_lt yl2
  go_wp2_with fail
  clear y02 y12 y22 yl2 yk2
  refine (Apply Em lm jm A2 n2 c2 D2 m2 k2 w6.heap.size (applyL a g1) g2 w6 (Nat.le_refl _) hlm hcm (by omega) hn2 hm2 hrm v2).mono ?_
  rintro e w7 ⟨En, ln, jn, rfl, hcn, hln, hrn, hb7⟩
  replace hrm := Rd.up (Rd.below hrm hb7) hb7.size
  replace b1 := b1.below hb7 b1.lt; replace v1 := (v1.below hb7).up hb7.size
  replace b2 := b2.below hb7 b2.lt; replace v2 := (v2.below hb7).up hb7.size
  replace b3 := b3.below hb7 b3.lt; replace v3 := (v3.below hb7).up hb7.size
  replace b4 := b4.below hb7 b4.lt; replace v4 := (v4.below hb7).up hb7.size
  have hB7 := hB6.trans (hb7.mono hB6.size)
  clear hb7 hB6
  have hkn : ln ≤ 900 := by
    have := applyL_len (l := applyL a g1) (h := g2)
    rw [hln, hlm, v2.l'] at this
    omega
  cases is with
  | false =>
    generalize applyE a g1 = e1
    generalize applyE (applyL a g1) g2 = e2
    clear HX3 HS3
    go_wp2
    go_ret
    exact ⟨rfl, hB7⟩
  | true =>
  by_cases t1 : applyE a g1 = 0
  rotate_left
  · have hne : (applyE a g1 != 0) = true := by rw [bne_iff_ne]; exact t1
    generalize applyE a g1 = e1 at *
    generalize applyE (applyL a g1) g2 = e2
    clear HX3 HS3 t1
    go_wp2
    go_ret
    exact ⟨rfl, hB7⟩
  by_cases t2 : applyE (applyL a g1) g2 = 0
  rotate_left
  · have hne : (applyE (applyL a g1) g2 != 0) = true := by rw [bne_iff_ne]; exact t2
    rw [t1]
    generalize applyE (applyL a g1) g2 = e2 at *
    clear HX3 HS3 t1 t2
    go_wp2
    go_ret
    exact ⟨rfl, hB7⟩
  have hm3' : m3 ≤ 300 := by
    have hq := (pass_moves (x := g3) (y := g4) (passH_may (outH_of HX3.out HS3.out)).2.2.1).2.2.1
    rw [← v3.l', hq, v2.l']
    omega
  obtain ⟨t3, t4, t5⟩ := passH_same (outH_of HX3.out HS3.out) t1 t2
  rw [t1, t2]
  rw [← t5] at hrn hln
  have T3 := Lib.hid t3; have T4 := Lib.hid t4
  clear HX3 HS3 t1 t2 t3 t4 t5
  have y03 : w7.cell? ⟨u3, 0, none⟩ = some (.int .i64 g3.pos) := b3.cell 0 rfl; have y13 : w7.cell? ⟨u3, 1, none⟩ = some (.slice A3 n3 c3) := b3.cell 1 rfl; have y23 : w7.cell? ⟨u3, 2, none⟩ = some (.slice D3 m3 k3) := b3.cell 2 rfl; have yl3 := b3.lt
  have yk3 := yl3
  go_wp2_with fail
  clear y03 y13 y23 yl3 yk3
  refine (Apply A n c A3 n3 c3 D3 m3 k3 w7.heap.size a g3 w7 (Nat.le_refl _) h.len h.cap (by omega) hn3 hm3 ((Rd.below h.rd hB7).up hB7.size) v3).mono ?_
  rintro e w8 ⟨Ek, lk, jk, rfl, hck, hlk, hrk, hb8⟩
  replace hrm := Rd.up (Rd.below hrm hb8) hb8.size
  replace hrn := Rd.up (Rd.below hrn hb8) hb8.size
  replace b1 := b1.below hb8 b1.lt; replace v1 := (v1.below hb8).up hb8.size
  replace b2 := b2.below hb8 b2.lt; replace v2 := (v2.below hb8).up hb8.size
  replace b3 := b3.below hb8 b3.lt; replace v3 := (v3.below hb8).up hb8.size
  replace b4 := b4.below hb8 b4.lt; replace v4 := (v4.below hb8).up hb8.size
  have hB8 := hB7.trans (hb8.mono hB7.size)
  clear hb8 hB7
  rw [T3.out]
  have hkk : lk ≤ 600 := by
    have := applyL_len (l := a) (h := g3)
    rw [hlk, h.len, v3.l'] at this
    have := hm3'
    omega
  have y04 : w8.cell? ⟨u3 + 1, 0, none⟩ = some (.int .i64 g4.pos) := b4.cell 0 rfl; have y14 : w8.cell? ⟨u3 + 1, 1, none⟩ = some (.slice A4 n4 c4) := b4.cell 1 rfl; have y24 : w8.cell? ⟨u3 + 1, 2, none⟩ = some (.slice D4 m4 k4) := b4.cell 2 rfl; have yl4 := b4.lt
  have yk4 : u3 < w8.heap.size := Nat.lt_of_succ_lt yl4
  go_wp2_with fail
  clear y04 y14 y24 yl4 yk4
  refine (Apply Ek lk jk A4 n4 c4 D4 m4 k4 w8.heap.size (applyL a g3) g4 w8 (Nat.le_refl _) hlk hck (by omega) hn4 hm4 hrk v4).mono ?_
  rintro e w9 ⟨Eo, lo, jo, rfl, hco, hlo, hro, hb9⟩
  replace hrm := Rd.up (Rd.below hrm hb9) hb9.size
  replace hrn := Rd.up (Rd.below hrn hb9) hb9.size
  replace hrk := Rd.up (Rd.below hrk hb9) hb9.size
  replace b1 := b1.below hb9 b1.lt; replace v1 := (v1.below hb9).up hb9.size
  replace b2 := b2.below hb9 b2.lt; replace v2 := (v2.below hb9).up hb9.size
  replace b3 := b3.below hb9 b3.lt; replace v3 := (v3.below hb9).up hb9.size
  replace b4 := b4.below hb9 b4.lt; replace v4 := (v4.below hb9).up hb9.size
  have hB9 := hB8.trans (hb9.mono hB8.size)
  clear hb9 hB8
  rw [T4.out]
  go_wp2_with fail
  refine (Same En Eo jn jo ln lo w9.heap.size _ _ w9 hln hlo (by unfold maxLen; omega) hrn hro).mono ?_
  rw [decide_eq_true rfl]
  rintro e w' ⟨rfl, d, rfl⟩
  go_wp2
  go_ret
  exact ⟨rfl, below_drewN hB9 d⟩

end Sw
open Tx Df Hk Sw
open Go.ChangeShapes Go.WideShapes Go.ChangeAt

theorem swapSame_own : ownKnob Try.prog.godebug = none := by kernel_rfl
theorem swapSame_laidOut : laidOutB Try.prog = true := by kernel_rfl

set_option maxRecDepth 100000 in
theorem swapSame_lifted (os : Os) (started : os.Started) (H : Type) (enc : TypeId × Value → H) :
    ReturnsInHanded {} Try.checked os 4 .any (Rows.swapSameSpec.pre6 enc Try.prog Try.f4 Rows.swapSameRow.domain false) (Rows.swapSameSpec.post enc Try.prog Try.f4 false true false false) := by
  refine returnsInHanded_of_change (C := Try.checked) swapSame_own started (by kernel_rfl) Try.func4
    (ChangeSpec.witness6 (enc := enc) (C := Try.checked) false ⟨#[], #[.slice none 0 0, .agg #[.int .i64 0, .slice none 0 0, .slice none 0 0], .agg #[.int .i64 0, .slice none 0 0, .slice none 0 0]], []⟩ 8 (by kernel_rfl) (by kernel_rfl) (by kernel_rfl) (by kernel_rfl)) ?_
  intro W base args ds gs before hval0 hW hcnd _
  have hval : ∀ (j : Nat) t v, Try.f4.params[j]? = some t → args[j]? = some v → Value.okWide Try.prog W .any base t v := hval0
  have hW' := hW
  obtain ⟨p, q, hA0, hV, rfl, hfz, hnd⟩ := hW
  have hA : DataW.TrodAll enc Try.prog W 0 (fun _ => true) true Try.f4.params.toList args.toList ds p := hA0
  rw [Try.params4] at hA hval
  obtain ⟨v0, vs0, d0, ds0, p0, q0, hargs, rfl, rfl, h0, r0⟩ := trodAll_cons hA
  obtain ⟨v1, vs1, d1, ds1, p1, q1, rfl, rfl, rfl, h1, r1⟩ := trodAll_cons r0
  obtain ⟨v2, vs2, d2, ds2, p2, q2, rfl, rfl, rfl, h2, r2⟩ := trodAll_cons r1
  obtain ⟨rfl, rfl, rfl⟩ := trodAll_nil r2
  obtain rfl : args = #[v0, v1, v2] := by cases args; simp_all
  obtain ⟨rfl, rfl⟩ := trodVars_none hV
  obtain ⟨a0, n0, c0, rfl⟩ := okWide_slice Try.underlying22 (hval 0 22 v0 rfl rfl)
  have k0 := h0
  have lt0 : ∀ x ∈ p0, x.block < W.heap.size := by obtain ⟨m, hm⟩ := k0; exact DataW.trod_lt m _ _ _ hm
  obtain ⟨l0, s0⟩ : ∃ l, StrArg W a0 n0 c0 l := by
    obtain ⟨fuel, hf⟩ := h0
    exact strs_in hf (by simp [Value.cells])
  have k1 := h1
  have lt1 : ∀ x ∈ p1, x.block < W.heap.size := by obtain ⟨m, hm⟩ := k1; exact DataW.trod_lt m _ _ _ hm
  obtain ⟨a1, n1, c1, b1, m1, e1, l1, rfl, s1⟩ := hunk_in (hval 1 24 v1 rfl rfl) h1
  have k2 := h2
  have lt2 : ∀ x ∈ p2, x.block < W.heap.size := by obtain ⟨m, hm⟩ := k2; exact DataW.trod_lt m _ _ _ hm
  obtain ⟨a2, n2, c2, b2, m2, e2, l2, rfl, s2⟩ := hunk_in (hval 2 24 v2 rfl rfl) h2
  clear hA0 hval0
  refine (swapSame_walk a0 n0 c0 l0 a1 n1 c1 b1 m1 e1 l1 a2 n2 c2 b2 m2 e2 l2 W s0 s1 s2).mono fun e W' ⟨he, bel⟩ => ?_
  subst he
  exact ⟨_, rfl, _, _, _, [], _, [], hW', trodAll_mk1 (shut_bool Try.underlying4 _), (trodAll_cons_mk (Below.trod swapSame_laidOut (by kernel_rfl) (of_decide_eq_true (by kernel_rfl)) k0 bel lt0) (trodAll_cons_mk (Below.trod swapSame_laidOut (by kernel_rfl) (of_decide_eq_true (by kernel_rfl)) k1 bel lt1) (trodAll_cons_mk (Below.trod swapSame_laidOut (by kernel_rfl) (of_decide_eq_true (by kernel_rfl)) k2 bel lt2) trodAll_mk0))), rfl, bel.frame _, fun h => by cases h⟩

/-- The statement. -/
theorem swapSame_proved : Rows.SwapSameSaid :=
  OpenClaim.holds_of_wide 4 Try.f4 rfl rfl rfl rfl rfl rfl rfl ⟨rfl, rfl, rfl, rfl, rfl⟩ rfl rfl rfl rfl rfl (by kernel_rfl) Try.func4 (by kernel_rfl)
    (of_decide_eq_true (by kernel_rfl)) (by unfold Func.isWrapper; first | (rw [if_pos (by decide +kernel)]; kernel_rfl) | (rw [if_neg (by decide +kernel)]; exact ⟨rfl, rfl⟩))
    (fun os started H enc _ => swapSame_lifted os started H enc)

#print axioms swapSame_proved
end Go.Proofs.Ytdbhfohilfcgfaa
