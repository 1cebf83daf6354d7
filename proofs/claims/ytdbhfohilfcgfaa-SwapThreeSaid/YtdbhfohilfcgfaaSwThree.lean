/-
  The statement SwapThree: three of which each two pass one another come to the same in the turned order, by either way.
-/
import Derived.Test.YtdbhfohilfcgfaaSwLaw
import Derived.Test.YtdbhfohilfcgfaaSwAwake
import Derived.Test.YtdbhfohilfcgfaaHkOpen
import Derived.Test.YtdbhfohilfcgfaaQLaw
namespace Go.Proofs.Ytdbhfohilfcgfaa
open Go.RowKit
set_option linter.unusedVariables false
namespace Sw
open Tx Df Sq Hk

set_option maxRecDepth 100000 in
set_option maxHeartbeats 4000000 in
theorem swapThree_walk (A : Option Addr) (n c : Nat) (D : Option Addr) (m k : Nat) (g : HU) (A1 : Option Addr) (n1 c1 : Nat) (D1 : Option Addr) (m1 k1 : Nat) (g1 : HU) (A2 : Option Addr) (n2 c2 : Nat) (D2 : Option Addr) (m2 k2 : Nat) (g2 : HU) (w : World) (v : HV w w.heap.size A n c D m k g) (v1 : HV w w.heap.size A1 n1 c1 D1 m1 k1 g1) (v2 : HV w w.heap.size A2 n2 c2 D2 m2 k2 g2) :
    Calls Try.prog 7 #[hkV g.pos A n c D m k, hkV g1.pos A1 n1 c1 D1 m1 k1, hkV g2.pos A2 n2 c2 D2 m2 k2] w (LawEnd w) := by
  go_enter Try.func7, Try.ntmps7
  go_wp2_with fail
  have hw0 : Below w.heap.size w (((w.alloc (.cells #[.int .i64 g.pos, .slice A n c, .slice D m k] 24)).alloc (.cells #[.int .i64 g1.pos, .slice A1 n1 c1, .slice D1 m1 k1] 24)).alloc (.cells #[.int .i64 g2.pos, .slice A2 n2 c2, .slice D2 m2 k2] 24)) := ((((Below.refl _ _).alloc (Nat.le_refl _) _).alloc (by simp) _).alloc (by simp; omega) _)
  have b := ((Blk.new w 24 #[.int .i64 g.pos, .slice A n c, .slice D m k]).alloc (.cells #[.int .i64 g1.pos, .slice A1 n1 c1, .slice D1 m1 k1] 24)).alloc (.cells #[.int .i64 g2.pos, .slice A2 n2 c2, .slice D2 m2 k2] 24)
  have b1 := (Blk.new (w.alloc (.cells #[.int .i64 g.pos, .slice A n c, .slice D m k] 24)) 24 #[.int .i64 g1.pos, .slice A1 n1 c1, .slice D1 m1 k1]).alloc (.cells #[.int .i64 g2.pos, .slice A2 n2 c2, .slice D2 m2 k2] 24)
  have b2 := Blk.new ((w.alloc (.cells #[.int .i64 g.pos, .slice A n c, .slice D m k] 24)).alloc (.cells #[.int .i64 g1.pos, .slice A1 n1 c1, .slice D1 m1 k1] 24)) 24 #[.int .i64 g2.pos, .slice A2 n2 c2, .slice D2 m2 k2]
  simp only [World.size_alloc] at b1 b2
  generalize (((w.alloc (.cells #[.int .i64 g.pos, .slice A n c, .slice D m k] 24)).alloc (.cells #[.int .i64 g1.pos, .slice A1 n1 c1, .slice D1 m1 k1] 24)).alloc (.cells #[.int .i64 g2.pos, .slice A2 n2 c2, .slice D2 m2 k2] 24)) = w0 at *
  obtain ⟨gb, hgb⟩ : ∃ gb, w.heap.size = gb := ⟨_, rfl⟩
  rw [hgb] at ⊢ b b1 b2
  rw [show gb + 1 + 1 = gb + 2 from rfl] at ⊢ b2
  clear hgb
  refine (awake w0).mono ?_
  rintro e w1 ⟨rfl, hb1⟩
  have hB1 := hw0.trans (hb1.mono hw0.size)
  replace b := b.below hb1 b.lt; replace v := (v.below hB1).up hB1.size
  replace b1 := b1.below hb1 b1.lt; replace v1 := (v1.below hB1).up hB1.size
  replace b2 := b2.below hb1 b2.lt; replace v2 := (v2.below hB1).up hB1.size
  clear hw0 hb1
  have y0 : w1.cell? ⟨gb, 0, none⟩ = some (.int .i64 g.pos) := b.cell 0 rfl; have y1 : w1.cell? ⟨gb, 1, none⟩ = some (.slice A n c) := b.cell 1 rfl; have y2 : w1.cell? ⟨gb, 2, none⟩ = some (.slice D m k) := b.cell 2 rfl; have yl := b.lt
  have yk := yl
  go_wp2_with fail
  refine (LightH A n c D m k _ g w1 (Nat.le_refl _) v).mono ?_
  rintro e w2 ⟨rfl, hb2⟩
  clear y0 y1 y2 yl yk
  replace b := b.below hb2 b.lt; replace v := (v.below hb2).up hb2.size
  replace b1 := b1.below hb2 b1.lt; replace v1 := (v1.below hb2).up hb2.size
  replace b2 := b2.below hb2 b2.lt; replace v2 := (v2.below hb2).up hb2.size
  have hB2 := hB1.trans (hb2.mono hB1.size)
  clear hb2 hB1
  have y01 : w2.cell? ⟨gb + 1, 0, none⟩ = some (.int .i64 g1.pos) := b1.cell 0 rfl; have y11 : w2.cell? ⟨gb + 1, 1, none⟩ = some (.slice A1 n1 c1) := b1.cell 1 rfl; have y21 : w2.cell? ⟨gb + 1, 2, none⟩ = some (.slice D1 m1 k1) := b1.cell 2 rfl; have yl1 := b1.lt
  have yk1 : gb < w2.heap.size := Nat.lt_of_succ_lt yl1
  go_wp2_with fail
  refine (LightH A1 n1 c1 D1 m1 k1 _ g1 w2 (Nat.le_refl _) v1).mono ?_
  rintro e w3 ⟨rfl, hb3⟩
  clear y01 y11 y21 yl1 yk1
  replace b := b.below hb3 b.lt; replace v := (v.below hb3).up hb3.size
  replace b1 := b1.below hb3 b1.lt; replace v1 := (v1.below hb3).up hb3.size
  replace b2 := b2.below hb3 b2.lt; replace v2 := (v2.below hb3).up hb3.size
  have hB3 := hB2.trans (hb3.mono hB2.size)
  clear hb3 hB2
  have y02 : w3.cell? ⟨gb + 2, 0, none⟩ = some (.int .i64 g2.pos) := b2.cell 0 rfl; have y12 : w3.cell? ⟨gb + 2, 1, none⟩ = some (.slice A2 n2 c2) := b2.cell 1 rfl; have y22 : w3.cell? ⟨gb + 2, 2, none⟩ = some (.slice D2 m2 k2) := b2.cell 2 rfl; have yl2 := b2.lt
  have yk2 : gb + 1 < w3.heap.size := Nat.lt_of_succ_lt yl2
  go_wp2_with fail
  refine (LightH A2 n2 c2 D2 m2 k2 _ g2 w3 (Nat.le_refl _) v2).mono ?_
  rintro e w4 ⟨rfl, hb4⟩
  clear y02 y12 y22 yl2 yk2
  replace b := b.below hb4 b.lt; replace v := (v.below hb4).up hb4.size
  replace b1 := b1.below hb4 b1.lt; replace v1 := (v1.below hb4).up hb4.size
  replace b2 := b2.below hb4 b2.lt; replace v2 := (v2.below hb4).up hb4.size
  have hB4 := hB3.trans (hb4.mono hB3.size)
  clear hb4 hB3
  cases hl : (light g.old 300 && light g.new 300) with
  | false =>
    clear hl
    go_wp2
    go_ret
    exact ⟨rfl, hB4⟩
  | true =>
  rw [Bool.and_eq_true] at hl
  have ln := light_len hl.1 v.l; have lm := light_len hl.2 v.l'
  have HLT := Lib.hid hl; clear hl
  have hn : n ≤ 1000 := by omega
  have hm : m ≤ 1000 := by omega
  cases hl : (light g1.old 300 && light g1.new 300) with
  | false =>
    clear hl
    go_wp2
    go_ret
    exact ⟨rfl, hB4⟩
  | true =>
  rw [Bool.and_eq_true] at hl
  have ln1 := light_len hl.1 v1.l; have lm1 := light_len hl.2 v1.l'
  have HLT1 := Lib.hid hl; clear hl
  have hn1 : n1 ≤ 1000 := by omega
  have hm1 : m1 ≤ 1000 := by omega
  cases hl : (light g2.old 300 && light g2.new 300) with
  | false =>
    clear hl
    go_wp2
    go_ret
    exact ⟨rfl, hB4⟩
  | true =>
  rw [Bool.and_eq_true] at hl
  have ln2 := light_len hl.1 v2.l; have lm2 := light_len hl.2 v2.l'
  have HLT2 := Lib.hid hl; clear hl
  have hn2 : n2 ≤ 1000 := by omega
  have hm2 : m2 ≤ 1000 := by omega
  have y0 : w4.cell? ⟨gb, 0, none⟩ = some (.int .i64 g.pos) := b.cell 0 rfl; have y1 : w4.cell? ⟨gb, 1, none⟩ = some (.slice A n c) := b.cell 1 rfl; have y2 : w4.cell? ⟨gb, 2, none⟩ = some (.slice D m k) := b.cell 2 rfl; have yl := b.lt
  have yk := yl
  have y01 : w4.cell? ⟨gb + 1, 0, none⟩ = some (.int .i64 g1.pos) := b1.cell 0 rfl; have y11 : w4.cell? ⟨gb + 1, 1, none⟩ = some (.slice A1 n1 c1) := b1.cell 1 rfl; have y21 : w4.cell? ⟨gb + 1, 2, none⟩ = some (.slice D1 m1 k1) := b1.cell 2 rfl; have yl1 := b1.lt
  have yk1 : gb < w4.heap.size := Nat.lt_of_succ_lt yl1
  have y02 : w4.cell? ⟨gb + 2, 0, none⟩ = some (.int .i64 g2.pos) := b2.cell 0 rfl; have y12 : w4.cell? ⟨gb + 2, 1, none⟩ = some (.slice A2 n2 c2) := b2.cell 1 rfl; have y22 : w4.cell? ⟨gb + 2, 2, none⟩ = some (.slice D2 m2 k2) := b2.cell 2 rfl; have yl2 := b2.lt
  have yk2 : gb + 1 < w4.heap.size := Nat.lt_of_succ_lt yl2
  by_cases t0 : 524288 < g.pos
  · go_wp2
    go_ret
    exact ⟨rfl, hB4⟩
  by_cases t1 : 524288 < g1.pos
  · go_wp2
    go_ret
    exact ⟨rfl, hB4⟩
  by_cases t2 : 524288 < g2.pos
  · go_wp2
    go_ret
    exact ⟨rfl, hB4⟩
  go_wp2_with fail
  clear t0 t1 t2
  clear y0 y1 y2 yl yk
  clear y01 y11 y21 yl1 yk1
  clear y02 y12 y22 yl2 yk2
  obtain ⟨⟨g3, g4⟩, hx3⟩ : ∃ z, outH (passH g g1) = z := ⟨_, rfl⟩
  obtain ⟨bi, hs3⟩ : ∃ b, (passH g g1).isSome = b := ⟨_, rfl⟩
  refine (PassL A n c D m k A1 n1 c1 D1 m1 k1 w4.heap.size g g1 w4 g3 g4 bi (Nat.le_refl _) hn hm hn1 hm1 v v1 hx3 hs3).mono ?_
  rintro e w5 ⟨A3, n3, c3, D3, m3, k3, A4, n4, c4, D4, m4, k4, rfl, v3, v4, ⟨hn3, hm3, hn4, hm4⟩, hb5⟩
  replace b := b.below hb5 b.lt; replace v := (v.below hb5).up hb5.size
  replace b1 := b1.below hb5 b1.lt; replace v1 := (v1.below hb5).up hb5.size
  replace b2 := b2.below hb5 b2.lt; replace v2 := (v2.below hb5).up hb5.size
  have hB5 := hB4.trans (hb5.mono hB4.size)
  clear hb5 hB4
  have HX3 := Lib.hid hx3; have HS3 := Lib.hid hs3; clear hx3 hs3
  have y02 : w5.cell? ⟨gb + 2, 0, none⟩ = some (.int .i64 g2.pos) := b2.cell 0 rfl; have y12 : w5.cell? ⟨gb + 2, 1, none⟩ = some (.slice A2 n2 c2) := b2.cell 1 rfl; have y22 : w5.cell? ⟨gb + 2, 2, none⟩ = some (.slice D2 m2 k2) := b2.cell 2 rfl; have yl2 := b2.lt
  have yk2 : gb + 1 < w5.heap.size := Nat.lt_of_succ_lt yl2
  have Zb := Lib.hid b; have Zb1 := Lib.hid b1; have Zb2 := Lib.hid b2; have Zv := Lib.hid v; have Zv1 := Lib.hid v1; have Zv2 := Lib.hid v2; have Zv3 := Lib.hid v3; have Zv4 := Lib.hid v4; clear b b1 b2 v v1 v2 v3 v4
  have Zhn := Lib.hid hn; have Zhn1 := Lib.hid hn1; have Zhn2 := Lib.hid hn2; have Zhn3 := Lib.hid hn3; have Zhn4 := Lib.hid hn4; have Zhm := Lib.hid hm; have Zhm1 := Lib.hid hm1; have Zhm2 := Lib.hid hm2; clear hn hn1 hn2 hn3 hn4 hm hm1 hm2
  have Zhm3 := Lib.hid hm3; have Zhm4 := Lib.hid hm4; have ZhB5 := Lib.hid hB5; have Zln := Lib.hid ln; have Zlm := Lib.hid lm; have Zln1 := Lib.hid ln1; have Zlm1 := Lib.hid lm1; have Zln2 := Lib.hid ln2; clear hm3 hm4 hB5 ln lm ln1 lm1 ln2
  have Zlm2 := Lib.hid lm2; clear lm2
  go_wp2_with fail
  have b := Zb.out; have b1 := Zb1.out; have b2 := Zb2.out; have v := Zv.out; have v1 := Zv1.out; have v2 := Zv2.out; have v3 := Zv3.out; have v4 := Zv4.out; clear Zb Zb1 Zb2 Zv Zv1 Zv2 Zv3 Zv4
  have hn := Zhn.out; have hn1 := Zhn1.out; have hn2 := Zhn2.out; have hn3 := Zhn3.out; have hn4 := Zhn4.out; have hm := Zhm.out; have hm1 := Zhm1.out; have hm2 := Zhm2.out; clear Zhn Zhn1 Zhn2 Zhn3 Zhn4 Zhm Zhm1 Zhm2
  have hm3 := Zhm3.out; have hm4 := Zhm4.out; have hB5 := ZhB5.out; have ln := Zln.out; have lm := Zlm.out; have ln1 := Zln1.out; have lm1 := Zlm1.out; have ln2 := Zln2.out; clear Zhm3 Zhm4 ZhB5 Zln Zlm Zln1 Zlm1 Zln2
  have lm2 := Zlm2.out; clear Zlm2
  clear y02 y12 y22 yl2 yk2
  have hb6 : Below w5.heap.size w5 ((w5.alloc (.cells #[.int .i64 g3.pos, .slice A3 n3 c3, .slice D3 m3 k3] 24)).alloc (.cells #[.int .i64 g4.pos, .slice A4 n4 c4, .slice D4 m4 k4] 24)) := ((Below.refl _ _).alloc (Nat.le_refl _) _).alloc (by simp) _
  have b3 := (Blk.new w5 24 #[.int .i64 g3.pos, .slice A3 n3 c3, .slice D3 m3 k3]).alloc (.cells #[.int .i64 g4.pos, .slice A4 n4 c4, .slice D4 m4 k4] 24)
  have b4 := Blk.new (w5.alloc (.cells #[.int .i64 g3.pos, .slice A3 n3 c3, .slice D3 m3 k3] 24)) 24 #[.int .i64 g4.pos, .slice A4 n4 c4, .slice D4 m4 k4]
  simp only [World.size_alloc] at b4
  replace b := b.below hb6 b.lt; replace v := (v.below hb6).up hb6.size
  replace b1 := b1.below hb6 b1.lt; replace v1 := (v1.below hb6).up hb6.size
  replace b2 := b2.below hb6 b2.lt; replace v2 := (v2.below hb6).up hb6.size
  replace v3 := (v3.below hb6).up hb6.size
  replace v4 := (v4.below hb6).up hb6.size
  have hB6 := hB5.trans (hb6.mono hB5.size)
  clear hb6 hB5
  generalize ((w5.alloc (.cells #[.int .i64 g3.pos, .slice A3 n3 c3, .slice D3 m3 k3] 24)).alloc (.cells #[.int .i64 g4.pos, .slice A4 n4 c4, .slice D4 m4 k4] 24)) = w6 at *
  generalize w5.heap.size = u3 at *
  obtain ⟨⟨g5, g6⟩, hx5⟩ : ∃ z, outH (passH g4 g2) = z := ⟨_, rfl⟩
  obtain ⟨bj, hs5⟩ : ∃ b, (passH g4 g2).isSome = b := ⟨_, rfl⟩
  refine (PassL A4 n4 c4 D4 m4 k4 A2 n2 c2 D2 m2 k2 w6.heap.size g4 g2 w6 g5 g6 bj (Nat.le_refl _) hn4 hm4 hn2 hm2 v4 v2 hx5 hs5).mono ?_
  rintro e w7 ⟨A5, n5, c5, D5, m5, k5, A6, n6, c6, D6, m6, k6, rfl, v5, v6, ⟨hn5, hm5, hn6, hm6⟩, hb7⟩
  replace b := b.below hb7 b.lt; replace v := (v.below hb7).up hb7.size
  replace b1 := b1.below hb7 b1.lt; replace v1 := (v1.below hb7).up hb7.size
  replace b2 := b2.below hb7 b2.lt; replace v2 := (v2.below hb7).up hb7.size
  replace b3 := b3.below hb7 b3.lt; replace v3 := (v3.below hb7).up hb7.size
  replace b4 := b4.below hb7 b4.lt; replace v4 := (v4.below hb7).up hb7.size
  have hB7 := hB6.trans (hb7.mono hB6.size)
  clear hb7 hB6
  have HX5 := Lib.hid hx5; have HS5 := Lib.hid hs5; clear hx5 hs5
  have y03 : w7.cell? ⟨u3, 0, none⟩ = some (.int .i64 g3.pos) := b3.cell 0 rfl; have y13 : w7.cell? ⟨u3, 1, none⟩ = some (.slice A3 n3 c3) := b3.cell 1 rfl; have y23 : w7.cell? ⟨u3, 2, none⟩ = some (.slice D3 m3 k3) := b3.cell 2 rfl; have yl3 := b3.lt
  have yk3 := yl3
  have Zb := Lib.hid b; have Zb1 := Lib.hid b1; have Zb2 := Lib.hid b2; have Zb3 := Lib.hid b3; have Zb4 := Lib.hid b4; have Zv := Lib.hid v; have Zv1 := Lib.hid v1; have Zv2 := Lib.hid v2; clear b b1 b2 b3 b4 v v1 v2
  have Zv3 := Lib.hid v3; have Zv4 := Lib.hid v4; have Zv5 := Lib.hid v5; have Zv6 := Lib.hid v6; have Zhn := Lib.hid hn; have Zhn1 := Lib.hid hn1; have Zhn2 := Lib.hid hn2; have Zhn3 := Lib.hid hn3; clear v3 v4 v5 v6 hn hn1 hn2 hn3
  have Zhn4 := Lib.hid hn4; have Zhn5 := Lib.hid hn5; have Zhn6 := Lib.hid hn6; have Zhm := Lib.hid hm; have Zhm1 := Lib.hid hm1; have Zhm2 := Lib.hid hm2; have Zhm3 := Lib.hid hm3; have Zhm4 := Lib.hid hm4; clear hn4 hn5 hn6 hm hm1 hm2 hm3 hm4
  have Zhm5 := Lib.hid hm5; have Zhm6 := Lib.hid hm6; have ZhB7 := Lib.hid hB7; have Zln := Lib.hid ln; have Zlm := Lib.hid lm; have Zln1 := Lib.hid ln1; have Zlm1 := Lib.hid lm1; have Zln2 := Lib.hid ln2; clear hm5 hm6 hB7 ln lm ln1 lm1 ln2
  have Zlm2 := Lib.hid lm2; clear lm2
  go_wp2_with fail
  have b := Zb.out; have b1 := Zb1.out; have b2 := Zb2.out; have b3 := Zb3.out; have b4 := Zb4.out; have v := Zv.out; have v1 := Zv1.out; have v2 := Zv2.out; clear Zb Zb1 Zb2 Zb3 Zb4 Zv Zv1 Zv2
  have v3 := Zv3.out; have v4 := Zv4.out; have v5 := Zv5.out; have v6 := Zv6.out; have hn := Zhn.out; have hn1 := Zhn1.out; have hn2 := Zhn2.out; have hn3 := Zhn3.out; clear Zv3 Zv4 Zv5 Zv6 Zhn Zhn1 Zhn2 Zhn3
  have hn4 := Zhn4.out; have hn5 := Zhn5.out; have hn6 := Zhn6.out; have hm := Zhm.out; have hm1 := Zhm1.out; have hm2 := Zhm2.out; have hm3 := Zhm3.out; have hm4 := Zhm4.out; clear Zhn4 Zhn5 Zhn6 Zhm Zhm1 Zhm2 Zhm3 Zhm4
  have hm5 := Zhm5.out; have hm6 := Zhm6.out; have hB7 := ZhB7.out; have ln := Zln.out; have lm := Zlm.out; have ln1 := Zln1.out; have lm1 := Zlm1.out; have ln2 := Zln2.out; clear Zhm5 Zhm6 ZhB7 Zln Zlm Zln1 Zlm1 Zln2
  have lm2 := Zlm2.out; clear Zlm2
  clear y03 y13 y23 yl3 yk3
  have hb8 : Below w7.heap.size w7 ((w7.alloc (.cells #[.int .i64 g5.pos, .slice A5 n5 c5, .slice D5 m5 k5] 24)).alloc (.cells #[.int .i64 g6.pos, .slice A6 n6 c6, .slice D6 m6 k6] 24)) := ((Below.refl _ _).alloc (Nat.le_refl _) _).alloc (by simp) _
  have b5 := (Blk.new w7 24 #[.int .i64 g5.pos, .slice A5 n5 c5, .slice D5 m5 k5]).alloc (.cells #[.int .i64 g6.pos, .slice A6 n6 c6, .slice D6 m6 k6] 24)
  have b6 := Blk.new (w7.alloc (.cells #[.int .i64 g5.pos, .slice A5 n5 c5, .slice D5 m5 k5] 24)) 24 #[.int .i64 g6.pos, .slice A6 n6 c6, .slice D6 m6 k6]
  simp only [World.size_alloc] at b6
  replace b := b.below hb8 b.lt; replace v := (v.below hb8).up hb8.size
  replace b1 := b1.below hb8 b1.lt; replace v1 := (v1.below hb8).up hb8.size
  replace b2 := b2.below hb8 b2.lt; replace v2 := (v2.below hb8).up hb8.size
  replace b3 := b3.below hb8 b3.lt; replace v3 := (v3.below hb8).up hb8.size
  replace b4 := b4.below hb8 b4.lt; replace v4 := (v4.below hb8).up hb8.size
  replace v5 := (v5.below hb8).up hb8.size
  replace v6 := (v6.below hb8).up hb8.size
  have hB8 := hB7.trans (hb8.mono hB7.size)
  clear hb8 hB7
  generalize ((w7.alloc (.cells #[.int .i64 g5.pos, .slice A5 n5 c5, .slice D5 m5 k5] 24)).alloc (.cells #[.int .i64 g6.pos, .slice A6 n6 c6, .slice D6 m6 k6] 24)) = w8 at *
  generalize w7.heap.size = u5 at *
  obtain ⟨⟨g7, g8⟩, hx7⟩ : ∃ z, outH (passH g3 g5) = z := ⟨_, rfl⟩
  obtain ⟨bk, hs7⟩ : ∃ b, (passH g3 g5).isSome = b := ⟨_, rfl⟩
  refine (PassL A3 n3 c3 D3 m3 k3 A5 n5 c5 D5 m5 k5 w8.heap.size g3 g5 w8 g7 g8 bk (Nat.le_refl _) hn3 hm3 hn5 hm5 v3 v5 hx7 hs7).mono ?_
  rintro e w9 ⟨A7, n7, c7, D7, m7, k7, A8, n8, c8, D8, m8, k8, rfl, v7, v8, ⟨hn7, hm7, hn8, hm8⟩, hb9⟩
  replace b := b.below hb9 b.lt; replace v := (v.below hb9).up hb9.size
  replace b1 := b1.below hb9 b1.lt; replace v1 := (v1.below hb9).up hb9.size
  replace b2 := b2.below hb9 b2.lt; replace v2 := (v2.below hb9).up hb9.size
  replace b3 := b3.below hb9 b3.lt; replace v3 := (v3.below hb9).up hb9.size
  replace b4 := b4.below hb9 b4.lt; replace v4 := (v4.below hb9).up hb9.size
  replace b5 := b5.below hb9 b5.lt; replace v5 := (v5.below hb9).up hb9.size
  replace b6 := b6.below hb9 b6.lt; replace v6 := (v6.below hb9).up hb9.size
  have hB9 := hB8.trans (hb9.mono hB8.size)
  clear hb9 hB8
  have HX7 := Lib.hid hx7; have HS7 := Lib.hid hs7; clear hx7 hs7
  have y01 : w9.cell? ⟨gb + 1, 0, none⟩ = some (.int .i64 g1.pos) := b1.cell 0 rfl; have y11 : w9.cell? ⟨gb + 1, 1, none⟩ = some (.slice A1 n1 c1) := b1.cell 1 rfl; have y21 : w9.cell? ⟨gb + 1, 2, none⟩ = some (.slice D1 m1 k1) := b1.cell 2 rfl; have yl1 := b1.lt
  have yk1 : gb < w9.heap.size := Nat.lt_of_succ_lt yl1
  have y02 : w9.cell? ⟨gb + 2, 0, none⟩ = some (.int .i64 g2.pos) := b2.cell 0 rfl; have y12 : w9.cell? ⟨gb + 2, 1, none⟩ = some (.slice A2 n2 c2) := b2.cell 1 rfl; have y22 : w9.cell? ⟨gb + 2, 2, none⟩ = some (.slice D2 m2 k2) := b2.cell 2 rfl; have yl2 := b2.lt
  have yk2 : gb + 1 < w9.heap.size := Nat.lt_of_succ_lt yl2
  have Zb := Lib.hid b; have Zb1 := Lib.hid b1; have Zb2 := Lib.hid b2; have Zb3 := Lib.hid b3; have Zb4 := Lib.hid b4; have Zb5 := Lib.hid b5; have Zb6 := Lib.hid b6; have Zv := Lib.hid v; clear b b1 b2 b3 b4 b5 b6 v
  have Zv1 := Lib.hid v1; have Zv2 := Lib.hid v2; have Zv3 := Lib.hid v3; have Zv4 := Lib.hid v4; have Zv5 := Lib.hid v5; have Zv6 := Lib.hid v6; have Zv7 := Lib.hid v7; have Zv8 := Lib.hid v8; clear v1 v2 v3 v4 v5 v6 v7 v8
  have Zhn := Lib.hid hn; have Zhn1 := Lib.hid hn1; have Zhn2 := Lib.hid hn2; have Zhn3 := Lib.hid hn3; have Zhn4 := Lib.hid hn4; have Zhn5 := Lib.hid hn5; have Zhn6 := Lib.hid hn6; have Zhn7 := Lib.hid hn7; clear hn hn1 hn2 hn3 hn4 hn5 hn6 hn7
  have Zhn8 := Lib.hid hn8; have Zhm := Lib.hid hm; have Zhm1 := Lib.hid hm1; have Zhm2 := Lib.hid hm2; have Zhm3 := Lib.hid hm3; have Zhm4 := Lib.hid hm4; have Zhm5 := Lib.hid hm5; have Zhm6 := Lib.hid hm6; clear hn8 hm hm1 hm2 hm3 hm4 hm5 hm6
  have Zhm7 := Lib.hid hm7; have Zhm8 := Lib.hid hm8; have ZhB9 := Lib.hid hB9; have Zln := Lib.hid ln; have Zlm := Lib.hid lm; have Zln1 := Lib.hid ln1; have Zlm1 := Lib.hid lm1; have Zln2 := Lib.hid ln2; clear hm7 hm8 hB9 ln lm ln1 lm1 ln2
  have Zlm2 := Lib.hid lm2; clear lm2
  go_wp2_with fail
  have b := Zb.out; have b1 := Zb1.out; have b2 := Zb2.out; have b3 := Zb3.out; have b4 := Zb4.out; have b5 := Zb5.out; have b6 := Zb6.out; have v := Zv.out; clear Zb Zb1 Zb2 Zb3 Zb4 Zb5 Zb6 Zv
  have v1 := Zv1.out; have v2 := Zv2.out; have v3 := Zv3.out; have v4 := Zv4.out; have v5 := Zv5.out; have v6 := Zv6.out; have v7 := Zv7.out; have v8 := Zv8.out; clear Zv1 Zv2 Zv3 Zv4 Zv5 Zv6 Zv7 Zv8
  have hn := Zhn.out; have hn1 := Zhn1.out; have hn2 := Zhn2.out; have hn3 := Zhn3.out; have hn4 := Zhn4.out; have hn5 := Zhn5.out; have hn6 := Zhn6.out; have hn7 := Zhn7.out; clear Zhn Zhn1 Zhn2 Zhn3 Zhn4 Zhn5 Zhn6 Zhn7
  have hn8 := Zhn8.out; have hm := Zhm.out; have hm1 := Zhm1.out; have hm2 := Zhm2.out; have hm3 := Zhm3.out; have hm4 := Zhm4.out; have hm5 := Zhm5.out; have hm6 := Zhm6.out; clear Zhn8 Zhm Zhm1 Zhm2 Zhm3 Zhm4 Zhm5 Zhm6
  have hm7 := Zhm7.out; have hm8 := Zhm8.out; have hB9 := ZhB9.out; have ln := Zln.out; have lm := Zlm.out; have ln1 := Zln1.out; have lm1 := Zlm1.out; have ln2 := Zln2.out; clear Zhm7 Zhm8 ZhB9 Zln Zlm Zln1 Zlm1 Zln2
  have lm2 := Zlm2.out; clear Zlm2
  clear y01 y11 y21 yl1 yk1
  clear y02 y12 y22 yl2 yk2
  have hb10 : Below w9.heap.size w9 ((w9.alloc (.cells #[.int .i64 g7.pos, .slice A7 n7 c7, .slice D7 m7 k7] 24)).alloc (.cells #[.int .i64 g8.pos, .slice A8 n8 c8, .slice D8 m8 k8] 24)) := ((Below.refl _ _).alloc (Nat.le_refl _) _).alloc (by simp) _
  have b7 := (Blk.new w9 24 #[.int .i64 g7.pos, .slice A7 n7 c7, .slice D7 m7 k7]).alloc (.cells #[.int .i64 g8.pos, .slice A8 n8 c8, .slice D8 m8 k8] 24)
  have b8 := Blk.new (w9.alloc (.cells #[.int .i64 g7.pos, .slice A7 n7 c7, .slice D7 m7 k7] 24)) 24 #[.int .i64 g8.pos, .slice A8 n8 c8, .slice D8 m8 k8]
  simp only [World.size_alloc] at b8
  replace b := b.below hb10 b.lt; replace v := (v.below hb10).up hb10.size
  replace b1 := b1.below hb10 b1.lt; replace v1 := (v1.below hb10).up hb10.size
  replace b2 := b2.below hb10 b2.lt; replace v2 := (v2.below hb10).up hb10.size
  replace b3 := b3.below hb10 b3.lt; replace v3 := (v3.below hb10).up hb10.size
  replace b4 := b4.below hb10 b4.lt; replace v4 := (v4.below hb10).up hb10.size
  replace b5 := b5.below hb10 b5.lt; replace v5 := (v5.below hb10).up hb10.size
  replace b6 := b6.below hb10 b6.lt; replace v6 := (v6.below hb10).up hb10.size
  replace v7 := (v7.below hb10).up hb10.size
  replace v8 := (v8.below hb10).up hb10.size
  have hB10 := hB9.trans (hb10.mono hB9.size)
  clear hb10 hB9
  generalize ((w9.alloc (.cells #[.int .i64 g7.pos, .slice A7 n7 c7, .slice D7 m7 k7] 24)).alloc (.cells #[.int .i64 g8.pos, .slice A8 n8 c8, .slice D8 m8 k8] 24)) = w10 at *
  generalize w9.heap.size = u7 at *
  obtain ⟨⟨g9, g10⟩, hx9⟩ : ∃ z, outH (passH g1 g2) = z := ⟨_, rfl⟩
  obtain ⟨bl, hs9⟩ : ∃ b, (passH g1 g2).isSome = b := ⟨_, rfl⟩
  refine (PassL A1 n1 c1 D1 m1 k1 A2 n2 c2 D2 m2 k2 w10.heap.size g1 g2 w10 g9 g10 bl (Nat.le_refl _) hn1 hm1 hn2 hm2 v1 v2 hx9 hs9).mono ?_
  rintro e w11 ⟨A9, n9, c9, D9, m9, k9, A10, n10, c10, D10, m10, k10, rfl, v9, v10, ⟨hn9, hm9, hn10, hm10⟩, hb11⟩
  replace b := b.below hb11 b.lt; replace v := (v.below hb11).up hb11.size
  replace b1 := b1.below hb11 b1.lt; replace v1 := (v1.below hb11).up hb11.size
  replace b2 := b2.below hb11 b2.lt; replace v2 := (v2.below hb11).up hb11.size
  replace b3 := b3.below hb11 b3.lt; replace v3 := (v3.below hb11).up hb11.size
  replace b4 := b4.below hb11 b4.lt; replace v4 := (v4.below hb11).up hb11.size
  replace b5 := b5.below hb11 b5.lt; replace v5 := (v5.below hb11).up hb11.size
  replace b6 := b6.below hb11 b6.lt; replace v6 := (v6.below hb11).up hb11.size
  replace b7 := b7.below hb11 b7.lt; replace v7 := (v7.below hb11).up hb11.size
  replace b8 := b8.below hb11 b8.lt; replace v8 := (v8.below hb11).up hb11.size
  have hB11 := hB10.trans (hb11.mono hB10.size)
  clear hb11 hB10
  have HX9 := Lib.hid hx9; have HS9 := Lib.hid hs9; clear hx9 hs9
  have y0 : w11.cell? ⟨gb, 0, none⟩ = some (.int .i64 g.pos) := b.cell 0 rfl; have y1 : w11.cell? ⟨gb, 1, none⟩ = some (.slice A n c) := b.cell 1 rfl; have y2 : w11.cell? ⟨gb, 2, none⟩ = some (.slice D m k) := b.cell 2 rfl; have yl := b.lt
  have yk := yl
  have Zb := Lib.hid b; have Zb1 := Lib.hid b1; have Zb2 := Lib.hid b2; have Zb3 := Lib.hid b3; have Zb4 := Lib.hid b4; have Zb5 := Lib.hid b5; have Zb6 := Lib.hid b6; have Zb7 := Lib.hid b7; clear b b1 b2 b3 b4 b5 b6 b7
  have Zb8 := Lib.hid b8; have Zv := Lib.hid v; have Zv1 := Lib.hid v1; have Zv2 := Lib.hid v2; have Zv3 := Lib.hid v3; have Zv4 := Lib.hid v4; have Zv5 := Lib.hid v5; have Zv6 := Lib.hid v6; clear b8 v v1 v2 v3 v4 v5 v6
  have Zv7 := Lib.hid v7; have Zv8 := Lib.hid v8; have Zv9 := Lib.hid v9; have Zv10 := Lib.hid v10; have Zhn := Lib.hid hn; have Zhn1 := Lib.hid hn1; have Zhn2 := Lib.hid hn2; have Zhn3 := Lib.hid hn3; clear v7 v8 v9 v10 hn hn1 hn2 hn3
  have Zhn4 := Lib.hid hn4; have Zhn5 := Lib.hid hn5; have Zhn6 := Lib.hid hn6; have Zhn7 := Lib.hid hn7; have Zhn8 := Lib.hid hn8; have Zhn9 := Lib.hid hn9; have Zhn10 := Lib.hid hn10; have Zhm := Lib.hid hm; clear hn4 hn5 hn6 hn7 hn8 hn9 hn10 hm
  have Zhm1 := Lib.hid hm1; have Zhm2 := Lib.hid hm2; have Zhm3 := Lib.hid hm3; have Zhm4 := Lib.hid hm4; have Zhm5 := Lib.hid hm5; have Zhm6 := Lib.hid hm6; have Zhm7 := Lib.hid hm7; have Zhm8 := Lib.hid hm8; clear hm1 hm2 hm3 hm4 hm5 hm6 hm7 hm8
  have Zhm9 := Lib.hid hm9; have Zhm10 := Lib.hid hm10; have ZhB11 := Lib.hid hB11; have Zln := Lib.hid ln; have Zlm := Lib.hid lm; have Zln1 := Lib.hid ln1; have Zlm1 := Lib.hid lm1; have Zln2 := Lib.hid ln2; clear hm9 hm10 hB11 ln lm ln1 lm1 ln2
  have Zlm2 := Lib.hid lm2; clear lm2
  go_wp2_with fail
  have b := Zb.out; have b1 := Zb1.out; have b2 := Zb2.out; have b3 := Zb3.out; have b4 := Zb4.out; have b5 := Zb5.out; have b6 := Zb6.out; have b7 := Zb7.out; clear Zb Zb1 Zb2 Zb3 Zb4 Zb5 Zb6 Zb7
  have b8 := Zb8.out; have v := Zv.out; have v1 := Zv1.out; have v2 := Zv2.out; have v3 := Zv3.out; have v4 := Zv4.out; have v5 := Zv5.out; have v6 := Zv6.out; clear Zb8 Zv Zv1 Zv2 Zv3 Zv4 Zv5 Zv6
  have v7 := Zv7.out; have v8 := Zv8.out; have v9 := Zv9.out; have v10 := Zv10.out; have hn := Zhn.out; have hn1 := Zhn1.out; have hn2 := Zhn2.out; have hn3 := Zhn3.out; clear Zv7 Zv8 Zv9 Zv10 Zhn Zhn1 Zhn2 Zhn3
  have hn4 := Zhn4.out; have hn5 := Zhn5.out; have hn6 := Zhn6.out; have hn7 := Zhn7.out; have hn8 := Zhn8.out; have hn9 := Zhn9.out; have hn10 := Zhn10.out; have hm := Zhm.out; clear Zhn4 Zhn5 Zhn6 Zhn7 Zhn8 Zhn9 Zhn10 Zhm
  have hm1 := Zhm1.out; have hm2 := Zhm2.out; have hm3 := Zhm3.out; have hm4 := Zhm4.out; have hm5 := Zhm5.out; have hm6 := Zhm6.out; have hm7 := Zhm7.out; have hm8 := Zhm8.out; clear Zhm1 Zhm2 Zhm3 Zhm4 Zhm5 Zhm6 Zhm7 Zhm8
  have hm9 := Zhm9.out; have hm10 := Zhm10.out; have hB11 := ZhB11.out; have ln := Zln.out; have lm := Zlm.out; have ln1 := Zln1.out; have lm1 := Zlm1.out; have ln2 := Zln2.out; clear Zhm9 Zhm10 ZhB11 Zln Zlm Zln1 Zlm1 Zln2
  have lm2 := Zlm2.out; clear Zlm2
  clear y0 y1 y2 yl yk
  have hb12 : Below w11.heap.size w11 ((w11.alloc (.cells #[.int .i64 g9.pos, .slice A9 n9 c9, .slice D9 m9 k9] 24)).alloc (.cells #[.int .i64 g10.pos, .slice A10 n10 c10, .slice D10 m10 k10] 24)) := ((Below.refl _ _).alloc (Nat.le_refl _) _).alloc (by simp) _
  have b9 := (Blk.new w11 24 #[.int .i64 g9.pos, .slice A9 n9 c9, .slice D9 m9 k9]).alloc (.cells #[.int .i64 g10.pos, .slice A10 n10 c10, .slice D10 m10 k10] 24)
  have b10 := Blk.new (w11.alloc (.cells #[.int .i64 g9.pos, .slice A9 n9 c9, .slice D9 m9 k9] 24)) 24 #[.int .i64 g10.pos, .slice A10 n10 c10, .slice D10 m10 k10]
  simp only [World.size_alloc] at b10
  replace b := b.below hb12 b.lt; replace v := (v.below hb12).up hb12.size
  replace b1 := b1.below hb12 b1.lt; replace v1 := (v1.below hb12).up hb12.size
  replace b2 := b2.below hb12 b2.lt; replace v2 := (v2.below hb12).up hb12.size
  replace b3 := b3.below hb12 b3.lt; replace v3 := (v3.below hb12).up hb12.size
  replace b4 := b4.below hb12 b4.lt; replace v4 := (v4.below hb12).up hb12.size
  replace b5 := b5.below hb12 b5.lt; replace v5 := (v5.below hb12).up hb12.size
  replace b6 := b6.below hb12 b6.lt; replace v6 := (v6.below hb12).up hb12.size
  replace b7 := b7.below hb12 b7.lt; replace v7 := (v7.below hb12).up hb12.size
  replace b8 := b8.below hb12 b8.lt; replace v8 := (v8.below hb12).up hb12.size
  replace v9 := (v9.below hb12).up hb12.size
  replace v10 := (v10.below hb12).up hb12.size
  have hB12 := hB11.trans (hb12.mono hB11.size)
  clear hb12 hB11
  generalize ((w11.alloc (.cells #[.int .i64 g9.pos, .slice A9 n9 c9, .slice D9 m9 k9] 24)).alloc (.cells #[.int .i64 g10.pos, .slice A10 n10 c10, .slice D10 m10 k10] 24)) = w12 at *
  generalize w11.heap.size = u9 at *
  obtain ⟨⟨g11, g12⟩, hx11⟩ : ∃ z, outH (passH g g9) = z := ⟨_, rfl⟩
  obtain ⟨bm, hs11⟩ : ∃ b, (passH g g9).isSome = b := ⟨_, rfl⟩
  refine (PassL A n c D m k A9 n9 c9 D9 m9 k9 w12.heap.size g g9 w12 g11 g12 bm (Nat.le_refl _) hn hm hn9 hm9 v v9 hx11 hs11).mono ?_
  rintro e w13 ⟨A11, n11, c11, D11, m11, k11, A12, n12, c12, D12, m12, k12, rfl, v11, v12, ⟨hn11, hm11, hn12, hm12⟩, hb13⟩
  replace b := b.below hb13 b.lt; replace v := (v.below hb13).up hb13.size
  replace b1 := b1.below hb13 b1.lt; replace v1 := (v1.below hb13).up hb13.size
  replace b2 := b2.below hb13 b2.lt; replace v2 := (v2.below hb13).up hb13.size
  replace b3 := b3.below hb13 b3.lt; replace v3 := (v3.below hb13).up hb13.size
  replace b4 := b4.below hb13 b4.lt; replace v4 := (v4.below hb13).up hb13.size
  replace b5 := b5.below hb13 b5.lt; replace v5 := (v5.below hb13).up hb13.size
  replace b6 := b6.below hb13 b6.lt; replace v6 := (v6.below hb13).up hb13.size
  replace b7 := b7.below hb13 b7.lt; replace v7 := (v7.below hb13).up hb13.size
  replace b8 := b8.below hb13 b8.lt; replace v8 := (v8.below hb13).up hb13.size
  replace b9 := b9.below hb13 b9.lt; replace v9 := (v9.below hb13).up hb13.size
  replace b10 := b10.below hb13 b10.lt; replace v10 := (v10.below hb13).up hb13.size
  have hB13 := hB12.trans (hb13.mono hB12.size)
  clear hb13 hB12
  have HX11 := Lib.hid hx11; have HS11 := Lib.hid hs11; clear hx11 hs11
  have y010 : w13.cell? ⟨u9 + 1, 0, none⟩ = some (.int .i64 g10.pos) := b10.cell 0 rfl; have y110 : w13.cell? ⟨u9 + 1, 1, none⟩ = some (.slice A10 n10 c10) := b10.cell 1 rfl; have y210 : w13.cell? ⟨u9 + 1, 2, none⟩ = some (.slice D10 m10 k10) := b10.cell 2 rfl; have yl10 := b10.lt
  have yk10 : u9 < w13.heap.size := Nat.lt_of_succ_lt yl10
  have Zb := Lib.hid b; have Zb1 := Lib.hid b1; have Zb2 := Lib.hid b2; have Zb3 := Lib.hid b3; have Zb4 := Lib.hid b4; have Zb5 := Lib.hid b5; have Zb6 := Lib.hid b6; have Zb7 := Lib.hid b7; clear b b1 b2 b3 b4 b5 b6 b7
  have Zb8 := Lib.hid b8; have Zb9 := Lib.hid b9; have Zb10 := Lib.hid b10; have Zv := Lib.hid v; have Zv1 := Lib.hid v1; have Zv2 := Lib.hid v2; have Zv3 := Lib.hid v3; have Zv4 := Lib.hid v4; clear b8 b9 b10 v v1 v2 v3 v4
  have Zv5 := Lib.hid v5; have Zv6 := Lib.hid v6; have Zv7 := Lib.hid v7; have Zv8 := Lib.hid v8; have Zv9 := Lib.hid v9; have Zv10 := Lib.hid v10; have Zv11 := Lib.hid v11; have Zv12 := Lib.hid v12; clear v5 v6 v7 v8 v9 v10 v11 v12
  have Zhn := Lib.hid hn; have Zhn1 := Lib.hid hn1; have Zhn2 := Lib.hid hn2; have Zhn3 := Lib.hid hn3; have Zhn4 := Lib.hid hn4; have Zhn5 := Lib.hid hn5; have Zhn6 := Lib.hid hn6; have Zhn7 := Lib.hid hn7; clear hn hn1 hn2 hn3 hn4 hn5 hn6 hn7
  have Zhn8 := Lib.hid hn8; have Zhn9 := Lib.hid hn9; have Zhn10 := Lib.hid hn10; have Zhn11 := Lib.hid hn11; have Zhn12 := Lib.hid hn12; have Zhm := Lib.hid hm; have Zhm1 := Lib.hid hm1; have Zhm2 := Lib.hid hm2; clear hn8 hn9 hn10 hn11 hn12 hm hm1 hm2
  have Zhm3 := Lib.hid hm3; have Zhm4 := Lib.hid hm4; have Zhm5 := Lib.hid hm5; have Zhm6 := Lib.hid hm6; have Zhm7 := Lib.hid hm7; have Zhm8 := Lib.hid hm8; have Zhm9 := Lib.hid hm9; have Zhm10 := Lib.hid hm10; clear hm3 hm4 hm5 hm6 hm7 hm8 hm9 hm10
  have Zhm11 := Lib.hid hm11; have Zhm12 := Lib.hid hm12; have ZhB13 := Lib.hid hB13; have Zln := Lib.hid ln; have Zlm := Lib.hid lm; have Zln1 := Lib.hid ln1; have Zlm1 := Lib.hid lm1; have Zln2 := Lib.hid ln2; clear hm11 hm12 hB13 ln lm ln1 lm1 ln2
  have Zlm2 := Lib.hid lm2; clear lm2
  go_wp2_with fail
  have b := Zb.out; have b1 := Zb1.out; have b2 := Zb2.out; have b3 := Zb3.out; have b4 := Zb4.out; have b5 := Zb5.out; have b6 := Zb6.out; have b7 := Zb7.out; clear Zb Zb1 Zb2 Zb3 Zb4 Zb5 Zb6 Zb7
  have b8 := Zb8.out; have b9 := Zb9.out; have b10 := Zb10.out; have v := Zv.out; have v1 := Zv1.out; have v2 := Zv2.out; have v3 := Zv3.out; have v4 := Zv4.out; clear Zb8 Zb9 Zb10 Zv Zv1 Zv2 Zv3 Zv4
  have v5 := Zv5.out; have v6 := Zv6.out; have v7 := Zv7.out; have v8 := Zv8.out; have v9 := Zv9.out; have v10 := Zv10.out; have v11 := Zv11.out; have v12 := Zv12.out; clear Zv5 Zv6 Zv7 Zv8 Zv9 Zv10 Zv11 Zv12
  have hn := Zhn.out; have hn1 := Zhn1.out; have hn2 := Zhn2.out; have hn3 := Zhn3.out; have hn4 := Zhn4.out; have hn5 := Zhn5.out; have hn6 := Zhn6.out; have hn7 := Zhn7.out; clear Zhn Zhn1 Zhn2 Zhn3 Zhn4 Zhn5 Zhn6 Zhn7
  have hn8 := Zhn8.out; have hn9 := Zhn9.out; have hn10 := Zhn10.out; have hn11 := Zhn11.out; have hn12 := Zhn12.out; have hm := Zhm.out; have hm1 := Zhm1.out; have hm2 := Zhm2.out; clear Zhn8 Zhn9 Zhn10 Zhn11 Zhn12 Zhm Zhm1 Zhm2
  have hm3 := Zhm3.out; have hm4 := Zhm4.out; have hm5 := Zhm5.out; have hm6 := Zhm6.out; have hm7 := Zhm7.out; have hm8 := Zhm8.out; have hm9 := Zhm9.out; have hm10 := Zhm10.out; clear Zhm3 Zhm4 Zhm5 Zhm6 Zhm7 Zhm8 Zhm9 Zhm10
  have hm11 := Zhm11.out; have hm12 := Zhm12.out; have hB13 := ZhB13.out; have ln := Zln.out; have lm := Zlm.out; have ln1 := Zln1.out; have lm1 := Zlm1.out; have ln2 := Zln2.out; clear Zhm11 Zhm12 ZhB13 Zln Zlm Zln1 Zlm1 Zln2
  have lm2 := Zlm2.out; clear Zlm2
  clear y010 y110 y210 yl10 yk10
  have hb14 : Below w13.heap.size w13 ((w13.alloc (.cells #[.int .i64 g11.pos, .slice A11 n11 c11, .slice D11 m11 k11] 24)).alloc (.cells #[.int .i64 g12.pos, .slice A12 n12 c12, .slice D12 m12 k12] 24)) := ((Below.refl _ _).alloc (Nat.le_refl _) _).alloc (by simp) _
  have b11 := (Blk.new w13 24 #[.int .i64 g11.pos, .slice A11 n11 c11, .slice D11 m11 k11]).alloc (.cells #[.int .i64 g12.pos, .slice A12 n12 c12, .slice D12 m12 k12] 24)
  have b12 := Blk.new (w13.alloc (.cells #[.int .i64 g11.pos, .slice A11 n11 c11, .slice D11 m11 k11] 24)) 24 #[.int .i64 g12.pos, .slice A12 n12 c12, .slice D12 m12 k12]
  simp only [World.size_alloc] at b12
  replace b := b.below hb14 b.lt; replace v := (v.below hb14).up hb14.size
  replace b1 := b1.below hb14 b1.lt; replace v1 := (v1.below hb14).up hb14.size
  replace b2 := b2.below hb14 b2.lt; replace v2 := (v2.below hb14).up hb14.size
  replace b3 := b3.below hb14 b3.lt; replace v3 := (v3.below hb14).up hb14.size
  replace b4 := b4.below hb14 b4.lt; replace v4 := (v4.below hb14).up hb14.size
  replace b5 := b5.below hb14 b5.lt; replace v5 := (v5.below hb14).up hb14.size
  replace b6 := b6.below hb14 b6.lt; replace v6 := (v6.below hb14).up hb14.size
  replace b7 := b7.below hb14 b7.lt; replace v7 := (v7.below hb14).up hb14.size
  replace b8 := b8.below hb14 b8.lt; replace v8 := (v8.below hb14).up hb14.size
  replace b9 := b9.below hb14 b9.lt; replace v9 := (v9.below hb14).up hb14.size
  replace b10 := b10.below hb14 b10.lt; replace v10 := (v10.below hb14).up hb14.size
  replace v11 := (v11.below hb14).up hb14.size
  replace v12 := (v12.below hb14).up hb14.size
  have hB14 := hB13.trans (hb14.mono hB13.size)
  clear hb14 hB13
  generalize ((w13.alloc (.cells #[.int .i64 g11.pos, .slice A11 n11 c11, .slice D11 m11 k11] 24)).alloc (.cells #[.int .i64 g12.pos, .slice A12 n12 c12, .slice D12 m12 k12] 24)) = w14 at *
  generalize w13.heap.size = u11 at *
  obtain ⟨⟨g13, g14⟩, hx13⟩ : ∃ z, outH (passH g12 g10) = z := ⟨_, rfl⟩
  obtain ⟨bn, hs13⟩ : ∃ b, (passH g12 g10).isSome = b := ⟨_, rfl⟩
  refine (PassL A12 n12 c12 D12 m12 k12 A10 n10 c10 D10 m10 k10 w14.heap.size g12 g10 w14 g13 g14 bn (Nat.le_refl _) hn12 hm12 hn10 hm10 v12 v10 hx13 hs13).mono ?_
  rintro e w15 ⟨A13, n13, c13, D13, m13, k13, A14, n14, c14, D14, m14, k14, rfl, v13, v14, ⟨hn13, hm13, hn14, hm14⟩, hb15⟩
  replace b := b.below hb15 b.lt; replace v := (v.below hb15).up hb15.size
  replace b1 := b1.below hb15 b1.lt; replace v1 := (v1.below hb15).up hb15.size
  replace b2 := b2.below hb15 b2.lt; replace v2 := (v2.below hb15).up hb15.size
  replace b3 := b3.below hb15 b3.lt; replace v3 := (v3.below hb15).up hb15.size
  replace b4 := b4.below hb15 b4.lt; replace v4 := (v4.below hb15).up hb15.size
  replace b5 := b5.below hb15 b5.lt; replace v5 := (v5.below hb15).up hb15.size
  replace b6 := b6.below hb15 b6.lt; replace v6 := (v6.below hb15).up hb15.size
  replace b7 := b7.below hb15 b7.lt; replace v7 := (v7.below hb15).up hb15.size
  replace b8 := b8.below hb15 b8.lt; replace v8 := (v8.below hb15).up hb15.size
  replace b9 := b9.below hb15 b9.lt; replace v9 := (v9.below hb15).up hb15.size
  replace b10 := b10.below hb15 b10.lt; replace v10 := (v10.below hb15).up hb15.size
  replace b11 := b11.below hb15 b11.lt; replace v11 := (v11.below hb15).up hb15.size
  replace b12 := b12.below hb15 b12.lt; replace v12 := (v12.below hb15).up hb15.size
  have hB15 := hB14.trans (hb15.mono hB14.size)
  clear hb15 hB14
  have HX13 := Lib.hid hx13; have HS13 := Lib.hid hs13; clear hx13 hs13
  cases bi with
  | false =>
    go_wp2
    go_ret
    exact ⟨rfl, (hB15.alloc hB15.size _).alloc (by have := hB15.size; simp; omega) _⟩
  | true =>
  cases bj with
  | false =>
    go_wp2
    go_ret
    exact ⟨rfl, (hB15.alloc hB15.size _).alloc (by have := hB15.size; simp; omega) _⟩
  | true =>
  cases bk with
  | false =>
    go_wp2
    go_ret
    exact ⟨rfl, (hB15.alloc hB15.size _).alloc (by have := hB15.size; simp; omega) _⟩
  | true =>
  cases bl with
  | false =>
    go_wp2
    go_ret
    exact ⟨rfl, (hB15.alloc hB15.size _).alloc (by have := hB15.size; simp; omega) _⟩
  | true =>
  cases bm with
  | false =>
    go_wp2
    go_ret
    exact ⟨rfl, (hB15.alloc hB15.size _).alloc (by have := hB15.size; simp; omega) _⟩
  | true =>
  cases bn with
  | false =>
    go_wp2
    go_ret
    exact ⟨rfl, (hB15.alloc hB15.size _).alloc (by have := hB15.size; simp; omega) _⟩
  | true =>
  obtain ⟨e1, e2, e3⟩ := passH_three (outH_of HX3.out HS3.out) (outH_of HX5.out HS5.out) (outH_of HX7.out HS7.out) (outH_of HX9.out HS9.out) (outH_of HX11.out HS11.out) (outH_of HX13.out HS13.out)
  clear HX3 HS3 HX5 HS5 HX7 HS7 HX9 HS9 HX11 HS11 HX13 HS13
  subst e1 e2 e3
  have y07 : w15.cell? ⟨u7, 0, none⟩ = some (.int .i64 g7.pos) := b7.cell 0 rfl; have y17 : w15.cell? ⟨u7, 1, none⟩ = some (.slice A7 n7 c7) := b7.cell 1 rfl; have y27 : w15.cell? ⟨u7, 2, none⟩ = some (.slice D7 m7 k7) := b7.cell 2 rfl; have yl7 := b7.lt
  have yk7 := yl7
  have y011 : w15.cell? ⟨u11, 0, none⟩ = some (.int .i64 g7.pos) := b11.cell 0 rfl; have y111 : w15.cell? ⟨u11, 1, none⟩ = some (.slice A11 n11 c11) := b11.cell 1 rfl; have y211 : w15.cell? ⟨u11, 2, none⟩ = some (.slice D11 m11 k11) := b11.cell 2 rfl; have yl11 := b11.lt
  have yk11 := yl11
  go_wp2_with fail
  clear y07 y17 y27 yl7 yk7
  clear y011 y111 y211 yl11 yk11
  have hb16 : Below w15.heap.size w15 ((w15.alloc (.cells #[.int .i64 g8.pos, .slice A13 n13 c13, .slice D13 m13 k13] 24)).alloc (.cells #[.int .i64 g6.pos, .slice A14 n14 c14, .slice D14 m14 k14] 24)) := ((Below.refl _ _).alloc (Nat.le_refl _) _).alloc (by simp) _
  have b13 := (Blk.new w15 24 #[.int .i64 g8.pos, .slice A13 n13 c13, .slice D13 m13 k13]).alloc (.cells #[.int .i64 g6.pos, .slice A14 n14 c14, .slice D14 m14 k14] 24)
  have b14 := Blk.new (w15.alloc (.cells #[.int .i64 g8.pos, .slice A13 n13 c13, .slice D13 m13 k13] 24)) 24 #[.int .i64 g6.pos, .slice A14 n14 c14, .slice D14 m14 k14]
  simp only [World.size_alloc] at b14
  replace b := b.below hb16 b.lt; replace v := (v.below hb16).up hb16.size
  replace b1 := b1.below hb16 b1.lt; replace v1 := (v1.below hb16).up hb16.size
  replace b2 := b2.below hb16 b2.lt; replace v2 := (v2.below hb16).up hb16.size
  replace b3 := b3.below hb16 b3.lt; replace v3 := (v3.below hb16).up hb16.size
  replace b4 := b4.below hb16 b4.lt; replace v4 := (v4.below hb16).up hb16.size
  replace b5 := b5.below hb16 b5.lt; replace v5 := (v5.below hb16).up hb16.size
  replace b6 := b6.below hb16 b6.lt; replace v6 := (v6.below hb16).up hb16.size
  replace b7 := b7.below hb16 b7.lt; replace v7 := (v7.below hb16).up hb16.size
  replace b8 := b8.below hb16 b8.lt; replace v8 := (v8.below hb16).up hb16.size
  replace b9 := b9.below hb16 b9.lt; replace v9 := (v9.below hb16).up hb16.size
  replace b10 := b10.below hb16 b10.lt; replace v10 := (v10.below hb16).up hb16.size
  replace b11 := b11.below hb16 b11.lt; replace v11 := (v11.below hb16).up hb16.size
  replace b12 := b12.below hb16 b12.lt; replace v12 := (v12.below hb16).up hb16.size
  replace v13 := (v13.below hb16).up hb16.size
  replace v14 := (v14.below hb16).up hb16.size
  have hB16 := hB15.trans (hb16.mono hB15.size)
  clear hb16 hB15
  generalize ((w15.alloc (.cells #[.int .i64 g8.pos, .slice A13 n13 c13, .slice D13 m13 k13] 24)).alloc (.cells #[.int .i64 g6.pos, .slice A14 n14 c14, .slice D14 m14 k14] 24)) = w16 at *
  generalize w15.heap.size = u13 at *
  refine (Same_self A7 n7 c7 D7 m7 k7 A11 n11 c11 D11 m11 k11 _ g7 w16 (Nat.le_refl _) v7 v11).mono ?_
  rintro e w17 ⟨rfl, hb17⟩
  replace b := b.below hb17 b.lt; replace v := (v.below hb17).up hb17.size
  replace b1 := b1.below hb17 b1.lt; replace v1 := (v1.below hb17).up hb17.size
  replace b2 := b2.below hb17 b2.lt; replace v2 := (v2.below hb17).up hb17.size
  replace b3 := b3.below hb17 b3.lt; replace v3 := (v3.below hb17).up hb17.size
  replace b4 := b4.below hb17 b4.lt; replace v4 := (v4.below hb17).up hb17.size
  replace b5 := b5.below hb17 b5.lt; replace v5 := (v5.below hb17).up hb17.size
  replace b6 := b6.below hb17 b6.lt; replace v6 := (v6.below hb17).up hb17.size
  replace b7 := b7.below hb17 b7.lt; replace v7 := (v7.below hb17).up hb17.size
  replace b8 := b8.below hb17 b8.lt; replace v8 := (v8.below hb17).up hb17.size
  replace b9 := b9.below hb17 b9.lt; replace v9 := (v9.below hb17).up hb17.size
  replace b10 := b10.below hb17 b10.lt; replace v10 := (v10.below hb17).up hb17.size
  replace b11 := b11.below hb17 b11.lt; replace v11 := (v11.below hb17).up hb17.size
  replace b12 := b12.below hb17 b12.lt; replace v12 := (v12.below hb17).up hb17.size
  replace b13 := b13.below hb17 b13.lt; replace v13 := (v13.below hb17).up hb17.size
  replace b14 := b14.below hb17 b14.lt; replace v14 := (v14.below hb17).up hb17.size
  have hB17 := hB16.trans (hb17.mono hB16.size)
  clear hb17 hB16
  have y08 : w17.cell? ⟨u7 + 1, 0, none⟩ = some (.int .i64 g8.pos) := b8.cell 0 rfl; have y18 : w17.cell? ⟨u7 + 1, 1, none⟩ = some (.slice A8 n8 c8) := b8.cell 1 rfl; have y28 : w17.cell? ⟨u7 + 1, 2, none⟩ = some (.slice D8 m8 k8) := b8.cell 2 rfl; have yl8 := b8.lt
  have yk8 : u7 < w17.heap.size := Nat.lt_of_succ_lt yl8
  have y013 : w17.cell? ⟨u13, 0, none⟩ = some (.int .i64 g8.pos) := b13.cell 0 rfl; have y113 : w17.cell? ⟨u13, 1, none⟩ = some (.slice A13 n13 c13) := b13.cell 1 rfl; have y213 : w17.cell? ⟨u13, 2, none⟩ = some (.slice D13 m13 k13) := b13.cell 2 rfl; have yl13 := b13.lt
  have yk13 := yl13
  go_wp2_with fail
  clear y08 y18 y28 yl8 yk8
  clear y013 y113 y213 yl13 yk13
  refine (Same_self A8 n8 c8 D8 m8 k8 A13 n13 c13 D13 m13 k13 _ g8 w17 (Nat.le_refl _) v8 v13).mono ?_
  rintro e w18 ⟨rfl, hb18⟩
  replace b := b.below hb18 b.lt; replace v := (v.below hb18).up hb18.size
  replace b1 := b1.below hb18 b1.lt; replace v1 := (v1.below hb18).up hb18.size
  replace b2 := b2.below hb18 b2.lt; replace v2 := (v2.below hb18).up hb18.size
  replace b3 := b3.below hb18 b3.lt; replace v3 := (v3.below hb18).up hb18.size
  replace b4 := b4.below hb18 b4.lt; replace v4 := (v4.below hb18).up hb18.size
  replace b5 := b5.below hb18 b5.lt; replace v5 := (v5.below hb18).up hb18.size
  replace b6 := b6.below hb18 b6.lt; replace v6 := (v6.below hb18).up hb18.size
  replace b7 := b7.below hb18 b7.lt; replace v7 := (v7.below hb18).up hb18.size
  replace b8 := b8.below hb18 b8.lt; replace v8 := (v8.below hb18).up hb18.size
  replace b9 := b9.below hb18 b9.lt; replace v9 := (v9.below hb18).up hb18.size
  replace b10 := b10.below hb18 b10.lt; replace v10 := (v10.below hb18).up hb18.size
  replace b11 := b11.below hb18 b11.lt; replace v11 := (v11.below hb18).up hb18.size
  replace b12 := b12.below hb18 b12.lt; replace v12 := (v12.below hb18).up hb18.size
  replace b13 := b13.below hb18 b13.lt; replace v13 := (v13.below hb18).up hb18.size
  replace b14 := b14.below hb18 b14.lt; replace v14 := (v14.below hb18).up hb18.size
  have hB18 := hB17.trans (hb18.mono hB17.size)
  clear hb18 hB17
  have y06 : w18.cell? ⟨u5 + 1, 0, none⟩ = some (.int .i64 g6.pos) := b6.cell 0 rfl; have y16 : w18.cell? ⟨u5 + 1, 1, none⟩ = some (.slice A6 n6 c6) := b6.cell 1 rfl; have y26 : w18.cell? ⟨u5 + 1, 2, none⟩ = some (.slice D6 m6 k6) := b6.cell 2 rfl; have yl6 := b6.lt
  have yk6 : u5 < w18.heap.size := Nat.lt_of_succ_lt yl6
  have y014 : w18.cell? ⟨u13 + 1, 0, none⟩ = some (.int .i64 g6.pos) := b14.cell 0 rfl; have y114 : w18.cell? ⟨u13 + 1, 1, none⟩ = some (.slice A14 n14 c14) := b14.cell 1 rfl; have y214 : w18.cell? ⟨u13 + 1, 2, none⟩ = some (.slice D14 m14 k14) := b14.cell 2 rfl; have yl14 := b14.lt
  have yk14 : u13 < w18.heap.size := Nat.lt_of_succ_lt yl14
  go_wp2_with fail
  clear y06 y16 y26 yl6 yk6
  clear y014 y114 y214 yl14 yk14
  refine (Same_self A6 n6 c6 D6 m6 k6 A14 n14 c14 D14 m14 k14 _ g6 w18 (Nat.le_refl _) v6 v14).mono ?_
  rintro e w19 ⟨rfl, hb19⟩
  replace b := b.below hb19 b.lt; replace v := (v.below hb19).up hb19.size
  replace b1 := b1.below hb19 b1.lt; replace v1 := (v1.below hb19).up hb19.size
  replace b2 := b2.below hb19 b2.lt; replace v2 := (v2.below hb19).up hb19.size
  replace b3 := b3.below hb19 b3.lt; replace v3 := (v3.below hb19).up hb19.size
  replace b4 := b4.below hb19 b4.lt; replace v4 := (v4.below hb19).up hb19.size
  replace b5 := b5.below hb19 b5.lt; replace v5 := (v5.below hb19).up hb19.size
  replace b6 := b6.below hb19 b6.lt; replace v6 := (v6.below hb19).up hb19.size
  replace b7 := b7.below hb19 b7.lt; replace v7 := (v7.below hb19).up hb19.size
  replace b8 := b8.below hb19 b8.lt; replace v8 := (v8.below hb19).up hb19.size
  replace b9 := b9.below hb19 b9.lt; replace v9 := (v9.below hb19).up hb19.size
  replace b10 := b10.below hb19 b10.lt; replace v10 := (v10.below hb19).up hb19.size
  replace b11 := b11.below hb19 b11.lt; replace v11 := (v11.below hb19).up hb19.size
  replace b12 := b12.below hb19 b12.lt; replace v12 := (v12.below hb19).up hb19.size
  replace b13 := b13.below hb19 b13.lt; replace v13 := (v13.below hb19).up hb19.size
  replace b14 := b14.below hb19 b14.lt; replace v14 := (v14.below hb19).up hb19.size
  have hB19 := hB18.trans (hb19.mono hB18.size)
  clear hb19 hB18
  go_wp2
  go_ret
  exact ⟨rfl, hB19⟩

end Sw
open Tx Df Hk Sw
open Go.ChangeShapes Go.WideShapes Go.ChangeAt

theorem swapThree_own : ownKnob Try.prog.godebug = none := by kernel_rfl
theorem swapThree_laidOut : laidOutB Try.prog = true := by kernel_rfl

set_option maxRecDepth 100000 in
theorem swapThree_lifted (os : Os) (started : os.Started) (H : Type) (enc : TypeId × Value → H) :
    ReturnsInHanded {} Try.checked os 7 .any (Rows.swapThreeSpec.pre6 enc Try.prog Try.f7 Rows.swapThreeRow.domain false) (Rows.swapThreeSpec.post enc Try.prog Try.f7 false true false false) := by
  refine returnsInHanded_of_change (C := Try.checked) swapThree_own started (by kernel_rfl) Try.func7
    (ChangeSpec.witness6 (enc := enc) (C := Try.checked) false ⟨#[], #[.agg #[.int .i64 0, .slice none 0 0, .slice none 0 0], .agg #[.int .i64 0, .slice none 0 0, .slice none 0 0], .agg #[.int .i64 0, .slice none 0 0, .slice none 0 0]], []⟩ 8 (by kernel_rfl) (by kernel_rfl) (by kernel_rfl) (by kernel_rfl)) ?_
  intro W base args ds gs before hval0 hW hcnd _
  have hval : ∀ (j : Nat) t v, Try.f7.params[j]? = some t → args[j]? = some v → Value.okWide Try.prog W .any base t v := hval0
  have hW' := hW
  obtain ⟨p, q, hA0, hV, rfl, hfz, hnd⟩ := hW
  have hA : DataW.TrodAll enc Try.prog W 0 (fun _ => true) true Try.f7.params.toList args.toList ds p := hA0
  rw [Try.params7] at hA hval
  obtain ⟨v0, vs0, d0, ds0, p0, q0, hargs, rfl, rfl, h0, r0⟩ := trodAll_cons hA
  obtain ⟨v1, vs1, d1, ds1, p1, q1, rfl, rfl, rfl, h1, r1⟩ := trodAll_cons r0
  obtain ⟨v2, vs2, d2, ds2, p2, q2, rfl, rfl, rfl, h2, r2⟩ := trodAll_cons r1
  obtain ⟨rfl, rfl, rfl⟩ := trodAll_nil r2
  obtain rfl : args = #[v0, v1, v2] := by cases args; simp_all
  obtain ⟨rfl, rfl⟩ := trodVars_none hV
  have k0 := h0
  have lt0 : ∀ x ∈ p0, x.block < W.heap.size := by obtain ⟨m, hm⟩ := k0; exact DataW.trod_lt m _ _ _ hm
  obtain ⟨a0, n0, c0, b0, m0, e0, l0, rfl, s0⟩ := hunk_in (hval 0 24 v0 rfl rfl) h0
  have k1 := h1
  have lt1 : ∀ x ∈ p1, x.block < W.heap.size := by obtain ⟨m, hm⟩ := k1; exact DataW.trod_lt m _ _ _ hm
  obtain ⟨a1, n1, c1, b1, m1, e1, l1, rfl, s1⟩ := hunk_in (hval 1 24 v1 rfl rfl) h1
  have k2 := h2
  have lt2 : ∀ x ∈ p2, x.block < W.heap.size := by obtain ⟨m, hm⟩ := k2; exact DataW.trod_lt m _ _ _ hm
  obtain ⟨a2, n2, c2, b2, m2, e2, l2, rfl, s2⟩ := hunk_in (hval 2 24 v2 rfl rfl) h2
  clear hA0 hval0
  refine (swapThree_walk a0 n0 c0 b0 m0 e0 l0 a1 n1 c1 b1 m1 e1 l1 a2 n2 c2 b2 m2 e2 l2 W s0 s1 s2).mono fun e W' ⟨he, bel⟩ => ?_
  subst he
  exact ⟨_, rfl, _, _, _, [], _, [], hW', trodAll_mk1 (shut_bool Try.underlying4 _), (trodAll_cons_mk (Below.trod swapThree_laidOut (by kernel_rfl) (of_decide_eq_true (by kernel_rfl)) k0 bel lt0) (trodAll_cons_mk (Below.trod swapThree_laidOut (by kernel_rfl) (of_decide_eq_true (by kernel_rfl)) k1 bel lt1) (trodAll_cons_mk (Below.trod swapThree_laidOut (by kernel_rfl) (of_decide_eq_true (by kernel_rfl)) k2 bel lt2) trodAll_mk0))), rfl, bel.frame _, fun h => by cases h⟩

/-- The statement. -/
theorem swapThree_proved : Rows.SwapThreeSaid :=
  OpenClaim.holds_of_wide 7 Try.f7 rfl rfl rfl rfl rfl rfl rfl ⟨rfl, rfl, rfl, rfl, rfl⟩ rfl rfl rfl rfl rfl (by kernel_rfl) Try.func7 (by kernel_rfl)
    (of_decide_eq_true (by kernel_rfl)) (by unfold Func.isWrapper; first | (rw [if_pos (by decide +kernel)]; kernel_rfl) | (rw [if_neg (by decide +kernel)]; exact ⟨rfl, rfl⟩))
    (fun os started H enc _ => swapThree_lifted os started H enc)

#print axioms swapThree_proved
end Go.Proofs.Ytdbhfohilfcgfaa
