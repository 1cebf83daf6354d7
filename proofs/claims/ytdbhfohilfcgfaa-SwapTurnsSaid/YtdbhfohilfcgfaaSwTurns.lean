/-
  The statement SwapTurns: two pass one another just if, turned, they do, in the other order; and what they are then is turned, too.
-/
import Derived.Test.YtdbhfohilfcgfaaSwLaw
import Derived.Test.YtdbhfohilfcgfaaSwAwake
import Derived.Test.YtdbhfohilfcgfaaHkTurn
import Derived.Test.YtdbhfohilfcgfaaHkOpen
import Derived.Test.YtdbhfohilfcgfaaQLaw
import Derived.Deep.Cut
namespace Go.Proofs.Ytdbhfohilfcgfaa
open Go.RowKit
set_option linter.unusedVariables false
namespace Sw
open Tx Df Sq Hk

theorem bel0 (w : World) : Below w.heap.size w w := Below.refl _ _
theorem bel1 (w : World) (o : Obj) : Below w.heap.size w (w.alloc o) := (Below.refl _ _).alloc (Nat.le_refl _) _
theorem bel2 (w : World) (o o' : Obj) : Below w.heap.size w ((w.alloc o).alloc o') := ((Below.refl _ _).alloc (Nat.le_refl _) _).alloc (by simp) _
theorem belD0 (w : World) : Below w.heap.size w w.drew := below_drewN (bel0 w) 1
theorem belD1 (w : World) (o : Obj) : Below w.heap.size w (w.alloc o).drew := below_drewN (bel1 w o) 1
theorem belD2 (w : World) (o o' : Obj) : Below w.heap.size w ((w.alloc o).alloc o').drew := below_drewN (bel2 w o o') 1
theorem thr {w W u : World} (h : Below w.heap.size w W) (hb : Below W.heap.size W u) : Below w.heap.size w u := h.trans (hb.mono h.size)
theorem thr0 {w u : World} (hb : Below w.heap.size w u) : Below w.heap.size w u := hb
theorem thr1 {w u : World} {o : Obj} (hb : Below (w.alloc o).heap.size (w.alloc o) u) : Below w.heap.size w u := thr (bel1 w o) hb
theorem thr2 {w u : World} {o o' : Obj} (hb : Below ((w.alloc o).alloc o').heap.size ((w.alloc o).alloc o') u) : Below w.heap.size w u := thr (bel2 w o o') hb
theorem thrD0 {w u : World} (hb : Below w.drew.heap.size w.drew u) : Below w.heap.size w u := thr (belD0 w) hb
theorem thrD1 {w u : World} {o : Obj} (hb : Below (w.alloc o).drew.heap.size (w.alloc o).drew u) : Below w.heap.size w u := thr (belD1 w o) hb
theorem thrD2 {w u : World} {o o' : Obj} (hb : Below ((w.alloc o).alloc o').drew.heap.size ((w.alloc o).alloc o').drew u) : Below w.heap.size w u := thr (belD2 w o o') hb
theorem hv_up {w W : World} {A A' : Option Addr} {n c n' c' : Nat} {h : HU} (hv : HV w w.heap.size A n c A' n' c' h) (hb : Below w.heap.size w W) : HV W W.heap.size A n c A' n' c' h := (hv.below hb).up hb.size
theorem new1 {w u : World} {t : TypeId} {cs : Array Value} (hb : Below (w.alloc (.cells cs t)).heap.size (w.alloc (.cells cs t)) u) : Blk u w.heap.size t cs := (Blk.new w t cs).below hb (by simp)
theorem newD1 {w u : World} {t : TypeId} {cs : Array Value} (hb : Below (w.alloc (.cells cs t)).drew.heap.size (w.alloc (.cells cs t)).drew u) : Blk u w.heap.size t cs := ((Blk.new w t cs).drewN 1).below hb (show w.heap.size < (w.alloc (.cells cs t)).heap.size by simp)
theorem new2 {w u : World} {t t' : TypeId} {cs cs' : Array Value} (hb : Below ((w.alloc (.cells cs t)).alloc (.cells cs' t')).heap.size ((w.alloc (.cells cs t)).alloc (.cells cs' t')) u) : Blk u w.heap.size t cs ∧ Blk u (w.heap.size + 1) t' cs' := by
  have h2 := Blk.new (w.alloc (.cells cs t)) t' cs'
  simp only [World.size_alloc] at h2
  exact ⟨((Blk.new w t cs).alloc (.cells cs' t')).below hb (by simp; omega), h2.below hb (by simp)⟩
theorem newD2 {w u : World} {t t' : TypeId} {cs cs' : Array Value} (hb : Below ((w.alloc (.cells cs t)).alloc (.cells cs' t')).drew.heap.size ((w.alloc (.cells cs t)).alloc (.cells cs' t')).drew u) : Blk u w.heap.size t cs ∧ Blk u (w.heap.size + 1) t' cs' := by
  have h2 := Blk.new (w.alloc (.cells cs t)) t' cs'
  simp only [World.size_alloc] at h2
  exact ⟨(((Blk.new w t cs).alloc (.cells cs' t')).drewN 1).below hb (show w.heap.size < ((w.alloc (.cells cs t)).alloc (.cells cs' t')).heap.size by simp; omega), (h2.drewN 1).below hb (show w.heap.size + 1 < ((w.alloc (.cells cs t)).alloc (.cells cs' t')).heap.size by simp)⟩

/-- Where two hunks lie. -/
def Lay (w W : World) (T U : Nat) (A4 : Option Addr) (n4 c4 : Nat) (D4 : Option Addr) (m4 k4 : Nat) (g4 : HU) (A5 : Option Addr) (n5 c5 : Nat) (D5 : Option Addr) (m5 k5 : Nat) (g5 : HU) : Prop :=
  Blk W T 24 #[.int .i64 g4.pos, .slice A4 n4 c4, .slice D4 m4 k4] ∧ Blk W U 24 #[.int .i64 g5.pos, .slice A5 n5 c5, .slice D5 m5 k5] ∧ HV W W.heap.size A4 n4 c4 D4 m4 k4 g4 ∧ HV W W.heap.size A5 n5 c5 D5 m5 k5 g5 ∧ Below w.heap.size w W
section
variable {w u : World} {T U X Y : Nat} {A4 : Option Addr} {n4 c4 : Nat} {D4 : Option Addr} {m4 k4 : Nat} {g4 : HU} {A5 : Option Addr} {n5 c5 : Nat} {D5 : Option Addr} {m5 k5 : Nat} {g5 : HU}
theorem Lay.swap {W : World} (h : Lay w W T U A4 n4 c4 D4 m4 k4 g4 A5 n5 c5 D5 m5 k5 g5) : Lay w W U T A5 n5 c5 D5 m5 k5 g5 A4 n4 c4 D4 m4 k4 g4 := ⟨h.2.1, h.1, h.2.2.2.1, h.2.2.1, h.2.2.2.2⟩
theorem lay_aa (hw : Below w.heap.size w u) (v4 : HV u u.heap.size A4 n4 c4 D4 m4 k4 g4) (v5 : HV u u.heap.size A5 n5 c5 D5 m5 k5 g5) :
    Lay w ((u.alloc (.cells #[.int .i64 g4.pos, .slice A4 n4 c4, .slice D4 m4 k4] 24)).alloc (.cells #[.int .i64 g5.pos, .slice A5 n5 c5, .slice D5 m5 k5] 24)) u.heap.size (u.heap.size + 1) A4 n4 c4 D4 m4 k4 g4 A5 n5 c5 D5 m5 k5 g5 := by
  have h2 := Blk.new (u.alloc (.cells #[.int .i64 g4.pos, .slice A4 n4 c4, .slice D4 m4 k4] 24)) 24 #[.int .i64 g5.pos, .slice A5 n5 c5, .slice D5 m5 k5]
  simp only [World.size_alloc] at h2
  exact ⟨(Blk.new u _ _).alloc _, h2, hv_up v4 (bel2 u _ _), hv_up v5 (bel2 u _ _), hw.trans ((bel2 u _ _).mono hw.size)⟩
theorem hv_alc {W : World} {B : Nat} {A A' : Option Addr} {n c n' c' : Nat} {h : HU} (hv : HV W B A n c A' n' c' h) (hB : B ≤ W.heap.size) (o : Obj) : HV (W.alloc o) (W.alloc o).heap.size A n c A' n' c' h := (hv.below ((Below.refl _ _).alloc hB o)).up (Nat.le_trans hB (by simp))
theorem size_set3 (W : World) (b : Nat) (v0 v1 v2 : Value) : W.heap.size ≤ (((W.setCell ⟨b, 0, none⟩ v0).setCell ⟨b, 1, none⟩ v1).setCell ⟨b, 2, none⟩ v2).heap.size :=
  ((((Below.refl 0 W).setCell (p := ⟨b, 0, none⟩) (Nat.zero_le _) v0).setCell (p := ⟨b, 1, none⟩) (Nat.zero_le _) v1).setCell (p := ⟨b, 2, none⟩) (Nat.zero_le _) v2).size
theorem size_set3' (W : World) (b : Nat) (v0 v1 v2 : Value) : (((W.setCell ⟨b, 0, none⟩ v0).setCell ⟨b, 1, none⟩ v1).setCell ⟨b, 2, none⟩ v2).heap.size = W.heap.size := by simp
theorem lay_sa (hw : Below w.heap.size w u) (hX : Blk u X 24 #[.int .i64 0, .slice none 0 0, .slice none 0 0]) (hle : w.heap.size ≤ X) (v4 : HV u u.heap.size A4 n4 c4 D4 m4 k4 g4) (v5 : HV u u.heap.size A5 n5 c5 D5 m5 k5 g5) :
    Lay w ((((u.setCell ⟨X, 0, none⟩ (.int .i64 g4.pos)).setCell ⟨X, 1, none⟩ (.slice A4 n4 c4)).setCell ⟨X, 2, none⟩ (.slice D4 m4 k4)).alloc (.cells #[.int .i64 g5.pos, .slice A5 n5 c5, .slice D5 m5 k5] 24)) X u.heap.size A4 n4 c4 D4 m4 k4 g4 A5 n5 c5 D5 m5 k5 g5 := by
  have h2 := Blk.new (((u.setCell ⟨X, 0, none⟩ (.int .i64 g4.pos)).setCell ⟨X, 1, none⟩ (.slice A4 n4 c4)).setCell ⟨X, 2, none⟩ (.slice D4 m4 k4)) 24 #[.int .i64 g5.pos, .slice A5 n5 c5, .slice D5 m5 k5]
  rw [size_set3'] at h2
  have hs := size_set3 u X (.int .i64 g4.pos) (.slice A4 n4 c4) (.slice D4 m4 k4)
  have hb : Below w.heap.size w (((u.setCell ⟨X, 0, none⟩ (.int .i64 g4.pos)).setCell ⟨X, 1, none⟩ (.slice A4 n4 c4)).setCell ⟨X, 2, none⟩ (.slice D4 m4 k4)) := ((hw.setCell (p := ⟨X, 0, none⟩) hle _).setCell (p := ⟨X, 1, none⟩) hle _).setCell (p := ⟨X, 2, none⟩) hle _
  exact ⟨(((hX.set 0 _).set 1 _).set 2 _).alloc _, h2, hv_alc (hv_set3 hX _ _ _ _ _ _ _ v4) hs _, hv_alc (hv_set3 hX _ _ _ _ _ _ _ v5) hs _, hb.alloc hb.size _⟩
theorem lay_ss (hw : Below w.heap.size w u) (hX : Blk u X 24 #[.int .i64 0, .slice none 0 0, .slice none 0 0]) (hY : Blk u Y 24 #[.int .i64 0, .slice none 0 0, .slice none 0 0]) (hne : X ≠ Y) (hle : w.heap.size ≤ X) (hle' : w.heap.size ≤ Y)
    (v4 : HV u u.heap.size A4 n4 c4 D4 m4 k4 g4) (v5 : HV u u.heap.size A5 n5 c5 D5 m5 k5 g5) :
    Lay w ((((((u.setCell ⟨X, 0, none⟩ (.int .i64 g4.pos)).setCell ⟨X, 1, none⟩ (.slice A4 n4 c4)).setCell ⟨X, 2, none⟩ (.slice D4 m4 k4)).setCell ⟨Y, 0, none⟩ (.int .i64 g5.pos)).setCell ⟨Y, 1, none⟩ (.slice A5 n5 c5)).setCell ⟨Y, 2, none⟩ (.slice D5 m5 k5)) X Y A4 n4 c4 D4 m4 k4 g4 A5 n5 c5 D5 m5 k5 g5 := by
  obtain ⟨z2, z3⟩ := two_set hX hY hne (.int .i64 g4.pos) (.slice A4 n4 c4) (.slice D4 m4 k4) (.int .i64 g5.pos) (.slice A5 n5 c5) (.slice D5 m5 k5)
  have hs := (below_set6 (b := X) (b' := Y) (Below.refl 0 u) (Nat.zero_le _) (Nat.zero_le _) (.int .i64 g4.pos) (.slice A4 n4 c4) (.slice D4 m4 k4) (.int .i64 g5.pos) (.slice A5 n5 c5) (.slice D5 m5 k5)).size
  exact ⟨z2, z3, (hv_set6 hX hY hne _ _ _ _ _ _ _ _ _ _ _ _ _ _ v4).up hs, (hv_set6 hX hY hne _ _ _ _ _ _ _ _ _ _ _ _ _ _ v5).up hs, below_set6 hw hle hle' _ _ _ _ _ _⟩
end

set_option maxRecDepth 100000 in
set_option maxHeartbeats 4000000 in
theorem swapTurns_walk (A : Option Addr) (n c : Nat) (D : Option Addr) (m k : Nat) (g : HU) (A1 : Option Addr) (n1 c1 : Nat) (D1 : Option Addr) (m1 k1 : Nat) (g1 : HU) (w : World) (v : HV w w.heap.size A n c D m k g) (v1 : HV w w.heap.size A1 n1 c1 D1 m1 k1 g1) :
    Calls Try.prog 6 #[hkV g.pos A n c D m k, hkV g1.pos A1 n1 c1 D1 m1 k1] w (LawEnd w) := by
  go_enter Try.func6, Try.ntmps6
  go_wp2_with fail
  have hw0 : Below w.heap.size w ((w.alloc (.cells #[.int .i64 g.pos, .slice A n c, .slice D m k] 24)).alloc (.cells #[.int .i64 g1.pos, .slice A1 n1 c1, .slice D1 m1 k1] 24)) := (((Below.refl _ _).alloc (Nat.le_refl _) _).alloc (by simp) _)
  have b := (Blk.new w 24 #[.int .i64 g.pos, .slice A n c, .slice D m k]).alloc (.cells #[.int .i64 g1.pos, .slice A1 n1 c1, .slice D1 m1 k1] 24)
  have b1 := Blk.new (w.alloc (.cells #[.int .i64 g.pos, .slice A n c, .slice D m k] 24)) 24 #[.int .i64 g1.pos, .slice A1 n1 c1, .slice D1 m1 k1]
  simp only [World.size_alloc] at b1
  generalize ((w.alloc (.cells #[.int .i64 g.pos, .slice A n c, .slice D m k] 24)).alloc (.cells #[.int .i64 g1.pos, .slice A1 n1 c1, .slice D1 m1 k1] 24)) = w0 at *
  obtain ⟨gb, hgb⟩ : ∃ gb, w.heap.size = gb := ⟨_, rfl⟩
  rw [hgb] at ⊢ b b1
  clear hgb
  refine (awake w0).mono ?_
  rintro e w1 ⟨rfl, hb1⟩
  have hB1 := hw0.trans (hb1.mono hw0.size)
  replace b := b.below hb1 b.lt; replace v := (v.below hB1).up hB1.size
  replace b1 := b1.below hb1 b1.lt; replace v1 := (v1.below hB1).up hB1.size
  clear hw0 hb1
  have y0 : w1.cell? ⟨gb, 0, none⟩ = some (.int .i64 g.pos) := b.cell 0 rfl; have y1 : w1.cell? ⟨gb, 1, none⟩ = some (.slice A n c) := b.cell 1 rfl; have y2 : w1.cell? ⟨gb, 2, none⟩ = some (.slice D m k) := b.cell 2 rfl; have yl := b.lt
  have yk := yl
  go_wp2_with fail
  refine (LightH A n c D m k _ g w1 (Nat.le_refl _) v).mono ?_
  rintro e w2 ⟨rfl, hb2⟩
  clear y0 y1 y2 yl yk
  replace b := b.below hb2 b.lt; replace v := (v.below hb2).up hb2.size
  replace b1 := b1.below hb2 b1.lt; replace v1 := (v1.below hb2).up hb2.size
  have hB2 := hB1.trans (hb2.mono hB1.size)
  clear hb2 hB1
  have y01 : w2.cell? ⟨gb + 1, 0, none⟩ = some (.int .i64 g1.pos) := b1.cell 0 rfl; have y11 : w2.cell? ⟨gb + 1, 1, none⟩ = some (.slice A1 n1 c1) := b1.cell 1 rfl; have y21 : w2.cell? ⟨gb + 1, 2, none⟩ = some (.slice D1 m1 k1) := b1.cell 2 rfl; have yl1 := b1.lt
  have yk1 : gb < w2.heap.size := Nat.lt_of_succ_lt yl1
  go_wp2_with fail
  refine (LightH A1 n1 c1 D1 m1 k1 _ g1 w2 (Nat.le_refl _) v1).mono ?_
  rintro e w3 ⟨rfl, hb3⟩
  clear y01 y11 y21 yl1 yk1
  replace b := b.below hb3 b.lt; replace v := (v.below hb3).up hb3.size
  replace b1 := b1.below hb3 b1.lt; replace v1 := (v1.below hb3).up hb3.size
  have hB3 := hB2.trans (hb3.mono hB2.size)
  clear hb3 hB2
  cases hl : (light g.old 300 && light g.new 300) with
  | false =>
    clear hl
    go_wp2
    go_ret
    exact ⟨rfl, hB3⟩
  | true =>
  rw [Bool.and_eq_true] at hl
  have ln := light_len hl.1 v.l; have lm := light_len hl.2 v.l'
  have HLT := Lib.hid hl; clear hl
  have hn : n ≤ 1000 := by omega
  have hm : m ≤ 1000 := by omega
  cases hl : (light g1.old 300 && light g1.new 300) with
  | false =>
    clear hl
    go_wp2
    go_ret
    exact ⟨rfl, hB3⟩
  | true =>
  rw [Bool.and_eq_true] at hl
  have ln1 := light_len hl.1 v1.l; have lm1 := light_len hl.2 v1.l'
  have HLT1 := Lib.hid hl; clear hl
  have hn1 : n1 ≤ 1000 := by omega
  have hm1 : m1 ≤ 1000 := by omega
  have y0 : w3.cell? ⟨gb, 0, none⟩ = some (.int .i64 g.pos) := b.cell 0 rfl; have y1 : w3.cell? ⟨gb, 1, none⟩ = some (.slice A n c) := b.cell 1 rfl; have y2 : w3.cell? ⟨gb, 2, none⟩ = some (.slice D m k) := b.cell 2 rfl; have yl := b.lt
  have yk := yl
  have y01 : w3.cell? ⟨gb + 1, 0, none⟩ = some (.int .i64 g1.pos) := b1.cell 0 rfl; have y11 : w3.cell? ⟨gb + 1, 1, none⟩ = some (.slice A1 n1 c1) := b1.cell 1 rfl; have y21 : w3.cell? ⟨gb + 1, 2, none⟩ = some (.slice D1 m1 k1) := b1.cell 2 rfl; have yl1 := b1.lt
  have yk1 : gb < w3.heap.size := Nat.lt_of_succ_lt yl1
  by_cases t0 : 524288 < g.pos
  · go_wp2
    go_ret
    exact ⟨rfl, hB3⟩
  by_cases t1 : 524288 < g1.pos
  · go_wp2
    go_ret
    exact ⟨rfl, hB3⟩
  go_wp2_with fail
  clear t0 t1
  clear y0 y1 y2 yl yk
  clear y01 y11 y21 yl1 yk1
  obtain ⟨⟨g2, g3⟩, hx2⟩ : ∃ z, outH (passH g g1) = z := ⟨_, rfl⟩
  obtain ⟨is, hs2⟩ : ∃ b, (passH g g1).isSome = b := ⟨_, rfl⟩
  refine (PassL A n c D m k A1 n1 c1 D1 m1 k1 w3.heap.size g g1 w3 g2 g3 is (Nat.le_refl _) hn hm hn1 hm1 v v1 hx2 hs2).mono ?_
  rintro e w4 ⟨A2, n2, c2, D2, m2, k2, A3, n3, c3, D3, m3, k3, rfl, v2, v3, ⟨hn2, hm2, hn3, hm3⟩, hb4⟩
  replace b := b.below hb4 b.lt; replace v := (v.below hb4).up hb4.size
  replace b1 := b1.below hb4 b1.lt; replace v1 := (v1.below hb4).up hb4.size
  have hB4 := hB3.trans (hb4.mono hB3.size)
  clear hb4 hB3
  have HX2 := Lib.hid hx2; have HS2 := Lib.hid hs2; clear hx2 hs2
  have y0 : w4.cell? ⟨gb, 0, none⟩ = some (.int .i64 g.pos) := b.cell 0 rfl; have y1 : w4.cell? ⟨gb, 1, none⟩ = some (.slice A n c) := b.cell 1 rfl; have y2 : w4.cell? ⟨gb, 2, none⟩ = some (.slice D m k) := b.cell 2 rfl; have yl := b.lt
  have yk := yl
  have y01 : w4.cell? ⟨gb + 1, 0, none⟩ = some (.int .i64 g1.pos) := b1.cell 0 rfl; have y11 : w4.cell? ⟨gb + 1, 1, none⟩ = some (.slice A1 n1 c1) := b1.cell 1 rfl; have y21 : w4.cell? ⟨gb + 1, 2, none⟩ = some (.slice D1 m1 k1) := b1.cell 2 rfl; have yl1 := b1.lt
  have yk1 : gb < w4.heap.size := Nat.lt_of_succ_lt yl1
  have Zb := Lib.hid b; have Zb1 := Lib.hid b1; have Zv := Lib.hid v; have Zv1 := Lib.hid v1; have Zv2 := Lib.hid v2; have Zv3 := Lib.hid v3; have Zhn := Lib.hid hn; have Zhn1 := Lib.hid hn1; clear b b1 v v1 v2 v3 hn hn1
  have Zhn2 := Lib.hid hn2; have Zhn3 := Lib.hid hn3; have Zhm := Lib.hid hm; have Zhm1 := Lib.hid hm1; have Zhm2 := Lib.hid hm2; have Zhm3 := Lib.hid hm3; have ZhB4 := Lib.hid hB4; have Zln := Lib.hid ln; clear hn2 hn3 hm hm1 hm2 hm3 hB4 ln
  have Zlm := Lib.hid lm; have Zln1 := Lib.hid ln1; have Zlm1 := Lib.hid lm1; clear lm ln1 lm1
  go_wp2_with fail
  have b := Zb.out; have b1 := Zb1.out; have v := Zv.out; have v1 := Zv1.out; have v2 := Zv2.out; have v3 := Zv3.out; have hn := Zhn.out; have hn1 := Zhn1.out; clear Zb Zb1 Zv Zv1 Zv2 Zv3 Zhn Zhn1
  have hn2 := Zhn2.out; have hn3 := Zhn3.out; have hm := Zhm.out; have hm1 := Zhm1.out; have hm2 := Zhm2.out; have hm3 := Zhm3.out; have hB4 := ZhB4.out; have ln := Zln.out; clear Zhn2 Zhn3 Zhm Zhm1 Zhm2 Zhm3 ZhB4 Zln
  have lm := Zlm.out; have ln1 := Zln1.out; have lm1 := Zlm1.out; clear Zlm Zln1 Zlm1
  clear y0 y1 y2 yl yk
  clear y01 y11 y21 yl1 yk1
  have hb5 : Below w4.heap.size w4 ((w4.alloc (.cells #[.int .i64 g2.pos, .slice A2 n2 c2, .slice D2 m2 k2] 24)).alloc (.cells #[.int .i64 g3.pos, .slice A3 n3 c3, .slice D3 m3 k3] 24)) := ((Below.refl _ _).alloc (Nat.le_refl _) _).alloc (by simp) _
  have b2 := (Blk.new w4 24 #[.int .i64 g2.pos, .slice A2 n2 c2, .slice D2 m2 k2]).alloc (.cells #[.int .i64 g3.pos, .slice A3 n3 c3, .slice D3 m3 k3] 24)
  have b3 := Blk.new (w4.alloc (.cells #[.int .i64 g2.pos, .slice A2 n2 c2, .slice D2 m2 k2] 24)) 24 #[.int .i64 g3.pos, .slice A3 n3 c3, .slice D3 m3 k3]
  simp only [World.size_alloc] at b3
  replace b := b.below hb5 b.lt; replace v := (v.below hb5).up hb5.size
  replace b1 := b1.below hb5 b1.lt; replace v1 := (v1.below hb5).up hb5.size
  replace v2 := (v2.below hb5).up hb5.size
  replace v3 := (v3.below hb5).up hb5.size
  have hB5 := hB4.trans (hb5.mono hB4.size)
  clear hb5 hB4
  generalize ((w4.alloc (.cells #[.int .i64 g2.pos, .slice A2 n2 c2, .slice D2 m2 k2] 24)).alloc (.cells #[.int .i64 g3.pos, .slice A3 n3 c3, .slice D3 m3 k3] 24)) = w5 at *
  generalize w4.heap.size = u2 at *
  obtain ⟨⟨g4, g5⟩, hx4⟩ : ∃ z, outH (passH (turn g1) (turn g)) = z := ⟨_, rfl⟩
  obtain ⟨was, hs4⟩ : ∃ b, (passH (turn g1) (turn g)).isSome = b := ⟨_, rfl⟩
  have hss : ∀ W, Below w5.heap.size w5 W → Below w5.heap.size w5 W ∧ W.cell? ⟨gb, 0, none⟩ = some (.int .i64 g.pos) ∧ W.cell? ⟨gb, 1, none⟩ = some (.slice A n c) ∧ W.cell? ⟨gb, 2, none⟩ = some (.slice D m k) ∧ W.cell? ⟨gb + 1, 0, none⟩ = some (.int .i64 g1.pos) ∧ W.cell? ⟨gb + 1, 1, none⟩ = some (.slice A1 n1 c1) ∧ W.cell? ⟨gb + 1, 2, none⟩ = some (.slice D1 m1 k1) := fun W hb => by
    have x := b.below hb b.lt
    have y := b1.below hb b1.lt
    exact ⟨hb, x.cell 0 rfl, x.cell 1 rfl, x.cell 2 rfl, y.cell 0 rfl, y.cell 1 rfl, y.cell 2 rfl⟩
  have HS0 := Lib.hid (hss w5 (Below.refl _ _))
  have HKD := Lib.hid (hss w5.drew (below_drewN (Below.refl _ _) 1))
  have HKA : Hid (∀ W o, (Below w5.heap.size w5 W ∧ W.cell? ⟨gb, 0, none⟩ = some (.int .i64 g.pos) ∧ W.cell? ⟨gb, 1, none⟩ = some (.slice A n c) ∧ W.cell? ⟨gb, 2, none⟩ = some (.slice D m k) ∧ W.cell? ⟨gb + 1, 0, none⟩ = some (.int .i64 g1.pos) ∧ W.cell? ⟨gb + 1, 1, none⟩ = some (.slice A1 n1 c1) ∧ W.cell? ⟨gb + 1, 2, none⟩ = some (.slice D1 m1 k1)) → Below w5.heap.size w5 (W.alloc o) ∧ (W.alloc o).cell? ⟨gb, 0, none⟩ = some (.int .i64 g.pos) ∧ (W.alloc o).cell? ⟨gb, 1, none⟩ = some (.slice A n c) ∧ (W.alloc o).cell? ⟨gb, 2, none⟩ = some (.slice D m k) ∧ (W.alloc o).cell? ⟨gb + 1, 0, none⟩ = some (.int .i64 g1.pos) ∧ (W.alloc o).cell? ⟨gb + 1, 1, none⟩ = some (.slice A1 n1 c1) ∧ (W.alloc o).cell? ⟨gb + 1, 2, none⟩ = some (.slice D1 m1 k1)) := Lib.hid (fun W o h => hss _ (h.1.alloc h.1.size o))
  have HKS : Hid (∀ W T v0 v1 v2, (Below w5.heap.size w5 W ∧ W.cell? ⟨gb, 0, none⟩ = some (.int .i64 g.pos) ∧ W.cell? ⟨gb, 1, none⟩ = some (.slice A n c) ∧ W.cell? ⟨gb, 2, none⟩ = some (.slice D m k) ∧ W.cell? ⟨gb + 1, 0, none⟩ = some (.int .i64 g1.pos) ∧ W.cell? ⟨gb + 1, 1, none⟩ = some (.slice A1 n1 c1) ∧ W.cell? ⟨gb + 1, 2, none⟩ = some (.slice D1 m1 k1)) → w5.heap.size ≤ T → Below w5.heap.size w5 (((W.setCell ⟨T, 0, none⟩ v0).setCell ⟨T, 1, none⟩ v1).setCell ⟨T, 2, none⟩ v2) ∧ (((W.setCell ⟨T, 0, none⟩ v0).setCell ⟨T, 1, none⟩ v1).setCell ⟨T, 2, none⟩ v2).cell? ⟨gb, 0, none⟩ = some (.int .i64 g.pos) ∧ (((W.setCell ⟨T, 0, none⟩ v0).setCell ⟨T, 1, none⟩ v1).setCell ⟨T, 2, none⟩ v2).cell? ⟨gb, 1, none⟩ = some (.slice A n c) ∧ (((W.setCell ⟨T, 0, none⟩ v0).setCell ⟨T, 1, none⟩ v1).setCell ⟨T, 2, none⟩ v2).cell? ⟨gb, 2, none⟩ = some (.slice D m k) ∧ (((W.setCell ⟨T, 0, none⟩ v0).setCell ⟨T, 1, none⟩ v1).setCell ⟨T, 2, none⟩ v2).cell? ⟨gb + 1, 0, none⟩ = some (.int .i64 g1.pos) ∧ (((W.setCell ⟨T, 0, none⟩ v0).setCell ⟨T, 1, none⟩ v1).setCell ⟨T, 2, none⟩ v2).cell? ⟨gb + 1, 1, none⟩ = some (.slice A1 n1 c1) ∧ (((W.setCell ⟨T, 0, none⟩ v0).setCell ⟨T, 1, none⟩ v1).setCell ⟨T, 2, none⟩ v2).cell? ⟨gb + 1, 2, none⟩ = some (.slice D1 m1 k1)) := Lib.hid (fun W T v0 v1 v2 h hT => hss _ (((h.1.setCell (p := ⟨T, 0, none⟩) hT v0).setCell (p := ⟨T, 1, none⟩) hT v1).setCell (p := ⟨T, 2, none⟩) hT v2))
  have HSS := Lib.hid hss
  have HT1 : Hid (∀ W, (Below w5.heap.size w5 W ∧ W.cell? ⟨gb, 0, none⟩ = some (.int .i64 g.pos) ∧ W.cell? ⟨gb, 1, none⟩ = some (.slice A n c) ∧ W.cell? ⟨gb, 2, none⟩ = some (.slice D m k) ∧ W.cell? ⟨gb + 1, 0, none⟩ = some (.int .i64 g1.pos) ∧ W.cell? ⟨gb + 1, 1, none⟩ = some (.slice A1 n1 c1) ∧ W.cell? ⟨gb + 1, 2, none⟩ = some (.slice D1 m1 k1)) → Calls Try.prog 19 #[hkV g1.pos A1 n1 c1 D1 m1 k1] W (fun e u => ∃ P p Q q, e = .returned (hkV g1.pos P m1 p Q n1 q) ∧ HV u u.heap.size P m1 p Q n1 q (turn g1) ∧ Below W.heap.size W u)) := Lib.hid (fun W h => Turn A1 n1 c1 D1 m1 k1 w5.heap.size g1 W h.1.size hn1 hm1 (v1.below h.1))
  have HT2 : Hid (∀ W, (Below w5.heap.size w5 W ∧ W.cell? ⟨gb, 0, none⟩ = some (.int .i64 g.pos) ∧ W.cell? ⟨gb, 1, none⟩ = some (.slice A n c) ∧ W.cell? ⟨gb, 2, none⟩ = some (.slice D m k) ∧ W.cell? ⟨gb + 1, 0, none⟩ = some (.int .i64 g1.pos) ∧ W.cell? ⟨gb + 1, 1, none⟩ = some (.slice A1 n1 c1) ∧ W.cell? ⟨gb + 1, 2, none⟩ = some (.slice D1 m1 k1)) → Calls Try.prog 19 #[hkV g.pos A n c D m k] W (fun e u => ∃ P p Q q, e = .returned (hkV g.pos P m p Q n q) ∧ HV u u.heap.size P m p Q n q (turn g) ∧ Below W.heap.size W u)) := Lib.hid (fun W h => Turn A n c D m k w5.heap.size g W h.1.size hn hm (v.below h.1))
  have HT3 : Hid (∀ W P p Q q P' p' Q' q', HV W W.heap.size P m1 p Q n1 q (turn g1) → HV W W.heap.size P' m p' Q' n q' (turn g) → Calls Try.prog 12 #[hkV g1.pos P m1 p Q n1 q, hkV g.pos P' m p' Q' n q'] W (fun e u => ∃ A n c A' n' c' D m k D' m' k', e = .returned (.tuple #[hkV g4.pos A n c A' n' c', hkV g5.pos D m k D' m' k', .bool was]) ∧
      HV u u.heap.size A n c A' n' c' g4 ∧ HV u u.heap.size D m k D' m' k' g5 ∧ (n ≤ 1000 ∧ n' ≤ 1000 ∧ m ≤ 1000 ∧ m' ≤ 1000) ∧ Below W.heap.size W u)) := Lib.hid (fun W P p Q q P' p' Q' q' x y => PassL P m1 p Q n1 q P' m p' Q' n q' W.heap.size (turn g1) (turn g) W g4 g5 was (Nat.le_refl _) hm1 hn1 hm hn x y hx4 hs4)
  have HX4 := Lib.hid hx4; have HS4 := Lib.hid hs4; clear hx4 hs4 hss
  go_cut [11, 12, 13] from 14 (fun s11 s12 s13 wx => ∃ (T U : Nat) (A4 : Option Addr) (n4 c4 : Nat) (D4 : Option Addr) (m4 k4 : Nat) (A5 : Option Addr) (n5 c5 : Nat) (D5 : Option Addr) (m5 k5 : Nat), s11 = .pointer (some ⟨T, 0, none⟩) ∧ s12 = .pointer (some ⟨U, 0, none⟩) ∧ s13 = .bool was ∧
      Lay w5 wx T U A4 n4 c4 D4 m4 k4 g4 A5 n5 c5 D5 m5 k5 g5 ∧ (n4 ≤ 1000 ∧ m4 ≤ 1000 ∧ n5 ≤ 1000 ∧ m5 ≤ 1000))
  case first =>
    clear b b1 b2 b3 v v1 v2 v3 hB5
    obtain ⟨_, x0, x1, x2, y0, y1, y2⟩ := HS0.out
    go_region_held3 (fun W => Below w5.heap.size w5 W ∧ W.cell? ⟨gb, 0, none⟩ = some (.int .i64 g.pos) ∧ W.cell? ⟨gb, 1, none⟩ = some (.slice A n c) ∧ W.cell? ⟨gb, 2, none⟩ = some (.slice D m k) ∧ W.cell? ⟨gb + 1, 0, none⟩ = some (.int .i64 g1.pos) ∧ W.cell? ⟨gb + 1, 1, none⟩ = some (.slice A1 n1 c1) ∧ W.cell? ⟨gb + 1, 2, none⟩ = some (.slice D1 m1 k1))
      (first
        | (with_reducible exact HKD.out)
        | (with_reducible exact HSS.out _ (belD1 w5 _))
        | (with_reducible exact HSS.out _ (belD2 w5 _ _))
        | (with_reducible exact hS1)
        | (with_reducible exact HKA.out _ _ hS1)
        | (with_reducible exact HKA.out _ _ (HKA.out _ _ hS1))
        | (with_reducible exact hS2)
        | (with_reducible exact HKA.out _ _ hS2)
        | (with_reducible exact HKA.out _ _ (HKA.out _ _ hS2))
        | (with_reducible exact hS3)
        | (with_reducible exact HKA.out _ _ hS3)
        | (with_reducible exact HKA.out _ _ (HKA.out _ _ hS3))
        | (with_reducible exact HKS.out _ _ _ _ _ hS3 tlp)
        | (with_reducible exact HKS.out _ _ _ _ _ hS3 tlq)
        | (with_reducible exact HKA.out _ _ (HKS.out _ _ _ _ _ hS3 tlp))
        | (with_reducible exact HKS.out _ _ _ _ _ (HKS.out _ _ _ _ _ hS3 tlp) tlq)
        | (with_reducible exact HKS.out _ _ _ _ _ (HKS.out _ _ _ _ _ hS3 tlq) tlp))
      (first
        | (go_at_call 19; (with_reducible refine (HT1.out (w5.drew) (HSS.out (w5.drew) (belD0 w5 ))).mono ?_); rintro e u1 ⟨P1, p1, Q1, q1, rfl, hv, hb⟩; have hbc := thrD0 hb; have hS1 := HSS.out u1 hbc; have HU1 := Lib.hid hbc; have HV1 := Lib.hid hv; clear hb hbc hv)
        | (go_at_call 19; (with_reducible refine (HT1.out ((w5.alloc (.cells #[.int .i64 0, .slice none 0 0, .slice none 0 0] 24)).drew) (HSS.out ((w5.alloc (.cells #[.int .i64 0, .slice none 0 0, .slice none 0 0] 24)).drew) (belD1 w5 (.cells #[.int .i64 0, .slice none 0 0, .slice none 0 0] 24)))).mono ?_); rintro e u1 ⟨P1, p1, Q1, q1, rfl, hv, hb⟩; have hbc := thrD1 hb; have tn := newD1 hb; (first | (have tpq := tpl; have tq := tn; have tlq := (Nat.le_refl w5.heap.size)) | (have tp := tn; have tlp := (Nat.le_refl w5.heap.size))); clear tn; have hS1 := HSS.out u1 hbc; have HU1 := Lib.hid hbc; have HV1 := Lib.hid hv; clear hb hbc hv)
        | (go_at_call 19; (with_reducible refine (HT1.out (((w5.alloc (.cells #[.int .i64 0, .slice none 0 0, .slice none 0 0] 24)).alloc (.cells #[.int .i64 0, .slice none 0 0, .slice none 0 0] 24)).drew) (HSS.out (((w5.alloc (.cells #[.int .i64 0, .slice none 0 0, .slice none 0 0] 24)).alloc (.cells #[.int .i64 0, .slice none 0 0, .slice none 0 0] 24)).drew) (belD2 w5 (.cells #[.int .i64 0, .slice none 0 0, .slice none 0 0] 24) (.cells #[.int .i64 0, .slice none 0 0, .slice none 0 0] 24)))).mono ?_); rintro e u1 ⟨P1, p1, Q1, q1, rfl, hv, hb⟩; have hbc := thrD2 hb; obtain ⟨tn, tm⟩ := newD2 hb; have tp := tn; have tlp := (Nat.le_refl w5.heap.size); have tq := tm; have tpq := Nat.lt_succ_self w5.heap.size; have tlq : w5.heap.size ≤ w5.heap.size + 1 := Nat.le_succ_of_le (Nat.le_refl w5.heap.size); clear tn tm; have hS1 := HSS.out u1 hbc; have HU1 := Lib.hid hbc; have HV1 := Lib.hid hv; clear hb hbc hv)
        | (go_at_call 19; (with_reducible refine (HT2.out (u1) hS1).mono ?_); rintro e u2 ⟨P2, p2, Q2, q2, rfl, hv, hb⟩; have hbl := thr0 hb; have hbc := HU1.out.trans (hbl.mono HU1.out.size); (try (have tpl := tp.lt; have tp := tp.below hbl tpl)); (try have tq := tq.below hbl tq.lt); have hS2 := HSS.out u2 hbc; have HU2 := Lib.hid hbc; have HV2 := Lib.hid hv; have HV1 := Lib.hid ((HV1.out.below hbl).up hbl.size); clear hb hbc hbl hv)
        | (go_at_call 19; (with_reducible refine (HT2.out ((u1.alloc (.cells #[.int .i64 0, .slice none 0 0, .slice none 0 0] 24))) (HKA.out u1 (.cells #[.int .i64 0, .slice none 0 0, .slice none 0 0] 24) hS1)).mono ?_); rintro e u2 ⟨P2, p2, Q2, q2, rfl, hv, hb⟩; have hbl := thr1 hb; have hbc := HU1.out.trans (hbl.mono HU1.out.size); (try (have tpl := tp.lt; have tp := tp.below hbl tpl)); (try have tq := tq.below hbl tq.lt); have tn := new1 hb; (first | (have tpq := tpl; have tq := tn; have tlq := HU1.out.size) | (have tp := tn; have tlp := HU1.out.size)); clear tn; have hS2 := HSS.out u2 hbc; have HU2 := Lib.hid hbc; have HV2 := Lib.hid hv; have HV1 := Lib.hid ((HV1.out.below hbl).up hbl.size); clear hb hbc hbl hv)
        | (go_at_call 19; (with_reducible refine (HT2.out (((u1.alloc (.cells #[.int .i64 0, .slice none 0 0, .slice none 0 0] 24)).alloc (.cells #[.int .i64 0, .slice none 0 0, .slice none 0 0] 24))) (HKA.out (u1.alloc (.cells #[.int .i64 0, .slice none 0 0, .slice none 0 0] 24)) (.cells #[.int .i64 0, .slice none 0 0, .slice none 0 0] 24) (HKA.out u1 (.cells #[.int .i64 0, .slice none 0 0, .slice none 0 0] 24) hS1))).mono ?_); rintro e u2 ⟨P2, p2, Q2, q2, rfl, hv, hb⟩; have hbl := thr2 hb; have hbc := HU1.out.trans (hbl.mono HU1.out.size); (try (have tpl := tp.lt; have tp := tp.below hbl tpl)); (try have tq := tq.below hbl tq.lt); obtain ⟨tn, tm⟩ := new2 hb; have tp := tn; have tlp := HU1.out.size; have tq := tm; have tpq := Nat.lt_succ_self u1.heap.size; have tlq : w5.heap.size ≤ u1.heap.size + 1 := Nat.le_succ_of_le HU1.out.size; clear tn tm; have hS2 := HSS.out u2 hbc; have HU2 := Lib.hid hbc; have HV2 := Lib.hid hv; have HV1 := Lib.hid ((HV1.out.below hbl).up hbl.size); clear hb hbc hbl hv)
        | (go_at_call 12; (with_reducible refine (HT3.out (u2) P1 p1 Q1 q1 P2 p2 Q2 q2 (hv_up HV1.out (bel0 u2 )) (hv_up HV2.out (bel0 u2 ))).mono ?_); rintro e u3 ⟨A4, n4, c4, D4, m4, k4, A5, n5, c5, D5, m5, k5, rfl, hv4, hv5, hbn, hb⟩; have hbl := thr0 hb; have hbc := HU2.out.trans (hbl.mono HU2.out.size); (try (have tpl := tp.lt; have tp := tp.below hbl tpl)); (try have tq := tq.below hbl tq.lt); have hS3 := HSS.out u3 hbc; have HU3 := Lib.hid hbc; have HV4 := Lib.hid hv4; have HV5 := Lib.hid hv5; have HBN := Lib.hid hbn; have tl3 := HU3.out.size; (try (have p0 := tp.cell 0 (u := .int .i64 0) rfl; have p1 := tp.cell 1 (u := .slice none 0 0) rfl; have p2 := tp.cell 2 (u := .slice none 0 0) rfl; have pf0 := tp.frozen 0; have pf1 := tp.frozen 1; have pf2 := tp.frozen 2; have pl := tp.lt)); (try (have r0 := tq.cell 0 (u := .int .i64 0) rfl; have r1 := tq.cell 1 (u := .slice none 0 0) rfl; have r2 := tq.cell 2 (u := .slice none 0 0) rfl; have rf0 := tq.frozen 0; have rf1 := tq.frozen 1; have rf2 := tq.frozen 2; have rl := tq.lt)); clear hb hbc hbl hv4 hv5 hbn)
        | (go_at_call 12; (with_reducible refine (HT3.out ((u2.alloc (.cells #[.int .i64 0, .slice none 0 0, .slice none 0 0] 24))) P1 p1 Q1 q1 P2 p2 Q2 q2 (hv_up HV1.out (bel1 u2 (.cells #[.int .i64 0, .slice none 0 0, .slice none 0 0] 24))) (hv_up HV2.out (bel1 u2 (.cells #[.int .i64 0, .slice none 0 0, .slice none 0 0] 24)))).mono ?_); rintro e u3 ⟨A4, n4, c4, D4, m4, k4, A5, n5, c5, D5, m5, k5, rfl, hv4, hv5, hbn, hb⟩; have hbl := thr1 hb; have hbc := HU2.out.trans (hbl.mono HU2.out.size); (try (have tpl := tp.lt; have tp := tp.below hbl tpl)); (try have tq := tq.below hbl tq.lt); have tn := new1 hb; (first | (have tpq := tpl; have tq := tn; have tlq := HU2.out.size) | (have tp := tn; have tlp := HU2.out.size)); clear tn; have hS3 := HSS.out u3 hbc; have HU3 := Lib.hid hbc; have HV4 := Lib.hid hv4; have HV5 := Lib.hid hv5; have HBN := Lib.hid hbn; have tl3 := HU3.out.size; (try (have p0 := tp.cell 0 (u := .int .i64 0) rfl; have p1 := tp.cell 1 (u := .slice none 0 0) rfl; have p2 := tp.cell 2 (u := .slice none 0 0) rfl; have pf0 := tp.frozen 0; have pf1 := tp.frozen 1; have pf2 := tp.frozen 2; have pl := tp.lt)); (try (have r0 := tq.cell 0 (u := .int .i64 0) rfl; have r1 := tq.cell 1 (u := .slice none 0 0) rfl; have r2 := tq.cell 2 (u := .slice none 0 0) rfl; have rf0 := tq.frozen 0; have rf1 := tq.frozen 1; have rf2 := tq.frozen 2; have rl := tq.lt)); clear hb hbc hbl hv4 hv5 hbn)
        | (go_at_call 12; (with_reducible refine (HT3.out (((u2.alloc (.cells #[.int .i64 0, .slice none 0 0, .slice none 0 0] 24)).alloc (.cells #[.int .i64 0, .slice none 0 0, .slice none 0 0] 24))) P1 p1 Q1 q1 P2 p2 Q2 q2 (hv_up HV1.out (bel2 u2 (.cells #[.int .i64 0, .slice none 0 0, .slice none 0 0] 24) (.cells #[.int .i64 0, .slice none 0 0, .slice none 0 0] 24))) (hv_up HV2.out (bel2 u2 (.cells #[.int .i64 0, .slice none 0 0, .slice none 0 0] 24) (.cells #[.int .i64 0, .slice none 0 0, .slice none 0 0] 24)))).mono ?_); rintro e u3 ⟨A4, n4, c4, D4, m4, k4, A5, n5, c5, D5, m5, k5, rfl, hv4, hv5, hbn, hb⟩; have hbl := thr2 hb; have hbc := HU2.out.trans (hbl.mono HU2.out.size); (try (have tpl := tp.lt; have tp := tp.below hbl tpl)); (try have tq := tq.below hbl tq.lt); obtain ⟨tn, tm⟩ := new2 hb; have tp := tn; have tlp := HU2.out.size; have tq := tm; have tpq := Nat.lt_succ_self u2.heap.size; have tlq : w5.heap.size ≤ u2.heap.size + 1 := Nat.le_succ_of_le HU2.out.size; clear tn tm; have hS3 := HSS.out u3 hbc; have HU3 := Lib.hid hbc; have HV4 := Lib.hid hv4; have HV5 := Lib.hid hv5; have HBN := Lib.hid hbn; have tl3 := HU3.out.size; (try (have p0 := tp.cell 0 (u := .int .i64 0) rfl; have p1 := tp.cell 1 (u := .slice none 0 0) rfl; have p2 := tp.cell 2 (u := .slice none 0 0) rfl; have pf0 := tp.frozen 0; have pf1 := tp.frozen 1; have pf2 := tp.frozen 2; have pl := tp.lt)); (try (have r0 := tq.cell 0 (u := .int .i64 0) rfl; have r1 := tq.cell 1 (u := .slice none 0 0) rfl; have r2 := tq.cell 2 (u := .slice none 0 0) rfl; have rf0 := tq.frozen 0; have rf1 := tq.frozen 1; have rf2 := tq.frozen 2; have rl := tq.lt)); clear hb hbc hbl hv4 hv5 hbn))
    all_goals (try go_wp2_with fail)
    all_goals go_meet
    all_goals first
      | (with_reducible exact ⟨_, _, A4, n4, c4, D4, m4, k4, A5, n5, c5, D5, m5, k5, rfl, rfl, rfl, lay_aa HU3.out HV4.out HV5.out, HBN.out⟩)
      | (with_reducible exact ⟨_, _, A4, n4, c4, D4, m4, k4, A5, n5, c5, D5, m5, k5, rfl, rfl, rfl, (lay_aa HU3.out HV5.out HV4.out).swap, HBN.out⟩)
      | (with_reducible exact ⟨_, _, A4, n4, c4, D4, m4, k4, A5, n5, c5, D5, m5, k5, rfl, rfl, rfl, lay_sa HU3.out tp tlp HV4.out HV5.out, HBN.out⟩)
      | (with_reducible exact ⟨_, _, A4, n4, c4, D4, m4, k4, A5, n5, c5, D5, m5, k5, rfl, rfl, rfl, (lay_sa HU3.out tp tlp HV5.out HV4.out).swap, HBN.out⟩)
      | (with_reducible exact ⟨_, _, A4, n4, c4, D4, m4, k4, A5, n5, c5, D5, m5, k5, rfl, rfl, rfl, lay_ss HU3.out tp tq (Nat.ne_of_lt tpq) tlp tlq HV4.out HV5.out, HBN.out⟩)
      | (with_reducible exact ⟨_, _, A4, n4, c4, D4, m4, k4, A5, n5, c5, D5, m5, k5, rfl, rfl, rfl, lay_ss HU3.out tq tp (Nat.ne_of_gt tpq) tlq tlp HV4.out HV5.out, HBN.out⟩)
  case rest =>
    obtain ⟨T, U, A4, n4, c4, D4, m4, k4, A5, n5, c5, D5, m5, k5, rfl, rfl, rfl, ⟨b4, b5, v4, v5, hbw⟩, hn4, hm4, hn5, hm5⟩ := hcut
    clear HS0 HKD HKA HKS HSS HT1 HT2 HT3
    replace b := b.below hbw b.lt; replace v := (v.below hbw).up hbw.size
    replace b1 := b1.below hbw b1.lt; replace v1 := (v1.below hbw).up hbw.size
    replace b2 := b2.below hbw b2.lt; replace v2 := (v2.below hbw).up hbw.size
    replace b3 := b3.below hbw b3.lt; replace v3 := (v3.below hbw).up hbw.size
    have hB := hB5.trans (hbw.mono hB5.size)
    clear hbw hB5
    cases is with
    | false =>
      obtain rfl : false = was := by rw [← HS4.out, passH_turn_none (none_of HS2.out)]; rfl
      clear HX2 HS2 HX4 HS4
      go_wp2_with fail
      go_quiet (fail)
      go_wp2
      go_ret
      exact ⟨rfl, below_drewN hB _⟩
    | true =>
    have hT := passH_turn (outH_of HX2.out HS2.out)
    obtain rfl : true = was := by rw [← HS4.out, hT]; rfl
    obtain ⟨e4, e5⟩ : g4 = turn g3 ∧ g5 = turn g2 := by
      have := HX4.out.symm.trans (outH_some hT)
      injection this with h1 h2
      exact ⟨h1, h2⟩
    clear HX2 HS2 HX4 HS4 hT
    have hs4 : ∀ (W : World) (P : Option Addr) (p : Nat) (Q : Option Addr) (q : Nat), HV W W.heap.size P m3 p Q n3 q (turn g3) → HV W W.heap.size A4 n4 c4 D4 m4 k4 g4 → Calls Try.prog 18 #[hkV g4.pos A4 n4 c4 D4 m4 k4, hkV g3.pos P m3 p Q n3 q] W (TestEnd W true) := fun W P p Q q x y => by
      subst e4
      exact Same_self A4 n4 c4 D4 m4 k4 P m3 p Q n3 q W.heap.size (turn g3) W (Nat.le_refl _) y x
    have hs5 : ∀ (W : World) (P : Option Addr) (p : Nat) (Q : Option Addr) (q : Nat), HV W W.heap.size P m2 p Q n2 q (turn g2) → HV W W.heap.size A5 n5 c5 D5 m5 k5 g5 → Calls Try.prog 18 #[hkV g5.pos A5 n5 c5 D5 m5 k5, hkV g2.pos P m2 p Q n2 q] W (TestEnd W true) := fun W P p Q q x y => by
      subst e5
      exact Same_self A5 n5 c5 D5 m5 k5 P m2 p Q n2 q W.heap.size (turn g2) W (Nat.le_refl _) y x
    clear e4 e5
    have HM1 : Hid (∀ W, Below wc.heap.size wc W → Calls Try.prog 19 #[hkV g3.pos A3 n3 c3 D3 m3 k3] W (fun e u => ∃ P p Q q, e = .returned (hkV g3.pos P m3 p Q n3 q) ∧ HV u u.heap.size P m3 p Q n3 q (turn g3) ∧ Below W.heap.size W u)) := Lib.hid (fun W h => Turn A3 n3 c3 D3 m3 k3 wc.heap.size g3 W h.size hn3 hm3 (v3.below h))
    have HM3 : Hid (∀ W, Below wc.heap.size wc W → Calls Try.prog 19 #[hkV g2.pos A2 n2 c2 D2 m2 k2] W (fun e u => ∃ P p Q q, e = .returned (hkV g2.pos P m2 p Q n2 q) ∧ HV u u.heap.size P m2 p Q n2 q (turn g2) ∧ Below W.heap.size W u)) := Lib.hid (fun W h => Turn A2 n2 c2 D2 m2 k2 wc.heap.size g2 W h.size hn2 hm2 (v2.below h))
    have HM2 : Hid (∀ (W : World) (P : Option Addr) (p : Nat) (Q : Option Addr) (q : Nat), HV W W.heap.size P m3 p Q n3 q (turn g3) → Below wc.heap.size wc W → Calls Try.prog 18 #[hkV g4.pos A4 n4 c4 D4 m4 k4, hkV g3.pos P m3 p Q n3 q] W (TestEnd W true)) := Lib.hid (fun W P p Q q x h => hs4 W P p Q q x ((v4.below h).up h.size))
    have HM4 : Hid (∀ (W : World) (P : Option Addr) (p : Nat) (Q : Option Addr) (q : Nat), HV W W.heap.size P m2 p Q n2 q (turn g2) → Below wc.heap.size wc W → Calls Try.prog 18 #[hkV g5.pos A5 n5 c5 D5 m5 k5, hkV g2.pos P m2 p Q n2 q] W (TestEnd W true)) := Lib.hid (fun W P p Q q x h => hs5 W P p Q q x ((v5.below h).up h.size))
    clear hs4 hs5
    have HC : Hid (∀ W, Below wc.heap.size wc W → W.cell? ⟨u2, 0, none⟩ = some (.int .i64 g2.pos) ∧ W.cell? ⟨u2, 1, none⟩ = some (.slice A2 n2 c2) ∧ W.cell? ⟨u2, 2, none⟩ = some (.slice D2 m2 k2) ∧ W.cell? ⟨u2 + 1, 0, none⟩ = some (.int .i64 g3.pos) ∧ W.cell? ⟨u2 + 1, 1, none⟩ = some (.slice A3 n3 c3) ∧ W.cell? ⟨u2 + 1, 2, none⟩ = some (.slice D3 m3 k3) ∧ W.cell? ⟨T, 0, none⟩ = some (.int .i64 g4.pos) ∧ W.cell? ⟨T, 1, none⟩ = some (.slice A4 n4 c4) ∧ W.cell? ⟨T, 2, none⟩ = some (.slice D4 m4 k4) ∧ W.cell? ⟨U, 0, none⟩ = some (.int .i64 g5.pos) ∧ W.cell? ⟨U, 1, none⟩ = some (.slice A5 n5 c5) ∧ W.cell? ⟨U, 2, none⟩ = some (.slice D5 m5 k5)) := Lib.hid (fun W hb => by
      have x := b2.below hb b2.lt
      have y := b3.below hb b3.lt
      have z := b4.below hb b4.lt
      have t := b5.below hb b5.lt
      exact ⟨x.cell 0 rfl, x.cell 1 rfl, x.cell 2 rfl, y.cell 0 rfl, y.cell 1 rfl, y.cell 2 rfl, z.cell 0 rfl, z.cell 1 rfl, z.cell 2 rfl, t.cell 0 rfl, t.cell 1 rfl, t.cell 2 rfl⟩)
    have HC0 := Lib.hid (HC.out wc.drew (belD0 wc))
    have HB := Lib.hid hB
    clear b b1 b2 b3 b4 b5 v v1 v2 v3 v4 v5 hB
    obtain ⟨x0, x1, x2, y0, y1, y2, z0, z1, z2, r0, r1, r2⟩ := HC.out wc (Below.refl _ _)
    go_wp2_with fail
    go_region_held3 (fun W => W.cell? ⟨u2, 0, none⟩ = some (.int .i64 g2.pos) ∧ W.cell? ⟨u2, 1, none⟩ = some (.slice A2 n2 c2) ∧ W.cell? ⟨u2, 2, none⟩ = some (.slice D2 m2 k2) ∧ W.cell? ⟨u2 + 1, 0, none⟩ = some (.int .i64 g3.pos) ∧ W.cell? ⟨u2 + 1, 1, none⟩ = some (.slice A3 n3 c3) ∧ W.cell? ⟨u2 + 1, 2, none⟩ = some (.slice D3 m3 k3) ∧ W.cell? ⟨T, 0, none⟩ = some (.int .i64 g4.pos) ∧ W.cell? ⟨T, 1, none⟩ = some (.slice A4 n4 c4) ∧ W.cell? ⟨T, 2, none⟩ = some (.slice D4 m4 k4) ∧ W.cell? ⟨U, 0, none⟩ = some (.int .i64 g5.pos) ∧ W.cell? ⟨U, 1, none⟩ = some (.slice A5 n5 c5) ∧ W.cell? ⟨U, 2, none⟩ = some (.slice D5 m5 k5))
      (first
        | (exact HC0.out)
        | (exact hS1)
        | (exact hS2)
        | (exact hS3)
        | (exact hS4))
      (first
        | (go_at_call 19; (with_reducible refine (HM1.out wc.drew (belD0 wc)).mono ?_); rintro e u3 ⟨P1, p1, Q1, q1, rfl, hv, hb⟩; have hbc := thrD0 hb; have hS1 := HC.out u3 hbc; have HU1 := Lib.hid hbc; have HV1 := Lib.hid hv; clear hb hbc hv)
        | (go_at_call 18; (with_reducible refine (HM2.out u3 P1 p1 Q1 q1 HV1.out HU1.out).mono ?_); rintro e u4 ⟨rfl, hb⟩; have hbc := HU1.out.trans (hb.mono HU1.out.size); have hS2 := HC.out u4 hbc; have HU2 := Lib.hid hbc; clear hb hbc)
        | (go_at_call 19; (with_reducible refine (HM3.out u4 HU2.out).mono ?_); rintro e u5 ⟨P2, p2, Q2, q2, rfl, hv, hb⟩; have hbc := HU2.out.trans (hb.mono HU2.out.size); have hS3 := HC.out u5 hbc; have HU3 := Lib.hid hbc; have HV3 := Lib.hid hv; clear hb hbc hv)
        | (go_at_call 18; (with_reducible refine (HM4.out u5 P2 p2 Q2 q2 HV3.out HU3.out).mono ?_); rintro e u6 ⟨rfl, hb⟩; have hbc := HU3.out.trans (hb.mono HU3.out.size); have hS4 := HC.out u6 hbc; have HU4 := Lib.hid hbc; clear hb hbc))
    go_wp2
    go_ret
    exact ⟨rfl, HB.out.trans (HU4.out.mono HB.out.size)⟩

end Sw
open Tx Df Hk Sw
open Go.ChangeShapes Go.WideShapes Go.ChangeAt

theorem swapTurns_own : ownKnob Try.prog.godebug = none := by kernel_rfl
theorem swapTurns_laidOut : laidOutB Try.prog = true := by kernel_rfl

set_option maxRecDepth 100000 in
theorem swapTurns_lifted (os : Os) (started : os.Started) (H : Type) (enc : TypeId × Value → H) :
    ReturnsInHanded {} Try.checked os 6 .any (Rows.swapTurnsSpec.pre6 enc Try.prog Try.f6 Rows.swapTurnsRow.domain false) (Rows.swapTurnsSpec.post enc Try.prog Try.f6 false true false false) := by
  refine returnsInHanded_of_change (C := Try.checked) swapTurns_own started (by kernel_rfl) Try.func6
    (ChangeSpec.witness6 (enc := enc) (C := Try.checked) false ⟨#[], #[.agg #[.int .i64 0, .slice none 0 0, .slice none 0 0], .agg #[.int .i64 0, .slice none 0 0, .slice none 0 0]], []⟩ 8 (by kernel_rfl) (by kernel_rfl) (by kernel_rfl) (by kernel_rfl)) ?_
  intro W base args ds gs before hval0 hW hcnd _
  have hval : ∀ (j : Nat) t v, Try.f6.params[j]? = some t → args[j]? = some v → Value.okWide Try.prog W .any base t v := hval0
  have hW' := hW
  obtain ⟨p, q, hA0, hV, rfl, hfz, hnd⟩ := hW
  have hA : DataW.TrodAll enc Try.prog W 0 (fun _ => true) true Try.f6.params.toList args.toList ds p := hA0
  rw [Try.params6] at hA hval
  obtain ⟨v0, vs0, d0, ds0, p0, q0, hargs, rfl, rfl, h0, r0⟩ := trodAll_cons hA
  obtain ⟨v1, vs1, d1, ds1, p1, q1, rfl, rfl, rfl, h1, r1⟩ := trodAll_cons r0
  obtain ⟨rfl, rfl, rfl⟩ := trodAll_nil r1
  obtain rfl : args = #[v0, v1] := by cases args; simp_all
  obtain ⟨rfl, rfl⟩ := trodVars_none hV
  have k0 := h0
  have lt0 : ∀ x ∈ p0, x.block < W.heap.size := by obtain ⟨m, hm⟩ := k0; exact DataW.trod_lt m _ _ _ hm
  obtain ⟨a0, n0, c0, b0, m0, e0, l0, rfl, s0⟩ := hunk_in (hval 0 24 v0 rfl rfl) h0
  have k1 := h1
  have lt1 : ∀ x ∈ p1, x.block < W.heap.size := by obtain ⟨m, hm⟩ := k1; exact DataW.trod_lt m _ _ _ hm
  obtain ⟨a1, n1, c1, b1, m1, e1, l1, rfl, s1⟩ := hunk_in (hval 1 24 v1 rfl rfl) h1
  clear hA0 hval0
  refine (swapTurns_walk a0 n0 c0 b0 m0 e0 l0 a1 n1 c1 b1 m1 e1 l1 W s0 s1).mono fun e W' ⟨he, bel⟩ => ?_
  subst he
  exact ⟨_, rfl, _, _, _, [], _, [], hW', trodAll_mk1 (shut_bool Try.underlying4 _), (trodAll_cons_mk (Below.trod swapTurns_laidOut (by kernel_rfl) (of_decide_eq_true (by kernel_rfl)) k0 bel lt0) (trodAll_cons_mk (Below.trod swapTurns_laidOut (by kernel_rfl) (of_decide_eq_true (by kernel_rfl)) k1 bel lt1) trodAll_mk0)), rfl, bel.frame _, fun h => by cases h⟩

/-- The statement. -/
theorem swapTurns_proved : Rows.SwapTurnsSaid :=
  OpenClaim.holds_of_wide 6 Try.f6 rfl rfl rfl rfl rfl rfl rfl ⟨rfl, rfl, rfl, rfl, rfl⟩ rfl rfl rfl rfl rfl (by kernel_rfl) Try.func6 (by kernel_rfl)
    (of_decide_eq_true (by kernel_rfl)) (by unfold Func.isWrapper; first | (rw [if_pos (by decide +kernel)]; kernel_rfl) | (rw [if_neg (by decide +kernel)]; exact ⟨rfl, rfl⟩))
    (fun os started H enc _ => swapTurns_lifted os started H enc)

#print axioms swapTurns_proved
end Go.Proofs.Ytdbhfohilfcgfaa
