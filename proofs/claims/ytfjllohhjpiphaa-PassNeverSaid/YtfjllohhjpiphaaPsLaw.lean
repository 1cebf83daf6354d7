/-
  Words for the statements of layer 9: the chapter's example; trees that stay small.
-/
import Derived.Test.YtfjllohhjpiphaaPsCode
import Derived.Test.YtfjllohhjpiphaaPrCall
set_option maxRecDepth 100000
namespace Go.Proofs.Ytfjllohhjpiphaa
open Go.RowKit
set_option linter.unusedVariables false
namespace PsAwake
open Tx Df Sq Hk Tr Pr

def exP : Ch := ⟨2, [97], [98], ⟨0, [], []⟩⟩
def exQ : Ch := ⟨3, [98], [], ⟨0, [], [[120]]⟩⟩
def exR : Ch := ⟨3, [97], [], ⟨0, [], [[120]]⟩⟩
def exA : Ch := ⟨0, [97], [], ⟨0, [], []⟩⟩
def exB : Ch := ⟨1, [97], [], ⟨0, [], []⟩⟩
theorem ex1 : passP exP exQ = some (exR, exP) := passP_out (p := exP) (q := exQ) (by decide) (by decide) rfl (.inl rfl) rfl
theorem ex2 : passP exA exB = none := passP_never rfl (.inl ⟨by decide, by decide⟩)
theorem pv_one (w : World) (k : Int) (nm to : List UInt8) (hk : 0 ≤ k ∧ k ≤ 4) (hn : nm.length ≤ 5) (ht : to.length ≤ 5) : PV w w.heap.size none 0 0 none 0 0 ⟨k, nm, to, ⟨0, [], []⟩⟩ :=
  ⟨⟨rfl, rfl, Nat.le_refl _, Nat.le_refl _, by decide, by decide, .inl rfl, .inl rfl, (by unfold I64; dsimp only; omega)⟩, (by unfold I64; dsimp only; omega), Nat.le_trans hn (by decide), Nat.le_trans ht (by decide), fun x hx => (by cases hx), fun x hx => (by cases hx)⟩

set_option maxRecDepth 100000 in
set_option maxHeartbeats 4000000 in
theorem awake (w : World) : Calls Try.prog 11 #[] w (BoolEnd w true) := by
  go_enter Try.func11, Try.ntmps11
  go_wp2_with fail
  have hb : Below w.heap.size w (((w.alloc (.cells #[.int .i64 2, strV [97], strV [98], .int .i64 0, .slice none 0 0, .slice none 0 0] 26)).alloc (.cells #[strV [120]] 9)).alloc (.cells #[.int .i64 3, strV [98], strV [], .int .i64 0, .slice none 0 0, .slice (some ⟨w.heap.size + 1, 0, none⟩) 1 1] 26)) :=
    (((Below.refl _ _).alloc (Nat.le_refl _) _).alloc (by simp) _).alloc (by simp; omega) _
  have br := (Blk.new (w.alloc (.cells #[.int .i64 2, strV [97], strV [98], .int .i64 0, .slice none 0 0, .slice none 0 0] 26)) 9 #[strV [120]]).alloc (.cells #[.int .i64 3, strV [98], strV [], .int .i64 0, .slice none 0 0, .slice (some ⟨w.heap.size + 1, 0, none⟩) 1 1] 26)
  simp only [World.size_alloc] at br
  have hsz : (((w.alloc (.cells #[.int .i64 2, strV [97], strV [98], .int .i64 0, .slice none 0 0, .slice none 0 0] 26)).alloc (.cells #[strV [120]] 9)).alloc (.cells #[.int .i64 3, strV [98], strV [], .int .i64 0, .slice none 0 0, .slice (some ⟨w.heap.size + 1, 0, none⟩) 1 1] 26)).heap.size = w.heap.size + 3 := by simp only [World.size_alloc]
  generalize (((w.alloc (.cells #[.int .i64 2, strV [97], strV [98], .int .i64 0, .slice none 0 0, .slice none 0 0] 26)).alloc (.cells #[strV [120]] 9)).alloc (.cells #[.int .i64 3, strV [98], strV [], .int .i64 0, .slice none 0 0, .slice (some ⟨w.heap.size + 1, 0, none⟩) 1 1] 26)) = w1 at *
  have hr0 : RdS w1 w1.heap.size (some ⟨w.heap.size + 1, 0, none⟩) [[120]] := by
    refine .inr ⟨_, rfl, by rw [hsz]; show w.heap.size + 1 < w.heap.size + 3; omega, fun j u hu => ?_⟩
    cases j with
    | zero =>
      cases hu
      rw [add_zero']
      exact br.cell 0 rfl
    | succ j => simp at hu
  have HV1 : Hid (PV w1 w1.heap.size none 0 0 none 0 0 exP) := Lib.hid (pv_one w1 2 [97] [98] (by decide) (by decide) (by decide))
  have HV2 : Hid (PV w1 w1.heap.size none 0 0 (some ⟨w.heap.size + 1, 0, none⟩) 1 1 exQ) := Lib.hid
    ⟨⟨rfl, rfl, Nat.le_refl _, Nat.le_refl _, by decide, by decide, .inl rfl, hr0, (by unfold I64; decide)⟩, (by unfold I64; decide), by decide, by decide, fun x hx => (by cases hx), fun x hx => (by simp [exQ] at hx; subst hx; decide)⟩
  have HB := Lib.hid hb
  clear hb br hsz hr0
  refine (PassP none 0 0 none 0 0 none 0 0 (some ⟨w.heap.size + 1, 0, none⟩) 1 1 exP exQ exR exP w1 true (by decide) (by decide) HV1.out HV2.out (outP_some ex1) (by rw [ex1]; rfl)).mono ?_
  rintro e w2 ⟨A, n, c, B, m, d, D, i, j, E, k, l, rfl, hv, gv, hl, gl, hb⟩
  replace HB := Lib.hid (below_mv HB.out hb)
  clear HV1 HV2 hb hv gv hl gl
  have hx : w2.heap.size < w2.heap.size + 1 := Nat.lt_succ_self _
  go_wp2_with fail
  have hb := two_box w2 (.cells #[.int .i64 exR.k, strV exR.nm, strV exR.to, .int .i64 exR.h.pos, .slice A n c, .slice B m d] 26) (.cells #[.int .i64 exP.k, strV exP.nm, strV exP.to, .int .i64 exP.h.pos, .slice D i j, .slice E k l] 26)
  have b1 := (Blk.new w2 26 #[.int .i64 exR.k, strV exR.nm, strV exR.to, .int .i64 exR.h.pos, .slice A n c, .slice B m d]).alloc (.cells #[.int .i64 exP.k, strV exP.nm, strV exP.to, .int .i64 exP.h.pos, .slice D i j, .slice E k l] 26)
  have b2 := Blk.new (w2.alloc (.cells #[.int .i64 exR.k, strV exR.nm, strV exR.to, .int .i64 exR.h.pos, .slice A n c, .slice B m d] 26)) 26 #[.int .i64 exP.k, strV exP.nm, strV exP.to, .int .i64 exP.h.pos, .slice D i j, .slice E k l]
  simp only [World.size_alloc] at b2
  generalize ((w2.alloc (.cells #[.int .i64 exR.k, strV exR.nm, strV exR.to, .int .i64 exR.h.pos, .slice A n c, .slice B m d] 26)).alloc (.cells #[.int .i64 exP.k, strV exP.nm, strV exP.to, .int .i64 exP.h.pos, .slice D i j, .slice E k l] 26)) = w3 at *
  replace HB := Lib.hid (below_mv HB.out hb)
  clear hb hx
  generalize w2.heap.size = u at *
  have HV1 : Hid (PV w3 w3.heap.size none 0 0 none 0 0 exA) := Lib.hid (pv_one w3 0 [97] [] (by decide) (by decide) (by decide))
  have HV2 : Hid (PV w3 w3.heap.size none 0 0 none 0 0 exB) := Lib.hid (pv_one w3 1 [97] [] (by decide) (by decide) (by decide))
  have HB1 := Lib.hid b1; have HB2 := Lib.hid b2; clear b1 b2
  refine (PassP none 0 0 none 0 0 none 0 0 none 0 0 exA exB zeroP zeroP w3 false (by decide) (by decide) HV1.out HV2.out (by rw [ex2]; rfl) (by rw [ex2]; rfl)).mono ?_
  rintro e w4 ⟨A', n', c', B', m', d', D', i', j', E', k', l', rfl, hv, gv, hl, gl, hb⟩
  replace HB := Lib.hid (below_mv HB.out hb); replace HB1 := Lib.hid (HB1.out.below hb HB1.out.lt); replace HB2 := Lib.hid (HB2.out.below hb HB2.out.lt)
  clear HV1 HV2 hb hv gv hl gl
  have x0 : w4.cell? ⟨u, 0, none⟩ = some (.int .i64 3) := HB1.out.cell 0 rfl
  have x1 : w4.cell? ⟨u, 1, none⟩ = some (strV [97]) := HB1.out.cell 1 rfl
  have y0 : w4.cell? ⟨u + 1, 0, none⟩ = some (.int .i64 2) := HB2.out.cell 0 rfl
  have y2 : w4.cell? ⟨u + 1, 2, none⟩ = some (strV [98]) := HB2.out.cell 2 rfl
  have yl := HB2.out.lt
  have yk : u < w4.heap.size := Nat.lt_of_succ_lt yl
  go_wp2
  go_ret
  exact ⟨rfl, below_mv HB.out (two_box w4 _ _)⟩

end PsAwake
end Go.Proofs.Ytfjllohhjpiphaa
