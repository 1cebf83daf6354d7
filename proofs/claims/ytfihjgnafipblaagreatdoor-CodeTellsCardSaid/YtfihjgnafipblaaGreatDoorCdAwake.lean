/-
  The chapter's example of layer 12 (walk).
-/
import Derived.Test.YtfihjgnafipblaaGreatDoorCdGot
import Derived.Test.YtfihjgnafipblaaGreatDoorFlLeaf
set_option maxRecDepth 100000
namespace Go.Proofs.YtfihjgnafipblaaGreatDoor
open Go.RowKit Go.Shelf
set_option linter.unusedVariables false
set_option linter.unusedSimpArgs false
namespace Cd
open Tx Df Sq Hk Tr Pr Fl

def exA : Ch := ⟨0, [97], [], ⟨0, [], []⟩⟩
def exB : Ch := ⟨3, [97], [], ⟨0, [], [[120]]⟩⟩
def exBs : List UInt8 := [43, 32, 97, 10, 64, 32, 97, 32, 48, 32, 48, 32, 49, 10, 43, 120, 10]
theorem ex_bytes : bytesL [exA, exB] = exBs := by
  simp [bytesL, bytesP, headP, tailP, numI, num_lt, exA, exB, exBs, sign, sg]
theorem ex_put : putP [exA, exB] = (0, exBs) := putP_ok.2 ⟨by decide, by decide, by decide, ex_bytes⟩
theorem ex_get : getC exBs = some [exA, exB] := by rw [getC_eq]; exact getP_iff.2 ex_put

/-- Two changes in a block of their own are read as a list. -/
theorem rdP_two {W : World} {S : Nat → Prop} {b : Nat} {A B A' B' : Option Addr} {n c m d n' c' m' d' : Nat} {x y : Ch}
    (h : Blk W b 41 #[.int .i64 x.k, strV x.nm, strV x.to, .int .i64 x.h.pos, .slice A n c, .slice B m d, .int .i64 y.k, strV y.nm, strV y.to, .int .i64 y.h.pos, .slice A' n' c', .slice B' m' d'])
    (hp : PG W S A n c B m d x) (hq : PG W S A' n' c' B' m' d' y) (hS : S b) : RdP W S (some ⟨b, 0, none⟩) [x, y] :=
  .inr ⟨_, rfl, hS, fun k z hy => by
    match k, hy with
    | 0, hy =>
      injection hy with hy
      subst hy
      have e : (⟨b, 0, none⟩ : Addr).add (0 * 6) = ⟨b, 0, none⟩ := rfl
      exact ⟨by rw [e]; exact h.cell 0 rfl, by rw [e]; exact h.cell 1 rfl, by rw [e]; exact h.cell 2 rfl, by rw [e]; exact h.cell 3 rfl, A, n, c, B, m, d, by rw [e]; exact h.cell 4 rfl, by rw [e]; exact h.cell 5 rfl, hp⟩
    | 1, hy =>
      injection hy with hy
      subst hy
      have e : (⟨b, 0, none⟩ : Addr).add (1 * 6) = ⟨b, 6, none⟩ := rfl
      exact ⟨by rw [e]; exact h.cell 6 rfl, by rw [e]; exact h.cell 7 rfl, by rw [e]; exact h.cell 8 rfl, by rw [e]; exact h.cell 9 rfl, A', n', c', B', m', d', by rw [e]; exact h.cell 10 rfl, by rw [e]; exact h.cell 11 rfl, hq⟩
    | k + 2, hy => simp at hy⟩

set_option maxRecDepth 100000 in
set_option maxHeartbeats 4000000 in
theorem awake (w : World) (hv : Vars w) : Calls Tryz.prog 5 #[] w (BoolEnd w true) := by
  have HV := Lib.hid hv; clear hv
  go_enter Tryz.func5, Tryz.ntmps5
  go_wp2_with fail
  have bs := (Blk.new w 9 #[strV [120]]).alloc (.cells #[.int .i64 0, strV [97], strV [], .int .i64 0, .slice none 0 0, .slice none 0 0, .int .i64 3, strV [97], strV [], .int .i64 0, .slice none 0 0, .slice (some ⟨w.heap.size, 0, none⟩) 1 1] 41)
  have bp := Blk.new (w.alloc (.cells #[strV [120]] 9)) 41 #[.int .i64 0, strV [97], strV [], .int .i64 0, .slice none 0 0, .slice none 0 0, .int .i64 3, strV [97], strV [], .int .i64 0, .slice none 0 0, .slice (some ⟨w.heap.size, 0, none⟩) 1 1]
  have hb := two_box w (.cells #[strV [120]] 9) (.cells #[.int .i64 0, strV [97], strV [], .int .i64 0, .slice none 0 0, .slice none 0 0, .int .i64 3, strV [97], strV [], .int .i64 0, .slice none 0 0, .slice (some ⟨w.heap.size, 0, none⟩) 1 1] 41)
  simp only [World.size_alloc] at bp
  generalize (w.alloc (.cells #[strV [120]] 9)).alloc (.cells #[.int .i64 0, strV [97], strV [], .int .i64 0, .slice none 0 0, .slice none 0 0, .int .i64 3, strV [97], strV [], .int .i64 0, .slice none 0 0, .slice (some ⟨w.heap.size, 0, none⟩) 1 1] 41) = w1 at bs bp hb ⊢
  obtain ⟨z, hz⟩ : ∃ z, w.heap.size = z := ⟨_, rfl⟩
  rw [hz] at bs bp ⊢
  have hr0 : RdS w1 w1.heap.size (some ⟨z, 0, none⟩) [[120]] := .inr ⟨_, rfl, bs.lt, fun j u hu => by
    cases j with
    | zero =>
      injection hu with hu
      subst hu
      exact bs.cell 0 rfl
    | succ j => simp at hu⟩
  have hp1 : PG w1 (· < w1.heap.size) none 0 0 none 0 0 exA := pg_of ⟨⟨rfl, rfl, Nat.le_refl _, Nat.le_refl _, by decide, by decide, .inl rfl, .inl rfl, (by unfold I64; decide)⟩, (by unfold I64; decide), by decide, by decide, fun x hx => (by cases hx), fun x hx => (by cases hx)⟩
  have hp2 : PG w1 (· < w1.heap.size) none 0 0 (some ⟨z, 0, none⟩) 1 1 exB := pg_of ⟨⟨rfl, rfl, Nat.le_refl _, Nat.le_refl _, by decide, by decide, .inl rfl, hr0, (by unfold I64; decide)⟩, (by unfold I64; decide), by decide, by decide, fun x hx => (by cases hx), fun x hx => (by simp [exB] at hx; subst hx; decide)⟩
  have RP : Hid (RdP w1 (· < w1.heap.size) (some ⟨z + 1, 0, none⟩) [exA, exB]) := Lib.hid (rdP_two bp hp1 hp2 bp.lt)
  have HB := Lib.hid hb
  replace HV := Lib.hid (HV.out.mv hb)
  clear bs bp hb hz hr0 hp1 hp2
  refine (Put (some ⟨z + 1, 0, none⟩) 2 2 [exA, exB] w1 0 exBs rfl (by decide) RP.out HV.out ex_put).mono ?_
  rintro e w2 ⟨B, n, d, rfl, hn, hd, hr, hb⟩
  obtain rfl : 17 = n := hn
  have HD := Lib.hid hd; have HR := Lib.hid hr
  replace RP := Lib.hid (RP.out.mv hb); replace HB := Lib.hid (below_mv HB.out hb); replace HV := Lib.hid (HV.out.mv hb)
  clear hd hr hb
  have key := Get B 17 d exBs w2 rfl HD.out (by decide) HR.out HV.out
  rw [ex_get] at key
  have KEY := Lib.hid key; clear key
  go_wp2_with fail
  refine KEY.out.mono ?_
  rintro e w3 ⟨A3, n3, c3, rfl, hn3, hc3, hr3, hb⟩
  obtain rfl : 2 = n3 := hn3
  have HR3 := Lib.hid hr3
  replace RP := Lib.hid (RP.out.mv hb); replace HB := Lib.hid (below_mv HB.out hb); replace HV := Lib.hid (HV.out.mv hb); replace HR : Hid (RdB w3 w3.heap.size B exBs) := Lib.hid (Rd.up (Rd.below HR.out hb) hb.size)
  clear KEY hc3 hr3 hb
  have hcv := run_conv (P := Tryz.prog) HR.out 25 9 5 d Tryz.underlying25 Tryz.underlying5 Tryz.underlying9
  have hl17 : exBs.length = 17 := rfl
  rw [hl17] at hcv
  have es : (ByteArray.mk exBs.toArray == ByteArray.mk #[43, 32, 97, 10, 64, 32, 97, 32, 48, 32, 48, 32, 49, 10, 43, 120, 10]) = true := by decide
  go_wp2_with fail
  refine (SameL (some ⟨z + 1, 0, none⟩) 2 2 A3 2 c3 [exA, exB] [exA, exB] w3 true rfl rfl (by decide) RP.out HR3.out (by decide)).mono ?_
  rintro e w4 ⟨rfl, hb⟩
  replace HB := Lib.hid (below_mv HB.out hb); replace HV := Lib.hid (HV.out.mv hb)
  clear hb HR HR3 RP
  go_wp2_with fail
  refine (Number 12 (by unfold I64; decide) w4 HV.out).mono ?_
  rintro e w5 ⟨rfl, hb⟩
  replace HB := Lib.hid (below_mv HB.out hb)
  clear hb HV
  have e12 : numI 12 = [49, 50] := by simp [numI, num_ge, num_lt]
  rw [e12]
  go_wp2
  go_ret
  exact ⟨rfl, HB.out⟩

end Cd
end Go.Proofs.YtfihjgnafipblaaGreatDoor
