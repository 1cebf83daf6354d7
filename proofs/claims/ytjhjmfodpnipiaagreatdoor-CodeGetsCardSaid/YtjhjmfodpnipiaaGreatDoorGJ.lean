/-
  Words and contracts, joined: CdAwake CdFrame CdOpen.
-/
import Derived.Test.YtjhjmfodpnipiaaGreatDoorCdGot
import Derived.Test.YtjhjmfodpnipiaaGreatDoorFlLeaf
import Derived.Test.YtjhjmfodpnipiaaGreatDoorCards
import Derived.Test.YtjhjmfodpnipiaaGreatDoorTie
import Derived.Test.YtjhjmfodpnipiaaGreatDoorShelf
import Derived.Test.YtjhjmfodpnipiaaGreatDoorCdVars
import Derived.ProofKit
import Derived.OpenShut
import Derived.Deep.DeepHandedRow
import Derived.Deep.DeepWitnessRowRef
import Derived.Deep.DeepLaidRun
import Derived.Stop.LaidErr
import Derived.Test.YtjhjmfodpnipiaaGreatDoorTxOpen
import Derived.Test.YtjhjmfodpnipiaaGreatDoorCdNum
set_option maxRecDepth 100000
namespace Go.Proofs.YtjhjmfodpnipiaaGreatDoor
open Go.RowKit Go.Shelf
set_option linter.unusedVariables false
set_option linter.unusedSimpArgs false
namespace Cd
open Tx Df Sq Hk Tr Pr Fl

def exA : Ch := ⟨0, [97], [], ⟨0, [], []⟩⟩
def exB : Ch := ⟨3, [97], [], ⟨0, [], [[120]]⟩⟩
def exBs : List UInt8 := [43, 32, 97, 10, 64, 32, 97, 32, 48, 32, 48, 32, 49, 10, 43, 120, 10]
theorem ex_bytes : bytesL [exA, exB] = exBs := by
  simp [bytesL, bytesP, headP, tailP, numI, num_lt, exA, exB, exBs, sign, sg]
theorem ex_put : putP [exA, exB] = (0, exBs) := putP_ok.2 ⟨by decide, by decide, by decide, ex_bytes⟩
theorem ex_get : getC exBs = some [exA, exB] := by rw [getC_eq]; exact getP_iff.2 ex_put

/-- Two changes in a block of their own are read as a list. -/
theorem rdP_two {W : World} {S : Nat → Prop} {b : Nat} {A B A' B' : Option Addr} {n c m d n' c' m' d' : Nat} {x y : Ch}
    (h : Blk W b 34 #[.int .i64 x.k, strV x.nm, strV x.to, .int .i64 x.h.pos, .slice A n c, .slice B m d, .int .i64 y.k, strV y.nm, strV y.to, .int .i64 y.h.pos, .slice A' n' c', .slice B' m' d'])
    (hp : PG W S A n c B m d x) (hq : PG W S A' n' c' B' m' d' y) (hS : S b) : RdP W S (some ⟨b, 0, none⟩) [x, y] :=
  .inr ⟨_, rfl, hS, fun k z hy => by
    match k, hy with
    | 0, hy =>
      injection hy with hy
      subst hy
      have e : (⟨b, 0, none⟩ : Addr).add (0 * 6) = ⟨b, 0, none⟩ := rfl
      exact ⟨by rw [e]; exact h.cell 0 rfl, by rw [e]; exact h.cell 1 rfl, by rw [e]; exact h.cell 2 rfl, by rw [e]; exact h.cell 3 rfl, A, n, c, B, m, d, by rw [e]; exact h.cell 4 rfl, by rw [e]; exact h.cell 5 rfl, hp⟩
    | 1, hy =>
      injection hy with hy
      subst hy
      have e : (⟨b, 0, none⟩ : Addr).add (1 * 6) = ⟨b, 6, none⟩ := rfl
      exact ⟨by rw [e]; exact h.cell 6 rfl, by rw [e]; exact h.cell 7 rfl, by rw [e]; exact h.cell 8 rfl, by rw [e]; exact h.cell 9 rfl, A', n', c', B', m', d', by rw [e]; exact h.cell 10 rfl, by rw [e]; exact h.cell 11 rfl, hq⟩
    | k + 2, hy => simp at hy⟩

set_option maxRecDepth 100000 in
set_option maxHeartbeats 4000000 in
theorem awake (w : World) (hv : Vars w) : Calls Tryz.prog 4 #[] w (BoolEnd w true) := by
  have HV := Lib.hid hv; clear hv
  go_enter Tryz.func4, Tryz.ntmps4
  go_wp2_with fail
  have bs := (Blk.new w 9 #[strV [120]]).alloc (.cells #[.int .i64 0, strV [97], strV [], .int .i64 0, .slice none 0 0, .slice none 0 0, .int .i64 3, strV [97], strV [], .int .i64 0, .slice none 0 0, .slice (some ⟨w.heap.size, 0, none⟩) 1 1] 34)
  have bp := Blk.new (w.alloc (.cells #[strV [120]] 9)) 34 #[.int .i64 0, strV [97], strV [], .int .i64 0, .slice none 0 0, .slice none 0 0, .int .i64 3, strV [97], strV [], .int .i64 0, .slice none 0 0, .slice (some ⟨w.heap.size, 0, none⟩) 1 1]
  have hb := two_box w (.cells #[strV [120]] 9) (.cells #[.int .i64 0, strV [97], strV [], .int .i64 0, .slice none 0 0, .slice none 0 0, .int .i64 3, strV [97], strV [], .int .i64 0, .slice none 0 0, .slice (some ⟨w.heap.size, 0, none⟩) 1 1] 34)
  simp only [World.size_alloc] at bp
  generalize (w.alloc (.cells #[strV [120]] 9)).alloc (.cells #[.int .i64 0, strV [97], strV [], .int .i64 0, .slice none 0 0, .slice none 0 0, .int .i64 3, strV [97], strV [], .int .i64 0, .slice none 0 0, .slice (some ⟨w.heap.size, 0, none⟩) 1 1] 34) = w1 at bs bp hb ⊢
  obtain ⟨z, hz⟩ : ∃ z, w.heap.size = z := ⟨_, rfl⟩
  rw [hz] at bs bp ⊢
  have hr0 : RdS w1 w1.heap.size (some ⟨z, 0, none⟩) [[120]] := .inr ⟨_, rfl, bs.lt, fun j u hu => by
    cases j with
    | zero =>
      injection hu with hu
      subst hu
      exact bs.cell 0 rfl
    | succ j => simp at hu⟩
  have hp1 : PG w1 (· < w1.heap.size) none 0 0 none 0 0 exA := pg_of ⟨⟨rfl, rfl, Nat.le_refl _, Nat.le_refl _, by decide, by decide, .inl rfl, .inl rfl, (by unfold I64; decide)⟩, (by unfold I64; decide), by decide, by decide, fun x hx => (by cases hx), fun x hx => (by cases hx)⟩
  have hp2 : PG w1 (· < w1.heap.size) none 0 0 (some ⟨z, 0, none⟩) 1 1 exB := pg_of ⟨⟨rfl, rfl, Nat.le_refl _, Nat.le_refl _, by decide, by decide, .inl rfl, hr0, (by unfold I64; decide)⟩, (by unfold I64; decide), by decide, by decide, fun x hx => (by cases hx), fun x hx => (by simp [exB] at hx; subst hx; decide)⟩
  have RP : Hid (RdP w1 (· < w1.heap.size) (some ⟨z + 1, 0, none⟩) [exA, exB]) := Lib.hid (rdP_two bp hp1 hp2 bp.lt)
  have HB := Lib.hid hb
  replace HV := Lib.hid (HV.out.mv hb)
  clear bs bp hb hz hr0 hp1 hp2
  refine (Put (some ⟨z + 1, 0, none⟩) 2 2 [exA, exB] w1 0 exBs rfl (by decide) RP.out HV.out ex_put).mono ?_
  rintro e w2 ⟨B, n, d, rfl, hn, hd, hr, hb⟩
  obtain rfl : 17 = n := hn
  have HD := Lib.hid hd; have HR := Lib.hid hr
  replace RP := Lib.hid (RP.out.mv hb); replace HB := Lib.hid (below_mv HB.out hb); replace HV := Lib.hid (HV.out.mv hb)
  clear hd hr hb
  have key := Get B 17 d exBs w2 rfl HD.out (by decide) HR.out HV.out
  rw [ex_get] at key
  have KEY := Lib.hid key; clear key
  go_wp2_with fail
  refine KEY.out.mono ?_
  rintro e w3 ⟨A3, n3, c3, rfl, hn3, hc3, hr3, hb⟩
  obtain rfl : 2 = n3 := hn3
  have HR3 := Lib.hid hr3
  replace RP := Lib.hid (RP.out.mv hb); replace HB := Lib.hid (below_mv HB.out hb); replace HV := Lib.hid (HV.out.mv hb); replace HR : Hid (RdB w3 w3.heap.size B exBs) := Lib.hid (Rd.up (Rd.below HR.out hb) hb.size)
  clear KEY hc3 hr3 hb
  have hcv := run_conv (P := Tryz.prog) HR.out 22 9 5 d Tryz.underlying22 Tryz.underlying5 Tryz.underlying9
  have hl17 : exBs.length = 17 := rfl
  rw [hl17] at hcv
  have es : (ByteArray.mk exBs.toArray == ByteArray.mk #[43, 32, 97, 10, 64, 32, 97, 32, 48, 32, 48, 32, 49, 10, 43, 120, 10]) = true := by decide
  go_wp2_with fail
  refine (SameL (some ⟨z + 1, 0, none⟩) 2 2 A3 2 c3 [exA, exB] [exA, exB] w3 true rfl rfl (by decide) RP.out HR3.out (by decide)).mono ?_
  rintro e w4 ⟨rfl, hb⟩
  replace HB := Lib.hid (below_mv HB.out hb); replace HV := Lib.hid (HV.out.mv hb)
  clear hb HR HR3 RP
  go_wp2_with fail
  refine (Number 12 (by unfold I64; decide) w4 HV.out).mono ?_
  rintro e w5 ⟨rfl, hb⟩
  replace HB := Lib.hid (below_mv HB.out hb)
  clear hb HV
  have e12 : numI 12 = [49, 50] := by simp [numI, num_ge, num_lt]
  rw [e12]
  go_wp2
  go_ret
  exact ⟨rfl, HB.out⟩

end Cd
end Go.Proofs.YtjhjmfodpnipiaaGreatDoor

namespace Go.Proofs.YtjhjmfodpnipiaaGreatDoor
open Go.RowKit
set_option linter.unusedVariables false
namespace Cd
open Tx

/-- The list of every row. -/
abbrev laidL : List (String × DataW Unit) := [("math/bits.deBruijn32tab", Rows.laid_math_bits_deBruijn32tab), ("math/bits.deBruijn64tab", Rows.laid_math_bits_deBruijn64tab), ("internal/strconv.uint64pow10", Rows.laid_internal_strconv_uint64pow10), ("unicode/utf8.acceptRanges", Rows.laid_unicode_utf8_acceptRanges), ("strconv.ErrRange", Rows.laid_strconv_ErrRange), ("strconv.ErrSyntax", Rows.laid_strconv_ErrSyntax), ("unicode/utf8.first", Rows.laid_unicode_utf8_first)]
theorem own : ownKnob Tryz.prog.godebug = none := by kernel_rfl
theorem gPow : Tryz.prog.globalNamed "internal/strconv.uint64pow10" = some 1 := by kernel_rfl
theorem gPowT : (Tryz.prog.globals[1]?).map (·.type) = some 106 := by kernel_rfl
theorem cPow : Tryz.prog.cellsOf 106 = 20 := by kernel_rfl
theorem c64 : Tryz.prog.cellsOf 90 = 1 := by kernel_rfl
theorem gEr : Tryz.prog.globalNamed "strconv.ErrRange" = some 5 := by kernel_rfl
theorem gErT : (Tryz.prog.globals[5]?).map (·.type) = some 81 := by kernel_rfl
theorem gEs : Tryz.prog.globalNamed "strconv.ErrSyntax" = some 4 := by kernel_rfl
theorem gEsT : (Tryz.prog.globals[4]?).map (·.type) = some 81 := by kernel_rfl
theorem cStr : Tryz.prog.cellsOf 9 = 1 := by kernel_rfl
theorem cErr : Tryz.prog.cellsOf 135 = 1 := by kernel_rfl
theorem star : "*" ++ "errors.errorString" = "*errors.errorString" := by decide
theorem rowErr (u : TypeId) (h : Tryz.prog.typeName? 3 u = some "*errors.errorString") : u = 133 :=
  typeName_ptr_named (nm := "errors.errorString") (by rw [star]; kernel_rfl) (by kernel_rfl) (by decide) u (by rw [star]; exact h)

/-- What the row's list gives, and a world's shape. -/
theorem vars_of {W : World} (hL : laidMetH Tryz.prog laidL W) (hs : W.ShapedOpen Tryz.prog) : Vars W := by
  have h0 : laidMet Tryz.prog laidL W := hL
  have h2 := h0.tail.tail
  have h4 := h2.tail.tail
  refine ⟨Lib.tabIs_of_head gPow gPowT Tryz.underlying106 Tryz.underlying90 c64 cPow h2, ?_, ?_, ?_⟩
  · obtain ⟨a, s, hv, _, _, _⟩ := laid_sentinel h4.tail gEs gEsT Tryz.underlying81 rowErr Tryz.underlying133 Tryz.underlying135 rfl rfl Tryz.underlying9 cErr cStr
    exact ⟨_, _, hv⟩
  · obtain ⟨a, s, hv, _, _, _⟩ := laid_sentinel h4 gEr gErT Tryz.underlying81 rowErr Tryz.underlying133 Tryz.underlying135 rfl rfl Tryz.underlying9 cErr cStr
    exact ⟨_, _, hv⟩
  · exact Tryz.laysM146.s1_3 W hs

/-- A world for the witness: the variables hold what is laid. -/
noncomputable def laidWorld (os : Os) : World :=
  let w0 := World.holding Tryz.prog os ⟨#[], #[], []⟩
  let n := w0.heap.size
  let put (h : Array Obj) (g : Nat) (cs : Array Value) : Array Obj := h.modify g fun
    | .cells _ t frozen => .cells cs t frozen
    | o => o
  let u8 (l : List Nat) : Array Value := (l.map fun (z : Nat) => Value.int .u8 z).toArray
  let h1 := put w0.heap 6 (u8 [0, 1, 28, 2, 29, 14, 24, 3, 30, 22, 20, 15, 25, 17, 4, 8, 31, 27, 13, 23, 21, 19, 16, 7, 26, 12, 18, 6, 11, 5, 10, 9])
  let h2 := put h1 7 (u8 [0, 1, 56, 2, 57, 49, 28, 3, 61, 58, 42, 50, 38, 29, 17, 4, 62, 47, 59, 36, 45, 43, 51, 22, 53, 39, 33, 30, 24, 18, 12, 5, 63, 55, 48, 27, 60, 41, 37, 16, 46, 35, 44, 21, 52, 32, 23, 11, 54, 26, 40, 15, 34, 20, 31, 10, 25, 14, 19, 9, 13, 8, 7, 6])
  let h3 := put h2 1 (Lib.pow10Tab.map fun z => Value.int .u64 z).toArray
  let h4 := put h3 3 (u8 [128, 191, 160, 191, 128, 159, 144, 191, 128, 143, 0, 0, 0, 0, 0, 0, 0, 0, 0, 0, 0, 0, 0, 0, 0, 0, 0, 0, 0, 0, 0, 0])
  let h5 := put h4 2 (u8 Pinned.utf8FirstZ)
  let h6 := put h5 5 #[.iface 133 (.pointer (some ⟨n, 0, none⟩))]
  let h7 := put h6 4 #[.iface 133 (.pointer (some ⟨n + 1, 0, none⟩))]
  { w0 with heap := (h7.push (.cells #[.string ⟨#[118, 97, 108, 117, 101, 32, 111, 117, 116, 32, 111, 102, 32, 114, 97, 110, 103, 101]⟩] 135)).push (.cells #[.string ⟨#[105, 110, 118, 97, 108, 105, 100, 32, 115, 121, 110, 116, 97, 120]⟩] 135) }
set_option maxRecDepth 100000 in
theorem laid_met (os : Os) (args : Array Value) : laidMet Tryz.prog laidL ((laidWorld os).forCall (fun _ _ => 0) ⟨#[], args, []⟩).memory :=
  laidMet_of_run3 10 (by kernel_rfl) (by kernel_rfl) (by kernel_rfl)

end Cd
end Go.Proofs.YtjhjmfodpnipiaaGreatDoor

namespace Go.Proofs.YtjhjmfodpnipiaaGreatDoor
open Go.RowKit Go.ChangeShapes Go.WideShapes Go.ChangeAt
set_option linter.unusedVariables false
namespace Cd
open Tx

/-- An argument []byte. -/
structure BysArg (w : World) (A : Option Addr) (n c : Nat) (bs : List UInt8) : Prop where
  len : bs.length = n
  cap : n ≤ c
  le : n ≤ maxLen
  rd : RdB w w.heap.size A bs
theorem bys_in {H : Type} {enc : TypeId × Value → H} {W : World} {base : Nat} {spare : Nat → Bool} {held : Bool} {fuel : Nat} {cs : List Value} {x : DataW H × List MemPlace} {A : Option Addr} {l c : Nat} (h : DataW.trod enc Tryz.prog W base spare held fuel 22 cs = some x) (hcs : cs = [.slice A l c]) :
    ∃ bs, BysArg W A l c bs := by
  obtain ⟨bs, h1, h2, h3, h4⟩ := bytes_in h hcs
  exact ⟨bs, h1, h2, h3, h4⟩
theorem BysArg.mv {w w' : World} {A : Option Addr} {n c : Nat} {bs : List UInt8} (h : BysArg w A n c bs) (hb : Below w.heap.size w w') : BysArg w' A n c bs := ⟨h.len, h.cap, h.le, Rd.up (Rd.below h.rd hb) hb.size⟩

end Cd
end Go.Proofs.YtjhjmfodpnipiaaGreatDoor
