/-
  What again (of files) of layer 7 returns (walk): a tree once more, in memory of its own. A store of a file into a row of one's own.
-/
import Derived.Test.YtfjllohhjpiphaaTrLeaf
set_option maxRecDepth 100000
namespace Go.Proofs.Ytfjllohhjpiphaa
open Go.RowKit
set_option linter.unusedVariables false
namespace Tr
open Tx

theorem FCells.set {W : World} {g k c : Nat} {t1 t2 : TR} {xs : List Value} {x : FL} {A : Option Addr} (h : FCells W (some g) t1 xs) (hj : ∀ j y, j ≠ k → t2[j]? = some y → t1[j]? = some y) (hk : ∀ y, t2[k]? = some y → y = x)
    (hlen : k * 2 + 1 < xs.length) (hc : x.2.length ≤ c) (hr : RdX W (some g) A x.2) : FCells W (some g) t2 ((xs.set (k * 2) (strV x.1)).set (k * 2 + 1) (.slice A x.2.length c)) := by
  intro j y hy
  by_cases e : j = k
  · subst e
    obtain rfl := hk y hy
    refine ⟨A, c, ?_, ?_, hc, hr⟩
    · rw [List.getElem?_set_ne (by omega), List.getElem?_set_self (by omega)]
    · rw [List.getElem?_set_self (by rw [List.length_set]; omega)]
  · obtain ⟨A', c', h1, h2, h3, h4⟩ := h j y (hj j y e hy)
    refine ⟨A', c', ?_, ?_, h3, h4⟩
    · rw [List.getElem?_set_ne (by omega), List.getElem?_set_ne (by omega)]; exact h1
    · rw [List.getElem?_set_ne (by omega), List.getElem?_set_ne (by omega)]; exact h2

theorem store_file {W : World} {base g n cap k c : Nat} {t1 t2 : TR} {xs : List Value} {x : FL} {A : Option Addr} (hrow : W.ownsRow base 48 2 (.slice (some ⟨g, 0, none⟩) n cap) n xs) (hF : FCells W (some g) t1 xs)
    (hj : ∀ j y, j ≠ k → t2[j]? = some y → t1[j]? = some y) (hk : ∀ y, t2[k]? = some y → y = x) (hkn : k < n) (hc : x.2.length ≤ c) (hr : RdX W (some g) A x.2) :
    (∃ xs', ((W.setCell ⟨g, k * 2, none⟩ (strV x.1)).setCell ⟨g, k * 2 + 1, none⟩ (.slice A x.2.length c)).ownsRow base 48 2 (.slice (some ⟨g, 0, none⟩) n cap) n xs' ∧ FCells ((W.setCell ⟨g, k * 2, none⟩ (strV x.1)).setCell ⟨g, k * 2 + 1, none⟩ (.slice A x.2.length c)) (some g) t2 xs') ∧
      W.grownBy ((W.setCell ⟨g, k * 2, none⟩ (strV x.1)).setCell ⟨g, k * 2 + 1, none⟩ (.slice A x.2.length c)) (some g) := by
  obtain ⟨h1, g1⟩ := hrow.stored (k * 2) (strV x.1)
  obtain ⟨h2, g2⟩ := h1.stored (k * 2 + 1) (.slice A x.2.length c)
  have g3 : W.grownBy ((W.setCell ⟨g, k * 2, none⟩ (strV x.1)).setCell ⟨g, k * 2 + 1, none⟩ (.slice A x.2.length c)) (some g) := ⟨g2.os.trans g1.os, g2.tape.trans g1.tape, g2.output.trans g1.output, Nat.le_trans g1.size g2.size, fun i hi hne => (g2.block i (Nat.lt_of_lt_of_le hi g1.size) hne).trans (g1.block i hi hne)⟩
  refine ⟨⟨_, h2, ?_⟩, g3⟩
  exact (hF.set hj hk (by rw [hrow.1]; omega) hc hr).gr g3

/-- The cells where a file is stored. -/
theorem file_cells {W : World} {base g n cap k : Nat} {xs : List Value} (hrow : W.ownsRow base 48 2 (.slice (some ⟨g, 0, none⟩) n cap) n xs) (hkn : k < n) :
    ∃ u v, W.cell? ⟨g, k * 2, none⟩ = some u ∧ W.cell? ⟨g, k * 2 + 1, none⟩ = some v ∧ W.frozen? ⟨g, k * 2, none⟩ = false ∧ W.frozen? ⟨g, k * 2 + 1, none⟩ = false := by
  have h1 := hrow.cellAt (k * 2) (by omega)
  have h2 := hrow.cellAt (k * 2 + 1) (by omega)
  rw [List.getElem?_eq_getElem (by rw [hrow.1]; omega)] at h1 h2
  exact ⟨_, _, h1, h2, hrow.frozenAt _, hrow.frozenAt _⟩

/-- How again ends. -/
def AgainEnd (w : World) (n : Nat) (t : TR) (e : Ending) (w' : World) : Prop :=
  e = .returned (.slice (some ⟨w.heap.size, 0, none⟩) n n) ∧ (∃ xs, w'.ownsRow w.heap.size 48 2 (.slice (some ⟨w.heap.size, 0, none⟩) n n) n xs ∧ FCells w' (some w.heap.size) t xs) ∧ Below w.heap.size w w'

theorem again_next {w wr w2 : World} {g n k m h : Nat} {t : TR} {xs : List Value} {x : FL} {o : Obj} (hrow : wr.ownsRow g 48 2 (.slice (some ⟨g, 0, none⟩) n n) n xs) (hF : FCells wr (some g) (t.take k) xs) (hb : Below g w wr)
    (hk : k < t.length) (hn : t.length = n) (hx : t[k] = x) (hm : x.2.length = m) (hr : w2.ownsRow (wr.alloc o).heap.size 9 1 (.slice (some ⟨h, 0, none⟩) m m) m (x.2.map strV)) (hb2 : Below (wr.alloc o).heap.size (wr.alloc o) w2) :
    ∃ xs', ((w2.setCell ⟨g, k * 2, none⟩ (strV x.1)).setCell ⟨g, k * 2 + 1, none⟩ (.slice (some ⟨h, 0, none⟩) m m)).ownsRow g 48 2 (.slice (some ⟨g, 0, none⟩) n n) n xs' ∧
      FCells ((w2.setCell ⟨g, k * 2, none⟩ (strV x.1)).setCell ⟨g, k * 2 + 1, none⟩ (.slice (some ⟨h, 0, none⟩) m m)) (some g) (t.take (k + 1)) xs' ∧ Below g w ((w2.setCell ⟨g, k * 2, none⟩ (strV x.1)).setCell ⟨g, k * 2 + 1, none⟩ (.slice (some ⟨h, 0, none⟩) m m)) := by
  subst hm
  have hg : g < wr.heap.size := (hrow.lt g rfl).2
  have g1 := World.grownBy_alloc wr o none
  have g2 := below_gr_row hb2
  have hrow2 := own_gr (own_gr hrow g1) g2
  have hF2 := (hF.gr (gr_none g1)).gr (gr_none g2)
  obtain ⟨⟨xs', r1, r2⟩, r3⟩ := store_file (k := k) (t2 := t.take (k + 1)) (x := x) (A := some ⟨h, 0, none⟩) (c := x.2.length) hrow2 hF2 (fun j y hne hy => by
      rw [List.getElem?_take] at hy ⊢
      split at hy
      · rw [if_pos (by omega)]; exact hy
      · cases hy) (fun y hy => by
      rw [List.getElem?_take, if_pos (by omega), List.getElem?_eq_getElem hk] at hy
      injection hy with hy
      rw [← hy, hx]) (by omega) (Nat.le_refl _) (RdX.own hr (by simp; omega))
  refine ⟨xs', r1, r2, ?_⟩
  have hbb : Below g w w2 := (hb.alloc (Nat.le_of_lt hg) o).trans (hb2.mono (by simp; omega))
  exact (hbb.setCell (p := ⟨g, k * 2, none⟩) (Nat.le_refl _) _).setCell (p := ⟨g, k * 2 + 1, none⟩) (Nat.le_refl _) _

set_option maxHeartbeats 2000000 in
theorem againT (A : Option Addr) (c n B : Nat) (t : TR) (w : World) (hn : t.length = n) (hs : Wide t) (hB : B ≤ w.heap.size) (hR : RdT w B A t) :
    Calls Try.prog 79 #[.slice A n c, .func (.func 80) #[] #[]] w (AgainEnd w n t) := by
  have hln : n ≤ 3518437208800 := by rw [← hn]; exact hs.len
  have HN := Lib.hid hn; clear hn
  have HS := Lib.hid hs; clear hs
  have hmk : ∀ W : World, (Instr.makeSlice 33 (.int .i64 (n : Int)) (.int .i64 (n : Int))).run Try.prog W = .ok (.slice (some ⟨W.heap.size, 0, none⟩) n n) (W.alloc (.cells (madeCells #[.string ⟨#[]⟩, .slice none 0 0] (n * 2)) 48)) := by
    obtain ⟨i0, hi, hz0, hz1, hz2⟩ := info_parts info_file
    intro W
    have := run_make (P := Try.prog) W 33 48 i0 _ Try.underlying33 hi hz0 .i64 .i64 (n : Int) (n : Int) (by omega) (by omega) (by rw [hz2]; omega) (by omega)
    simp only [Int.toNat_natCast, hz1] at this
    exact this
  have hrow := World.ownsRow_lit (base := w.heap.size) (e := 48) (size := 2) w (madeCells #[.string ⟨#[]⟩, .slice none 0 0] (n * 2)) n (Nat.le_refl _) (by unfold maxLen; omega) (by rw [size_madeCells])
  have hb0 : Below w.heap.size w (w.alloc (.cells (madeCells #[.string ⟨#[]⟩, .slice none 0 0] (n * 2)) 48)) := (Below.refl _ _).alloc (Nat.le_refl _) _
  obtain ⟨Z, hZ⟩ : ∃ Z, madeCells #[.string ⟨#[]⟩, .slice none 0 0] (n * 2) = Z := ⟨_, rfl⟩
  rw [hZ] at hrow hb0
  have hmk' : ∀ W : World, (Instr.makeSlice 33 (.int .i64 (n : Int)) (.int .i64 (n : Int))).run Try.prog W = .ok (.slice (some ⟨W.heap.size, 0, none⟩) n n) (W.alloc (.cells Z 48)) := fun W => by rw [hmk W, hZ]
  clear hmk hZ
  have HROW := Lib.hid hrow; have HB0 := Lib.hid hb0; clear hrow hb0
  go_enter Try.func79, Try.ntmps79
  go_wp2_with fail
  clear hmk'
  obtain ⟨g, hg⟩ : ∃ g, w.heap.size = g := ⟨_, rfl⟩
  obtain ⟨w0, hw0⟩ : ∃ w0, w.alloc (.cells Z 48) = w0 := ⟨_, rfl⟩
  rw [hw0] at HROW HB0 ⊢
  rw [hg] at HROW HB0 ⊢
  have HG := Lib.hid hg; clear hg hw0
  go_loopw [13] (fun i wr => ∃ k : Nat, k ≤ n ∧ i = .int .i64 (k : Int) ∧ (∃ xs, wr.ownsRow g 48 2 (.slice (some ⟨g, 0, none⟩) n n) n xs ∧ FCells wr (some g) (t.take k) xs) ∧ Below g w wr) (fun i _ => n - (intOf i).toNat)
  case atStart => exact ⟨0, Nat.zero_le _, rfl, ⟨_, HROW.out, FCells.nil _ _ _⟩, HB0.out⟩
  case round =>
    obtain ⟨k, hk, rfl, ⟨xs, hrow, hF⟩, hb⟩ := hrel
    have HRW := Lib.hid hrow; have HF := Lib.hid hF; have HBW := Lib.hid hb; clear hrow hb hF
    by_cases hlt : k < n
    · have hkl : k < t.length := by rw [HN.out]; exact hlt
      obtain ⟨a, rfl, hab, hat⟩ := (hR.below (HBW.out.mono (by rw [← HG.out]; exact hB))).at_ hkl
      have hsm := HS.out.all _ (List.getElem_mem hkl)
      obtain ⟨x, hx⟩ : ∃ x, t[k] = x := ⟨_, rfl⟩
      rw [hx] at hat hsm
      have HX := Lib.hid hx; clear hx
      obtain ⟨c0, A1, c1, h1, hc1, hr1⟩ := hat
      obtain ⟨m, hm⟩ : ∃ m, x.2.length = m := ⟨_, rfl⟩
      have hm5 : m ≤ 8796093022208 := by rw [← hm]; exact Nat.le_trans hsm (by decide)
      rw [hm] at h1 hc1
      have HM := Lib.hid hm; have HR1 := Lib.hid hr1
      clear hm hr1 hsm
      have hgs := (HRW.out.lt g rfl).2
      have hBwr : B ≤ wr.heap.size := by rw [HG.out] at hB; omega
      go_wp2_with fail
      refine (file x.1 A1 c1 m B x.2 _ HM.out hm5 (Nat.le_trans hBwr (by simp)) (Rd.below HR1.out ((Below.refl _ _).alloc hBwr _))).mono ?_
      rintro e w2 ⟨h, rfl, hr2, hb2⟩
      have hnx := again_next HRW.out HF.out HBW.out hkl HN.out HX.out HM.out hr2 hb2
      obtain ⟨v0, v1, y0, y1, f0, f1⟩ := file_cells (own_gr (own_gr HRW.out (World.grownBy_alloc wr _ none)) (below_gr_row hb2)) hlt
      have HNX := Lib.hid hnx
      clear hnx hr2 hb2
      go_wp2
      go_roundw
      case rel =>
        obtain ⟨xs', n1, n2, n3⟩ := HNX.out
        exact ⟨k + 1, by omega, by go_num, ⟨xs', n1, n2⟩, n3⟩
      case measure => simp [intOf]; omega
    · obtain rfl : k = n := by omega
      have hF := HF.out
      rw [List.take_of_length_le (by rw [HN.out]; exact Nat.le_refl _)] at hF
      have HF2 := Lib.hid hF; clear hF
      go_wp2
      go_ret
      exact ⟨by rw [HG.out]; rfl, by rw [HG.out]; exact ⟨xs, HRW.out, HF2.out⟩, by rw [HG.out]; exact HBW.out⟩

end Tr
end Go.Proofs.Ytfjllohhjpiphaa
