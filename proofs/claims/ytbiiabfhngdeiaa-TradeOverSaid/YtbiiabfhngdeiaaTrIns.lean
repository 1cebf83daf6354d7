/-
  What slices.Insert (of one file) of layer 7 returns (walk), for a row without room: a new row.
-/
import Derived.Test.YtbiiabfhngdeiaaGT
import Derived.Test.YtbiiabfhngdeiaaGQ
import Derived.Lib.AppendZerosOnto
import Derived.Laws.NewBlocks
import Derived.Deep.RegionLaw
set_option maxRecDepth 100000
namespace Go.Proofs.Ytbiiabfhngdeiaa
open Go.RowKit
set_option linter.unusedVariables false
namespace Tr
open Tx

/-- How Insert ends: a new row. -/
def InsEnd (w : World) (n i : Nat) (xs ys : List Value) (e : Ending) (w' : World) : Prop :=
  ∃ g cap, e = .returned (.slice (some ⟨g, 0, none⟩) (n + 1) cap) ∧ w'.ownsRow w.heap.size 66 2 (.slice (some ⟨g, 0, none⟩) (n + 1) cap) (n + 1) (xs.take (i * 2) ++ (ys ++ xs.drop (i * 2))) ∧ Below w.heap.size w w'

theorem run_append_type {P : Program} {w : World} {t tx ty e e' : TypeId} {i : TypeInfo} {b : Option Addr} {n c : Nat} {x : Value} (ht : P.underlying t = some (.slice e)) (hx : P.underlying tx = some (.slice e')) (hi : P.info? e = some i) :
    (Builtin.append_ #[t, tx] ty #[.slice b n c, x]).run P w = (Builtin.append_ #[t, t] ty #[.slice b n c, x]).run P w := by
  simp [Builtin.append_, run_underlying ht, run_underlying hx, sizeOf, typeInfo, hi]

theorem splice_end {α : Type} {P D X : List α} {p : Nat} (h : P.length = p) (h2 : D.length ≤ X.length) : splice (P ++ D) p X = P ++ X := by
  unfold splice
  subst h
  rw [List.take_left, List.drop_of_length_le (by rw [List.length_append]; omega), List.append_nil]

theorem own_form {w : World} {base e size n : Nat} {v : Value} {xs : List Value} (h : w.ownsRow base e size v n xs) (hn : 0 < n) : ∃ g cap, v = .slice (some ⟨g, 0, none⟩) n cap := by
  rcases h.2 with ⟨_, h0⟩ | ⟨g, cap, cur, rfl, _⟩
  · omega
  · exact ⟨g, cap, rfl⟩

set_option maxHeartbeats 2000000 in
/-- At the end: an append. -/
theorem Insert_end (g n base B vb : Nat) (xs ys : List Value) (w : World) (hn : n ≤ 3518437208800) (hrow : w.ownsRow base 66 2 (.slice (some ⟨g, 0, none⟩) n n) n xs) (hv : ∀ j u, ys[j]? = some u → w.cell? ((⟨vb, 0, none⟩ : Addr).add j) = some u) (hy : ys.length = 2) :
    Calls Try.prog 106 #[.slice (some ⟨g, 0, none⟩) n n, .int .i64 (n : Int), .slice (some ⟨vb, 0, none⟩) 1 1] w (InsEnd w n n xs ys) := by
  obtain ⟨i0, hi0, hz0, hz1, hz2⟩ := info_parts info_file
  have HROW := Lib.hid hrow
  have HV := Lib.hid hv
  have HY := Lib.hid hy
  clear hrow hv hy
  obtain ⟨v', w', hrun, hown, hg⟩ := run_append_arg_grows (P := Try.prog) w 39 39 66 i0 _ 2 40 Try.underlying39 hi0 hz0 hz1 hz2 rfl (by decide) ⟨g, 0, none⟩ n n xs HROW.out.1 (HROW.out.cells rfl) ⟨vb, 0, none⟩ 1 1 ys (by rw [HY.out]) HV.out (by omega) (by unfold maxLen; omega) (by omega)
  obtain ⟨g', cap, rfl⟩ := own_form hown (by omega)
  rw [← run_append_type Try.underlying39 Try.underlying38 hi0] at hrun
  have HO := Lib.hid hown; have HG := Lib.hid hg; have HRUN := Lib.hid hrun
  clear hown hg hrun
  go_enter Try.func106, Try.ntmps106
  go_wp2_with (at_builtin; refine Lib.wpList_append_run _ rfl _ _ _ _ rfl _ _ rfl rfl _ _ HRUN.out ?_)
  go_ret
  refine ⟨g', cap, rfl, ?_, below_gr HG.out⟩
  rw [List.take_of_length_le (by rw [HROW.out.1]; exact Nat.le_refl _), List.drop_of_length_le (by rw [HROW.out.1]; exact Nat.le_refl _), List.append_nil]
  exact HO.out

set_option maxRecDepth 100000 in
set_option maxHeartbeats 4000000 in
/-- Ahead of the end. -/
theorem Insert_mid (g n i base vb : Nat) (xs ys : List Value) (w : World) (hn : n ≤ 3518437208800) (hi : i < n) (hrow : w.ownsRow base 66 2 (.slice (some ⟨g, 0, none⟩) n n) n xs) (hv : ∀ j u, ys[j]? = some u → w.cell? ((⟨vb, 0, none⟩ : Addr).add j) = some u) (hy : ys.length = 2) (h1x : ∀ u ∈ xs, u.oneCell' = true) (h1y : ∀ u ∈ ys, u.oneCell' = true) (hvb : vb < w.heap.size) :
    Calls Try.prog 106 #[.slice (some ⟨g, 0, none⟩) n n, .int .i64 (i : Int), .slice (some ⟨vb, 0, none⟩) 1 1] w (InsEnd w n i xs ys) := by
  obtain ⟨i0, hi0, hz0, hz1, hz2⟩ := info_parts info_file
  have hrz : ∀ ty, ∃ G Z, (Builtin.append_ #[39, 3] ty #[.slice (some ⟨g, 0, none⟩) i n, .int .i64 ((n : Int) + 1 - (i : Int))]).run Try.prog w =
      .ok (.slice (some ⟨w.heap.size, 0, none⟩) (n + 1) G) (w.drew.alloc (.cells ((xs.take (i * 2)).toArray ++ Z) 66)) ∧ ((xs.take (i * 2)).toArray ++ Z).size = G * 2 ∧ n + 1 ≤ G ∧ G ≤ maxLen := by
    intro ty
    have h := Lib.run_append_grow_zeros (P := Try.prog) w 39 3 ty 66 i0 _ .i64 .i64 Try.underlying39 Try.underlying3 hi0 hz0 (some ⟨g, 0, none⟩) i n (xs.take (i * 2)) (by
      have := run_loadCells_list (P := Try.prog) w.drew ⟨g, 0, none⟩ (xs.take (i * 2)) (fun j u hu => by
        rw [List.getElem?_take] at hu
        split at hu
        · exact hrow.cells rfl j u hu
        · cases hu)
      rw [List.length_take, hrow.1, Nat.min_eq_left (by omega)] at this
      simp only [Builtin.firstCells, hz1]
      exact this) (n + 1 - i) (by omega) (by rw [hz1]; decide) (by omega) (by omega) (by rw [hz2]; omega) (by
        rw [hz2]
        exact growslice_fits (by omega) (by omega))
    rw [show i + (n + 1 - i) = n + 1 by omega, show ((n + 1 - i : Nat) : Int) = (n : Int) + 1 - (i : Int) by omega, Array.append_assoc] at h
    have hge := grownCap_ge w (n + 1) n 66
    refine ⟨_, _, h, ?_, hge, grownCap_le_maxLen w (n + 1) n 66 (by unfold maxLen; omega)⟩
    simp only [Array.size_append, List.size_toArray, size_zeroCells, List.length_take, hrow.1, show (Value.agg #[.string ⟨#[]⟩, .slice none 0 0]).cells.size = 2 from rfl]
    omega
  obtain ⟨G, Z, hrun, hZs, hnG, hGm⟩ := hrz 39
  clear hrz
  obtain ⟨R, hR⟩ : ∃ R, (xs.take (i * 2)).toArray ++ Z = R := ⟨_, rfl⟩
  rw [hR] at hrun hZs
  obtain ⟨W1, hW1⟩ : ∃ W1, w.drew.alloc (.cells R 66) = W1 := ⟨_, rfl⟩
  rw [hW1] at hrun
  obtain ⟨h, hh⟩ : ∃ h, w.heap.size = h := ⟨_, rfl⟩
  have hb1 : Below w.heap.size w W1 := by rw [← hW1]; exact (below_drewN (Below.refl _ w) 1).alloc (Nat.le_refl _) _
  have ho1 : W1.ownsRow w.heap.size 66 2 (.slice (some ⟨h, 0, none⟩) (n + 1) G) (n + 1) (R.toList.take ((n + 1) * 2)) := by
    refine ⟨?_, .inr ⟨h, G, R, rfl, Nat.le_of_eq hh, ?_, hnG, hGm, hZs, rfl⟩⟩
    · rw [List.length_take, Array.length_toList, hZs]; omega
    · rw [← hW1, ← hh]; exact heap_alloc_new w.drew _
  have hL : (R.toList.take ((n + 1) * 2)).take (i * 2) = xs.take (i * 2) := by
    rw [List.take_take, Nat.min_eq_left (by omega), ← hR]
    have hl : (xs.take (i * 2)).length = i * 2 := by rw [List.length_take, hrow.1]; omega
    simp only [Array.toList_append]
    rw [List.take_append_of_le_length (by rw [hl]; exact Nat.le_refl _), List.take_take, Nat.min_self]
  obtain ⟨L, hLe⟩ : ∃ L, R.toList.take ((n + 1) * 2) = L := ⟨_, rfl⟩
  rw [hLe] at ho1 hL
  have hLn := ho1.1
  have hgw : g < w.heap.size := (hrow.lt g rfl).2
  have hxl := hrow.1
  rw [hh] at hrun hb1 ho1 hgw hvb
  -- the sources
  have hs1 : ys = [] ∨ ∃ a, (some (⟨vb, 0, none⟩ : Addr)) = some a ∧ ∀ j u, ys[j]? = some u → W1.cell? (a.add j) = some u := .inr ⟨_, rfl, fun j u hu => (hb1.cell (by rw [add_block]; exact hvb)).trans (hv j u hu)⟩
  have hs2 : ∀ W2, W1.grownBy W2 (some h) → xs.drop (i * 2) = [] ∨ ∃ a, (some (⟨g, i * 2, none⟩ : Addr)) = some a ∧ ∀ j u, (xs.drop (i * 2))[j]? = some u → W2.cell? (a.add j) = some u := fun W2 hg2 => .inr ⟨_, rfl, fun j u hu => by
    rw [List.getElem?_drop] at hu
    have e1 : (⟨g, i * 2, none⟩ : Addr).add j = (⟨g, 0, none⟩ : Addr).add (i * 2 + j) := by unfold Addr.add; split <;> split <;> simp_all <;> omega
    rw [e1]
    refine cell_gr hg2 (by rw [add_block]; exact fun e => by injection e with e; have e : g = h := e; omega) ((hb1.cell (by rw [add_block]; exact hgw)).trans (hrow.cells rfl _ u hu))⟩
  have hfin : splice (splice L (i * 2) ys) ((i + 1) * 2) (xs.drop (i * 2)) = xs.take (i * 2) ++ (ys ++ xs.drop (i * 2)) := by
    have e1 : splice L (i * 2) ys = (xs.take (i * 2) ++ ys) ++ L.drop (i * 2 + ys.length) := by unfold splice; rw [hL, List.append_assoc]
    have e2 : (xs.take (i * 2) ++ ys).length = (i + 1) * 2 := by rw [List.length_append, List.length_take, hy]; omega
    rw [e1, splice_end e2 (by rw [List.length_drop, List.length_drop, hLn, hxl, hy]; omega), List.append_assoc]
  have hn1 : ys.length = Nat.min 1 (n + 1 - i) * 2 := by rw [hy, show Nat.min 1 (n + 1 - i) = 1 from Nat.min_eq_left (by omega)]
  have hn2 : (xs.drop (i * 2)).length = Nat.min (n - i) (n + 1 - (i + 1)) * 2 := by rw [List.length_drop, hxl, show Nat.min (n - i) (n + 1 - (i + 1)) = n - i from Nat.min_eq_left (by omega)]; omega
  have hf1 : i * 2 + ys.length ≤ (n + 1) * 2 := by rw [hy]; omega
  have hf2 : (i + 1) * 2 + (xs.drop (i * 2)).length ≤ (n + 1) * 2 := by rw [List.length_drop, hxl]; omega
  have h1d : ∀ u ∈ xs.drop (i * 2), u.oneCell' = true := fun u hu => h1x u (List.mem_of_mem_drop hu)
  have hGi : ¬ G = i := by omega
  have hGi2 : ¬ G = i + 1 := by omega
  have hni : ¬ n = i := by omega
  have hG63 : G ≤ 9223372036854775807 := by unfold maxLen at hGm; omega
  obtain ⟨X, hX⟩ : ∃ X, xs.drop (i * 2) = X := ⟨_, rfl⟩
  rw [hX] at hs2 hfin hn2 hf2 h1d
  have HRUN := Lib.hid hrun; have HO1 := Lib.hid ho1; have HS1 := Lib.hid hs1; have HS2 := Lib.hid hs2; have HFIN := Lib.hid hfin; have HN1 := Lib.hid hn1; have HN2 := Lib.hid hn2; have HF1 := Lib.hid hf1; have HF2 := Lib.hid hf2; have H1D := Lib.hid h1d; have H1Y := Lib.hid h1y; have HB1 := Lib.hid hb1; have HX := Lib.hid hX; have HH := Lib.hid hh; have HZ1 := Lib.hid hz1
  clear hrun ho1 hs1 hs2 hfin hn1 hn2 hf1 hf2 h1d h1y hb1 hX hh hz1 hz0 hz2 hR hZs hLe hL hLn hxl hrow hv hy h1x hW1 hnG hGm hgw hvb
  go_enter Try.func106, Try.ntmps106
  go_wp2_with (first
    | (at_builtin; refine Lib.wpList_append_run _ rfl _ _ _ _ rfl _ _ rfl rfl _ _ HRUN.out ?_)
    | (refine wpList_copy_own' (o := ⟨some 45, _, _, _, _, _⟩) rfl _ _ _ _ rfl 66 i0 h 2 h (i * 2) (n + 1) G (n + 1 - i) (G - i) 1 1 (some ⟨vb, 0, none⟩) L ys Try.underlying39 hi0 HZ1.out rfl rfl HO1.out HN1.out HS1.out HF1.out H1Y.out ?_; intro W2 ho2 hg2; have HO2 := Lib.hid ho2; have HG2 := Lib.hid hg2; clear ho2 hg2))
  have hO2d : (W2.drew).ownsRow h 66 2 (.slice (some ⟨h, 0, none⟩) (n + 1) G) (n + 1) (splice L (i * 2) ys) := HO2.out
  have hs2d : X = [] ∨ ∃ a, (some (⟨g, i * 2, none⟩ : Addr)) = some a ∧ ∀ j u, X[j]? = some u → W2.drew.cell? (a.add j) = some u := HS2.out W2 HG2.out
  have HO2D := Lib.hid hO2d; have HS2D := Lib.hid hs2d
  clear hO2d hs2d
  have hw1 : IntKind.i64.wrap ((i : Int) + 1) = (i : Int) + 1 := IntWalk.i64_in _ (by omega)
  have hb1 : (0 : Int) ≤ (i : Int) + 1 := by omega
  have htn : ((i : Int) + 1).toNat = i + 1 := by omega
  have hin : i ≤ n := by omega
  have hib : (i : Int) + 1 ≤ (n : Int) + 1 := by omega
  go_region_law (refine step_copy_own rfl _ _ _ _ rfl 66 i0 h 2 h ((i + 1) * 2) (n + 1) G (n + 1 - (i + 1)) (G - (i + 1)) (n - i) (n - i) (some ⟨g, i * 2, none⟩) (splice L (i * 2) ys) X Try.underlying39 hi0 HZ1.out (by simp [Act.eval, Act.put]) (by simp [Act.eval, Act.put]) HO2D.out HN2.out HS2D.out HF2.out H1D.out ?_; intro W3 ho3 hg3; have HO3 := Lib.hid ho3; have HG3 := Lib.hid hg3; clear ho3 hg3)
  clear hw1 hb1 htn hin hib
  go_wp2
  go_ret
  refine ⟨h, G, rfl, ?_, ?_⟩
  · rw [HH.out, HX.out, ← HFIN.out]; exact HO3.out
  · rw [HH.out]
    have hz : h ≤ W1.heap.size := by have := HB1.out.size; rw [HH.out] at this; exact this
    exact (HB1.out.grown HG2.out hz (fun k e => by injection e with e; omega)).grown (gr_of_drewN (d := 1) HG3.out) (Nat.le_trans hz HG2.out.size) (fun k e => by injection e with e; omega)

/-- Insert of one file. -/
theorem Insert (g n i base vb : Nat) (xs ys : List Value) (w : World) (hn : n ≤ 3518437208800) (hi : i ≤ n) (hrow : w.ownsRow base 66 2 (.slice (some ⟨g, 0, none⟩) n n) n xs) (hv : ∀ j u, ys[j]? = some u → w.cell? ((⟨vb, 0, none⟩ : Addr).add j) = some u) (hy : ys.length = 2) (h1x : ∀ u ∈ xs, u.oneCell' = true) (h1y : ∀ u ∈ ys, u.oneCell' = true) (hvb : vb < w.heap.size) :
    Calls Try.prog 106 #[.slice (some ⟨g, 0, none⟩) n n, .int .i64 (i : Int), .slice (some ⟨vb, 0, none⟩) 1 1] w (InsEnd w n i xs ys) := by
  by_cases e : i = n
  · subst e
    exact Insert_end g i base 0 vb xs ys w hn hrow hv hy
  · exact Insert_mid g n i base vb xs ys w hn (by omega) hrow hv hy h1x h1y hvb

end Tr
end Go.Proofs.Ytbiiabfhngdeiaa
