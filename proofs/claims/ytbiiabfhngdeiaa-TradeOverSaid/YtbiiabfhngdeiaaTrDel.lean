/-
  What slices.Delete (of one file) and Del of layer 7 return (walks).
-/
import Derived.Test.YtbiiabfhngdeiaaGT
import Derived.Test.YtbiiabfhngdeiaaGQ
set_option maxRecDepth 100000
namespace Go.Proofs.Ytbiiabfhngdeiaa
open Go.RowKit
set_option linter.unusedVariables false
namespace Tr
open Tx

/-- How Delete ends: in place. -/
def DeleteEnd (w : World) (base g n i : Nat) (xs : List Value) (e : Ending) (w' : World) : Prop :=
  e = .returned (.slice (some ⟨g, 0, none⟩) (i + (n - (i + 1))) n) ∧ w'.ownsRow base 66 2 (.slice (some ⟨g, 0, none⟩) (i + (n - (i + 1))) n) (i + (n - (i + 1))) (xs.take (i * 2) ++ xs.drop ((i + 1) * 2)) ∧ w.grownBy w' (some g)

theorem gr_two {W W1 W2 : World} {row : Option Nat} (h1 : W.grownBy W1 row) (h2 : W1.grownBy W2 row) : W.grownBy W2 row :=
  ⟨h2.os.trans h1.os, h2.tape.trans h1.tape, h2.output.trans h1.output, Nat.le_trans h1.size h2.size, fun i hi hne => (h2.block i (Nat.lt_of_lt_of_le hi h1.size) hne).trans (h1.block i hi hne)⟩
theorem file_zero_one (j : Nat) : Value.oneCell' ((Value.agg #[.string ⟨#[]⟩, .slice none 0 0]).cells[j % (Value.agg #[.string ⟨#[]⟩, .slice none 0 0]).cells.size]!) = true := by
  rw [show (Value.agg #[.string ⟨#[]⟩, .slice none 0 0]).cells.size = 2 from rfl]
  rcases Nat.mod_two_eq_zero_or_one j with e | e <;> rw [e] <;> rfl
theorem delete_cells {L xs X : List Value} {n i m : Nat} (hm : m = i + (n - (i + 1))) (hX : X = xs.drop ((i + 1) * 2)) (hx : xs.length = n * 2) (hi : i < n) {ys : List Value} (hL : L = splice xs (i * 2) X) (hy : ys.take (m * 2) = L.take (m * 2)) : ys.take (m * 2) = xs.take (i * 2) ++ xs.drop ((i + 1) * 2) := by
  rw [hy, hL]
  unfold splice
  rw [← List.append_assoc, List.take_append_of_le_length, List.take_of_length_le, hX]
  · rw [List.length_append, List.length_take, hX, List.length_drop, hx]; omega
  · rw [List.length_append, List.length_take, hX, List.length_drop, hx]; omega

set_option maxRecDepth 100000 in
set_option maxHeartbeats 4000000 in
theorem Delete (g n i base : Nat) (xs : List Value) (w : World) (hn : n ≤ 3518437208800) (hi : i < n) (hrow : w.ownsRow base 66 2 (.slice (some ⟨g, 0, none⟩) n n) n xs) (h1x : ∀ u ∈ xs, u.oneCell' = true) :
    Calls Try.prog 108 #[.slice (some ⟨g, 0, none⟩) n n, .int .i64 (i : Int), .int .i64 ((i : Int) + 1)] w (DeleteEnd w base g n i xs) := by
  obtain ⟨i0, hi0, hz0, hz1, hz2⟩ := info_parts info_file
  have hxl := hrow.1
  obtain ⟨X, hX⟩ : ∃ X, X = xs.drop ((i + 1) * 2) := ⟨_, rfl⟩
  have hXl : X.length = (n - (i + 1)) * 2 := by rw [hX, List.length_drop, hxl]; omega
  have hX1 : ∀ u ∈ X, u.oneCell' = true := fun u hu => h1x u (by rw [hX] at hu; exact List.mem_of_mem_drop hu)
  have hrowd : w.drew.ownsRow base 66 2 (.slice (some ⟨g, 0, none⟩) n n) n xs := hrow
  have hsrc : ∀ j u, X[j]? = some u → w.drew.cell? ((⟨g, (i + 1) * 2, none⟩ : Addr).add j) = some u := fun j u hu => by
    rw [hX, List.getElem?_drop] at hu
    have e1 : (⟨g, (i + 1) * 2, none⟩ : Addr).add j = (⟨g, 0, none⟩ : Addr).add ((i + 1) * 2 + j) := by rw [Addr.add_lit, Addr.add_lit, Nat.zero_add]
    rw [e1]
    exact hrow.cells rfl _ u hu
  have hsrc2 : n = i + 1 → ∀ j u, X[j]? = some u → w.drew.cell? ((⟨g, 0, none⟩ : Addr).add j) = some u := fun e j u hu => by
    have : X = [] := List.eq_nil_of_length_eq_zero (by rw [hXl, e]; omega)
    rw [this] at hu; simp at hu
  obtain ⟨L, hL⟩ : ∃ L, L = splice xs (i * 2) X := ⟨_, rfl⟩
  have hdc := fun ys (h : ys.take ((i + (n - (i + 1))) * 2) = L.take ((i + (n - (i + 1))) * 2)) => delete_cells (ys := ys) rfl hX hxl hi hL h
  have HD := Lib.hid hdc; have HX1 := Lib.hid hX1; have HXL := Lib.hid hXl; have HROW := Lib.hid hrowd; have HS := Lib.hid hsrc; have HS2 := Lib.hid hsrc2; have HL := Lib.hid hL; have HZ0 := Lib.hid hz0; have HZ1 := Lib.hid hz1
  clear hdc hX1 hXl hrow hrowd hsrc hsrc2 hL hX h1x hxl hz0 hz1 hz2
  have hw1 : IntKind.i64.wrap ((i : Int) + 1) = (i : Int) + 1 := IntWalk.i64_in _ (by omega)
  have hb1 : (0 : Int) ≤ (i : Int) + 1 := by omega
  have hb2 : (i : Int) + 1 ≤ (n : Int) := by omega
  have hb3 : (i : Int) ≤ (i : Int) + 1 := by omega
  have htn : ((i : Int) + 1).toNat = i + 1 := by omega
  have hni : ¬ (i : Int) = (i : Int) + 1 := by omega
  have hin : i ≤ n := by omega
  have hki : i + (n - (i + 1)) ≤ n := by omega
  have hko : n - (i + (n - (i + 1))) = 1 := by omega
  have hne : ¬ n = i + (n - (i + 1)) := by omega
  rcases Classical.em (n = i + 1) with hc | hc
  · have e0 : n - (i + 1) = 0 := by omega
    rw [e0, Nat.add_zero] at HD hki hko hne
    rw [e0] at HXL
    have HE : Hid (∀ e w', DeleteEnd w base g n i xs e w' = (e = .returned (.slice (some ⟨g, 0, none⟩) i n) ∧ w'.ownsRow base 66 2 (.slice (some ⟨g, 0, none⟩) i n) i (xs.take (i * 2) ++ xs.drop ((i + 1) * 2)) ∧ w.grownBy w' (some g))) := Lib.hid (fun e w' => by unfold DeleteEnd; rw [e0, Nat.add_zero])
    have HS3 := Lib.hid (HS2.out hc)
    clear e0
    subst hc
    go_enter Try.func108, Try.ntmps108
    go_wp2_with fail
    go_region_law (refine step_append_own_room rfl _ _ _ rfl 66 i0 base 2 g (i + 1) (i + 1) i 0 0 ⟨g, 0, none⟩ xs X Try.underlying39 hi0 HZ1.out (by simp [Act.eval, Act.put]) (by simp [Act.eval, Act.put]) HROW.out HXL.out HS3.out HX1.out hin (Nat.le_refl _) ?_; intro W1 ho1 hg1; have HO1 := Lib.hid ho1; have HG1 := Lib.hid hg1; clear ho1 hg1)
    rw [← HL.out] at HO1
    clear hw1 hb1 hb2 hb3 htn
    go_wp2_with (refine wpList_clear_own (o := ⟨none, _, _, _, _, _⟩) rfl _ _ rfl 66 i0 _ base 2 g (i * 2) (i + 1) (i + 1) 1 _ L Try.underlying39 hi0 HZ0.out rfl file_zero_one (by omega) rfl HO1.out (by omega) ?_; intro W2 ys ho2 hy2 hg2; have HO2 := Lib.hid ho2; have HY2 := Lib.hid hy2; have HG2 := Lib.hid hg2; clear ho2 hy2 hg2)
    go_ret
    rw [HE.out]
    refine ⟨rfl, ?_, gr_two (gr_of_drewN (d := 1) HG1.out) HG2.out⟩
    rw [← HD.out ys HY2.out]
    exact own_less HO2.out (by omega)
  · go_enter Try.func108, Try.ntmps108
    go_wp2_with fail
    go_region_law (refine step_append_own_room rfl _ _ _ rfl 66 i0 base 2 g n n i (n - (i + 1)) (n - (i + 1)) ⟨g, (i + 1) * 2, none⟩ xs X Try.underlying39 hi0 HZ1.out (by simp [Act.eval, Act.put]) (by simp [Act.eval, Act.put]) HROW.out HXL.out HS.out HX1.out hki (Nat.le_refl _) ?_; intro W1 ho1 hg1; have HO1 := Lib.hid ho1; have HG1 := Lib.hid hg1; clear ho1 hg1)
    rw [← HL.out] at HO1
    clear hw1 hb1 hb2 hb3 htn
    go_wp2_with (refine wpList_clear_own (o := ⟨none, _, _, _, _, _⟩) rfl _ _ rfl 66 i0 _ base 2 g ((i + (n - (i + 1))) * 2) n n _ _ L Try.underlying39 hi0 HZ0.out rfl file_zero_one (by omega) rfl HO1.out (by omega) ?_; intro W2 ys ho2 hy2 hg2; have HO2 := Lib.hid ho2; have HY2 := Lib.hid hy2; have HG2 := Lib.hid hg2; clear ho2 hy2 hg2)
    go_ret
    refine ⟨rfl, ?_, gr_two (gr_of_drewN (d := 1) HG1.out) HG2.out⟩
    rw [← HD.out ys HY2.out]
    exact own_less HO2.out (by omega)

end Tr
end Go.Proofs.Ytbiiabfhngdeiaa
