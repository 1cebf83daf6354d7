/-
  The example of chapter 7 (walk).
-/
import Derived.Test.YtcmpbglbmikkoaaTrPut
import Derived.Test.YtcmpbglbmikkoaaTrGet
import Derived.Test.YtcmpbglbmikkoaaTrMay
import Derived.Test.YtcmpbglbmikkoaaTrSame
import Derived.Test.YtcmpbglbmikkoaaTrNames
namespace Go.Proofs.Ytcmpbglbmikkoaa
open Go.RowKit
set_option linter.unusedVariables false
namespace Tr
open Tx

theorem ex_one : put Op.bytesLess ([] : TR) [98] [[120]] = ([([98], [[120]])] : TR) := rfl
theorem ex_two : put Op.bytesLess ([([98], [[120]])] : TR) [97] [] = ([([97], []), ([98], [[120]])] : TR) := by decide
theorem ex_get : get ([([97], []), ([98], [[120]])] : TR) [98] = some [[120]] := by decide
theorem ex_may : mayT [([97], []), ([98], [[120]])] = true := by decide
theorem ex_names : (names Op.bytesLess (([([97], []), ([98], [[120]])] : TR).map (·.1) ++ ([([97], []), ([98], [[120]])] : TR).map (·.1))).length = 2 := by decide
theorem ex_small1 : Small [] := ⟨by simp, fun x hx => by cases hx⟩
theorem ex_small2 : Small [([98], [[120]])] := ⟨by simp, fun x hx => by simp at hx; subst hx; exact ⟨by simp, by simp, fun l hl => by simp at hl; subst hl; simp⟩⟩
theorem ex_small3 : Small [([97], []), ([98], [[120]])] := ⟨by simp, fun x hx => by
  simp at hx
  rcases hx with rfl | rfl
  · exact ⟨by simp, by simp, fun l hl => by cases hl⟩
  · exact ⟨by simp, by simp, fun l hl => by simp at hl; subst hl; simp⟩⟩

theorem small_fit {t : TR} (h : Small t) : ∀ x ∈ t, x.1.length ≤ maxLen ∧ x.2.length ≤ maxLen := fun x hx => by
  have := h.all x hx
  exact ⟨Nat.le_trans this.n (by decide), Nat.le_trans this.l (by decide)⟩

set_option maxRecDepth 100000 in
set_option maxHeartbeats 4000000 in
theorem awake (w : World) : Calls Try.prog 9 #[] w (BoolEnd w true) := by
  have hb0 : Below w.heap.size w (w.alloc (.cells #[strV [120]] 9)) := (Below.refl _ _).alloc (Nat.le_refl _) _
  have hr0 : RdS (w.alloc (.cells #[strV [120]] 9)) (w.alloc (.cells #[strV [120]] 9)).heap.size (some ⟨w.heap.size, 0, none⟩) [[120]] := by
    refine .inr ⟨_, rfl, by simp, fun j u hu => ?_⟩
    cases j with
    | zero =>
      cases hu
      rw [add_zero']
      exact (Blk.new w 9 #[strV [120]]).cell 0 rfl
    | succ j => simp at hu
  have HB0 := Lib.hid hb0; have HR0 := Lib.hid hr0
  clear hb0 hr0
  go_enter Try.func9, Try.ntmps9
  go_wp2_with fail
  have hp1 := Put [98] none (some ⟨w.heap.size, 0, none⟩) 0 0 _ 1 1 [] [[120]] (w.alloc (.cells #[strV [120]] 9)) rfl ex_small1 rfl (by decide) (Nat.le_refl _) (.inl rfl) HR0.out
  rw [ex_one] at hp1
  refine hp1.mono ?_
  rintro e w1 ⟨A1, c1, rfl, hc1, hr1, hb1⟩
  clear hp1
  have HB1 := Lib.hid (HB0.out.trans (hb1.mono HB0.out.size)); have HR1 := Lib.hid hr1
  clear hr1 hb1
  go_wp2_with fail
  have hp2 := Put [97] A1 none c1 1 _ 0 0 [([98], [[120]])] [] w1 rfl ex_small2 rfl (by decide) (Nat.le_refl _) HR1.out (.inl rfl)
  rw [ex_two] at hp2
  refine hp2.mono ?_
  rintro e w2 ⟨A2, c2, rfl, hc2, hr2, hb2⟩
  clear hp2
  have HB2 := Lib.hid (HB1.out.trans (hb2.mono HB1.out.size)); have HR2 := Lib.hid hr2
  clear hr2 hb2
  go_wp2_with fail
  have hp3 := Get [98] A2 c2 2 _ [([97], []), ([98], [[120]])] w2 rfl ex_small3 (Nat.le_refl _) HR2.out
  rw [ex_get] at hp3
  refine hp3.mono ?_
  rintro e w3 ⟨A3, c3, rfl, hc3, hr3, hb3⟩
  clear hp3
  have HB3 := Lib.hid (HB2.out.trans (hb3.mono HB2.out.size)); have HR3 := Lib.hid ((HR2.out.below hb3).up hb3.size)
  clear hr3 hb3
  obtain ⟨a, rfl, _, hat⟩ := HR3.out.at_ (k := 0) (by decide)
  have x0 : w3.cell? a = some (strV [97]) := by have := hat.c0; rw [Nat.zero_mul, add_zero'] at this; exact this
  clear hat
  go_wp2_with fail
  have hp4 := May (some a) c2 2 _ [([97], []), ([98], [[120]])] w3 rfl (small_fit ex_small3) (Nat.le_refl _) HR3.out
  rw [ex_may] at hp4
  refine hp4.mono ?_
  rintro e w4 ⟨rfl, hb4⟩
  clear hp4
  have HB4 := Lib.hid (HB3.out.trans (hb4.mono HB3.out.size)); have HR4 := Lib.hid ((HR3.out.below hb4).up hb4.size)
  clear hb4
  go_wp2_with fail
  have hp5 := Same (some a) (some a) 2 c2 2 c2 _ [([97], []), ([98], [[120]])] [([97], []), ([98], [[120]])] w4 rfl rfl (by decide) (fun x hx => (small_fit ex_small3 x hx).2) (Nat.le_refl _) HR4.out HR4.out
  rw [decide_eq_true (rfl : ([([97], []), ([98], [[120]])] : TR) = _)] at hp5
  refine hp5.mono ?_
  rintro e w5 ⟨rfl, hb5⟩
  clear hp5
  have HB5 := Lib.hid (HB4.out.trans (hb5.mono HB4.out.size)); have HR5 := Lib.hid ((HR4.out.below hb5).up hb5.size)
  clear hb5
  go_wp2_with fail
  refine (Names (some a) (some a) 2 c2 2 c2 _ [([97], []), ([98], [[120]])] [([97], []), ([98], [[120]])] w5 rfl rfl ex_small3 ex_small3 (Nat.le_refl _) HR5.out HR5.out).mono ?_
  rintro e w6 ⟨A6, c6, he6, _, _, hb6⟩
  rw [ex_names] at he6
  subst he6
  have HB6 := Lib.hid (HB5.out.trans (hb6.mono HB5.out.size))
  clear hb6
  go_wp2
  go_ret
  exact ⟨rfl, HB6.out⟩

end Tr
end Go.Proofs.Ytcmpbglbmikkoaa
