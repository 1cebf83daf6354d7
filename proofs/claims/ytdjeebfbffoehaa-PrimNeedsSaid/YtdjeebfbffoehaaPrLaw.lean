/-
  Words for the statements of layer 8: calls, their results under names; what stays small; the chapter's example.
-/
import Derived.Test.YtdjeebfbffoehaaPrCode
import Derived.Test.YtdjeebfbffoehaaTrLaw
namespace Go.Proofs.Ytdjeebfbffoehaa
open Go.RowKit
set_option linter.unusedVariables false
namespace Pr
open Tx Df Sq Hk Tr

/-- How a call of Apply ends: the error r, the tree P of k files. -/
def ADEnd (w : World) (r : Int) (P : TR) (k : Nat) (e : Ending) (w' : World) : Prop :=
  ∃ A c, e = .returned (.tuple #[.slice A k c, .int .i64 r]) ∧ k ≤ c ∧ RdT w' w'.heap.size A P ∧ Below w.heap.size w w'
theorem adEnd {w : World} {D : Int × TR} {r : Int} {P : TR} {k : Nat} {e : Ending} {w' : World} (h : DoEnd w D e w') (hD : D = (r, P)) (hk : P.length = k) : ADEnd w r P k e w' := by
  subst hD hk
  obtain ⟨A, k, c, rfl, hc, rfl, hR, hb⟩ := h
  exact ⟨A, c, rfl, hc, hR, hb⟩

section
variable {A0 A A' D D' : Option Addr} {n0 c0 n c n' c' m e m' e' : Nat} {t P : TR} {p q p2 : Ch} {w : World} {b : Bool} {k : Nat} {r : Int}
theorem ApplyC (hs : Wide t) (hn0 : t.length = n0) (hR : RdT w w.heap.size A0 t) (hv : PV w w.heap.size A n c A' n' c' p) (hD : doP t p = (r, P)) (hk : P.length = k) :
    Calls Try.prog 12 #[.slice A0 n0 c0, prV p.k p.nm p.to p.h.pos A n c A' n' c'] w (ADEnd w r P k) :=
  (ApplyP A0 n0 c0 A n c A' n' c' t p w hs hn0 hR hv).mono fun e w' h => adEnd h hD hk
theorem refApplyC (hl : lightT t = true) (hp : lightP p = true) (hn0 : t.length = n0) (hR : RdT w w.heap.size A0 t) (hv : PV w w.heap.size A n c A' n' c' p) (hD : doP t p = (r, P)) (hk : P.length = k) :
    Calls Try.prog 13 #[.slice A0 n0 c0, prV p.k p.nm p.to p.h.pos A n c A' n' c'] w (ADEnd w r P k) :=
  (refApplyP A0 n0 c0 A n c A' n' c' t p w hl hn0 hp hR hv).mono fun e w' h => adEnd h hD hk
end

theorem PV.len {w : World} {B : Nat} {A A' : Option Addr} {n c n' c' : Nat} {p : Ch} (h : PV w B A n c A' n' c' p) (hp : lightP p = true) : n ≤ 1000 ∧ n' ≤ 1000 := by
  have := lightP_h hp
  rw [h.h.l, h.h.l'] at this
  omega

theorem lineL_small {t : TR} {p : Ch} {l : List (List UInt8)} (hl : lightT t = true) (hp : lightP p = true) (hg : get t p.nm = some l) : SmallL (lineL l p) := by
  have h1 := lightT_get hl hg
  have h2 := lightP_h hp
  have h3 := (lightT_small hl).2.all _ (get_mem hg)
  have h4 : ∀ x ∈ p.h.new, x.length ≤ 100000 := fun x hx => by
    simp only [lightP, light, Bool.and_eq_true, decide_eq_true_eq, List.all_eq_true] at hp
    have := hp.1.2.2 x hx
    omega
  unfold lineL
  split
  · refine ⟨Nat.le_trans applyL_len (by omega), fun x hx => ?_⟩
    unfold applyL at hx
    split at hx
    · simp only [swp, List.mem_append] at hx
      rcases hx with hx | hx | hx
      · exact h3.s x (List.mem_of_mem_take hx)
      · exact h4 x hx
      · exact h3.s x (List.mem_of_mem_drop hx)
    · cases hx
  · exact ⟨by omega, h4⟩
theorem doP_small {t u : TR} {p : Ch} {r : Int} (hl : lightT t = true) (hp : lightP p = true) (h : doP t p = (r, u)) : Small u ∧ u.length ≤ 41 := by
  obtain ⟨h40, hs⟩ := lightT_small hl
  have hnm : p.nm.length ≤ 100000 ∧ p.to.length ≤ 100000 := by
    simp only [lightP, Bool.and_eq_true, decide_eq_true_eq] at hp
    omega
  by_cases h0 : r = 0
  · subst h0
    obtain ⟨_, h⟩ := doP_cases h
    rcases h with ⟨_, _, rfl⟩ | ⟨_, _, rfl⟩ | ⟨_, l, hg, _, rfl⟩ | ⟨_, l, hg, _, rfl⟩
    · exact small_put hs h40 (by decide) hnm.1 ⟨Nat.zero_le _, fun x hx => by cases hx⟩
    · have := small_del (s := p.nm) hs h40
      exact ⟨this.1, by omega⟩
    · have h1 := small_del (s := p.nm) hs h40
      have h2 := hs.all _ (get_mem hg)
      exact small_put h1.1 h1.2 (by decide) hnm.2 ⟨h2.l, h2.s⟩
    · exact small_put hs h40 (by decide) hnm.1 (lineL_small hl hp hg)
  · have h1 := doP_none (t := t) (p := p) (by rw [h]; exact h0)
    rw [h] at h1
    dsimp only at h1
    subst h1
    exact ⟨⟨by simp, fun x hx => by cases hx⟩, by simp⟩

theorem nil_rdT (w : World) : RdT w w.heap.size none [] := .inl rfl
theorem ex_v1 (w : World) : PV w w.heap.size none 0 0 none 0 0 ⟨0, [97], [], ⟨0, [], []⟩⟩ :=
  ⟨⟨rfl, rfl, Nat.le_refl _, Nat.le_refl _, by decide, by decide, .inl rfl, .inl rfl, (by unfold I64; decide)⟩, (by unfold I64; decide), by decide, by decide, fun x hx => (by cases hx), fun x hx => (by cases hx)⟩
theorem ex_do1 : doP [] ⟨0, [97], [], ⟨0, [], []⟩⟩ = (0, [([97], [])]) := by decide
theorem ex_do2 : doP [([97], [])] ⟨3, [97], [], ⟨0, [], [[120]]⟩⟩ = (0, [([97], [[120]])]) := by decide
theorem ex_wide1 : Wide [] := ⟨by simp, fun x hx => by cases hx⟩
theorem ex_wide2 : Wide [([97], [])] := ⟨by simp, fun x hx => by simp at hx; subst hx; simp⟩

set_option maxRecDepth 100000 in
set_option maxHeartbeats 4000000 in
theorem awake (w : World) : Calls Try.prog 9 #[] w (BoolEnd w true) := by
  go_enter Try.func9, Try.ntmps9
  go_wp2_with fail
  refine (ApplyC (p := ⟨0, [97], [], ⟨0, [], []⟩⟩) (k := 1) ex_wide1 rfl (nil_rdT w) (ex_v1 w) ex_do1 rfl).mono ?_
  rintro e w1 ⟨A1, c1, rfl, hc1, hr1, hb1⟩
  have hb2 : Below w1.heap.size w1 (w1.alloc (.cells #[strV [120]] 9)) := (Below.refl _ _).alloc (Nat.le_refl _) _
  have hr0 : RdS (w1.alloc (.cells #[strV [120]] 9)) (w1.alloc (.cells #[strV [120]] 9)).heap.size (some ⟨w1.heap.size, 0, none⟩) [[120]] := by
    refine .inr ⟨_, rfl, by simp, fun j u hu => ?_⟩
    cases j with
    | zero =>
      cases hu
      rw [add_zero']
      exact (Blk.new w1 9 #[strV [120]]).cell 0 rfl
    | succ j => simp at hu
  have HB2 := Lib.hid (below_to hb1 hb2); have HR2 := Lib.hid (rdT_mv hr1 hb2)
  have HV2 : Hid (PV (w1.alloc (.cells #[strV [120]] 9)) (w1.alloc (.cells #[strV [120]] 9)).heap.size none 0 0 (some ⟨w1.heap.size, 0, none⟩) 1 1 ⟨3, [97], [], ⟨0, [], [[120]]⟩⟩) := Lib.hid
    ⟨⟨rfl, rfl, Nat.le_refl _, Nat.le_refl _, by decide, by decide, .inl rfl, hr0, (by unfold I64; decide)⟩, (by unfold I64; decide), by decide, by decide, fun x hx => (by cases hx), fun x hx => (by simp at hx; subst hx; decide)⟩
  clear hb1 hb2 hr0 hr1
  go_wp2_with fail
  refine (ApplyC (p := ⟨3, [97], [], ⟨0, [], [[120]]⟩⟩) (k := 1) ex_wide2 rfl HR2.out HV2.out ex_do2 rfl).mono ?_
  rintro e w3 ⟨A3, c3, rfl, hc3, hr3, hb3⟩
  have HB3 := Lib.hid (below_to HB2.out hb3)
  obtain ⟨a, rfl, _, hat⟩ := hr3.at_ (k := 0) (by decide)
  obtain ⟨_, A4, c4, x1, hc4, hr4⟩ := hat
  rw [Nat.zero_mul, add_zero'] at x1
  have hr4' : RdS w3 w3.heap.size A4 [[120]] := hr4
  obtain ⟨a4, rfl, x2⟩ := hr4'.at' (k := 0) (by decide)
  rw [add_zero'] at x2
  clear hb3 hr3 hr4 hr4' HB2 HR2 HV2
  have x1' : w3.cell? ⟨a.block, a.off + 1, none⟩ = some (.slice (some a4) 1 c4) := x1
  have x2' : w3.cell? a4 = some (strV [120]) := x2
  go_wp2
  go_ret
  exact ⟨rfl, HB3.out⟩

end Pr
end Go.Proofs.Ytdjeebfbffoehaa
