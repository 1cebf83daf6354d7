/-
  Words and contracts, joined: PrLaw PrCall.
-/
import Derived.Test.YtbiiabfhngdeiaaPrMay
import Derived.Test.YtbiiabfhngdeiaaGR
import Derived.Test.YtbiiabfhngdeiaaPrTurn
import Derived.Test.YtbiiabfhngdeiaaPrApply
import Derived.Test.YtbiiabfhngdeiaaGU
import Derived.Test.YtbiiabfhngdeiaaGT
import Derived.Deep.RegionHeld3
set_option maxRecDepth 100000
namespace Go.Proofs.Ytbiiabfhngdeiaa
open Go.RowKit
set_option linter.unusedVariables false
namespace Pr
open Tx Df Sq Hk Tr

/-- How a call of Apply ends: the error r, the tree P of k files. -/
def ADEnd (w : World) (r : Int) (P : TR) (k : Nat) (e : Ending) (w' : World) : Prop :=
  ∃ A c, e = .returned (.tuple #[.slice A k c, .int .i64 r]) ∧ k ≤ c ∧ RdT w' w'.heap.size A P ∧ Below w.heap.size w w'
theorem adEnd {w : World} {D : Int × TR} {r : Int} {P : TR} {k : Nat} {e : Ending} {w' : World} (h : DoEnd w D e w') (hD : D = (r, P)) (hk : P.length = k) : ADEnd w r P k e w' := by
  subst hD hk
  obtain ⟨A, k, c, rfl, hc, rfl, hR, hb⟩ := h
  exact ⟨A, c, rfl, hc, hR, hb⟩

section
variable {A0 A A' D D' : Option Addr} {n0 c0 n c n' c' m e m' e' : Nat} {t P : TR} {p q p2 : Ch} {w : World} {b : Bool} {k : Nat} {r : Int}
theorem ApplyC (hs : Wide t) (hn0 : t.length = n0) (hR : RdT w w.heap.size A0 t) (hv : PV w w.heap.size A n c A' n' c' p) (hD : doP t p = (r, P)) (hk : P.length = k) :
    Calls Try.prog 48 #[.slice A0 n0 c0, prV p.k p.nm p.to p.h.pos A n c A' n' c'] w (ADEnd w r P k) :=
  (ApplyP A0 n0 c0 A n c A' n' c' t p w hs hn0 hR hv).mono fun e w' h => adEnd h hD hk
end

theorem PV.len {w : World} {B : Nat} {A A' : Option Addr} {n c n' c' : Nat} {p : Ch} (h : PV w B A n c A' n' c' p) (hp : lightP p = true) : n ≤ 1000 ∧ n' ≤ 1000 := by
  have := lightP_h hp
  rw [h.h.l, h.h.l'] at this
  omega

theorem lineL_small {t : TR} {p : Ch} {l : List (List UInt8)} (hl : lightT t = true) (hp : lightP p = true) (hg : get t p.nm = some l) : SmallL (lineL l p) := by
  have h1 := lightT_get hl hg
  have h2 := lightP_h hp
  have h3 := (lightT_small hl).2.all _ (get_mem hg)
  have h4 : ∀ x ∈ p.h.new, x.length ≤ 100000 := fun x hx => by
    simp only [lightP, light, Bool.and_eq_true, decide_eq_true_eq, List.all_eq_true] at hp
    have := hp.1.2.2 x hx
    omega
  unfold lineL
  split
  · refine ⟨Nat.le_trans applyL_len (by omega), fun x hx => ?_⟩
    unfold applyL at hx
    split at hx
    · simp only [swp, List.mem_append] at hx
      rcases hx with hx | hx | hx
      · exact h3.s x (List.mem_of_mem_take hx)
      · exact h4 x hx
      · exact h3.s x (List.mem_of_mem_drop hx)
    · cases hx
  · exact ⟨by omega, h4⟩
theorem doP_small {t u : TR} {p : Ch} {r : Int} (hl : lightT t = true) (hp : lightP p = true) (h : doP t p = (r, u)) : Small u ∧ u.length ≤ 41 := by
  obtain ⟨h40, hs⟩ := lightT_small hl
  have hnm : p.nm.length ≤ 100000 ∧ p.to.length ≤ 100000 := by
    simp only [lightP, Bool.and_eq_true, decide_eq_true_eq] at hp
    omega
  by_cases h0 : r = 0
  · subst h0
    obtain ⟨_, h⟩ := doP_cases h
    rcases h with ⟨_, _, rfl⟩ | ⟨_, _, rfl⟩ | ⟨_, l, hg, _, rfl⟩ | ⟨_, l, hg, _, rfl⟩
    · exact small_put hs h40 (by decide) hnm.1 ⟨Nat.zero_le _, fun x hx => by cases hx⟩
    · have := small_del (s := p.nm) hs h40
      exact ⟨this.1, by omega⟩
    · have h1 := small_del (s := p.nm) hs h40
      have h2 := hs.all _ (get_mem hg)
      exact small_put h1.1 h1.2 (by decide) hnm.2 ⟨h2.l, h2.s⟩
    · exact small_put hs h40 (by decide) hnm.1 (lineL_small hl hp hg)
  · have h1 := doP_none (t := t) (p := p) (by rw [h]; exact h0)
    rw [h] at h1
    dsimp only at h1
    subst h1
    exact ⟨⟨by simp, fun x hx => by cases hx⟩, by simp⟩

theorem nil_rdT (w : World) : RdT w w.heap.size none [] := .inl rfl
theorem ex_v1 (w : World) : PV w w.heap.size none 0 0 none 0 0 ⟨0, [97], [], ⟨0, [], []⟩⟩ :=
  ⟨⟨rfl, rfl, Nat.le_refl _, Nat.le_refl _, by decide, by decide, .inl rfl, .inl rfl, (by unfold I64; decide)⟩, (by unfold I64; decide), by decide, by decide, fun x hx => (by cases hx), fun x hx => (by cases hx)⟩
theorem ex_do1 : doP [] ⟨0, [97], [], ⟨0, [], []⟩⟩ = (0, [([97], [])]) := by decide
theorem ex_do2 : doP [([97], [])] ⟨3, [97], [], ⟨0, [], [[120]]⟩⟩ = (0, [([97], [[120]])]) := by decide
theorem ex_wide1 : Wide [] := ⟨by simp, fun x hx => by cases hx⟩
theorem ex_wide2 : Wide [([97], [])] := ⟨by simp, fun x hx => by simp at hx; subst hx; simp⟩

end Pr
end Go.Proofs.Ytbiiabfhngdeiaa

namespace Go.Proofs.Ytbiiabfhngdeiaa
open Go.RowKit
set_option linter.unusedVariables false
namespace Pr
open Tx Df Sq Hk Tr

theorem turn_len {A A' : Option Addr} {n c n' c' B : Nat} {p : Ch} {w : World} (h : n ≤ 1000 ∧ n' ≤ 1000) (hv : PV w B A n c A' n' c' p) {m m' : Nat} (h1 : (turnP p).h.old.length = m) (h2 : (turnP p).h.new.length = m') : m ≤ 1000 ∧ m' ≤ 1000 := by
  have l := hv.h.l
  have l' := hv.h.l'
  by_cases k0 : p.k = 0
  · rw [turnP_0 k0] at h1 h2; dsimp only at h1 h2; omega
  by_cases k1 : p.k = 1
  · rw [turnP_1 k1] at h1 h2; dsimp only at h1 h2; omega
  by_cases k2 : p.k = 2
  · rw [turnP_2 k2] at h1 h2; dsimp only at h1 h2; omega
  rw [turnP_h k0 k1 k2] at h1 h2
  have e1 : (turn p.h).old = p.h.new := rfl
  have e2 : (turn p.h).new = p.h.old := rfl
  dsimp only at h1 h2
  rw [e1] at h1
  rw [e2] at h2
  omega
end Pr
end Go.Proofs.Ytbiiabfhngdeiaa
