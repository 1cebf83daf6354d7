/-
  Words for the statements of layer 9: what a tree, and what a change, is at most once changes are done. No program is walked.
-/
import Derived.Test.YtbiiabfhngdeiaaGV
import Derived.Test.YtbiiabfhngdeiaaGZ
set_option maxRecDepth 100000
namespace Go.Proofs.Ytbiiabfhngdeiaa
open Go.RowKit
set_option linter.unusedVariables false
namespace Pr
open Tx Df Sq Hk Tr

theorem way_light {p q x y : Ch} (w : Way p q x y) (hp : lightP p = true) (hq : lightP q = true) : lightP x = true ∧ lightP y = true := by
  have hk := way_kinds w
  have split : ∀ {r : Ch}, lightP r = true ↔ (light r.h.old 300 && light r.h.new 300) = true ∧ r.nm.length ≤ 100 ∧ r.to.length ≤ 100 := by
    intro r
    unfold lightP
    simp only [Bool.and_eq_true, decide_eq_true_eq]
  rw [split] at hp hq ⊢
  rw [split]
  rw [hk.1.2.2.1, hk.1.2.2.2, hk.1.2.1, hk.2.2.2.1, hk.2.2.2.2, hk.2.2.1]
  cases w with
  | apart h => exact ⟨hq, hp⟩
  | both kp kq hn u v h => exact ⟨hq, hp⟩
  | out kp kq hn => exact ⟨⟨hq.1, hp.2.1, hq.2.2⟩, hp⟩
  | into kq kp hn => exact ⟨hq, hp.1, hq.2.2, hp.2.2⟩

/-- A tree of at most k files of at most l lines. -/
structure Most (t : TR) (k l : Nat) : Prop where
  s : Small t
  k : t.length ≤ k
  l : ∀ x ∈ t, x.2.length ≤ l
theorem applyL_300 {l : List (List UInt8)} {p : Ch} (hp : lightP p = true) : (lineL l p).length ≤ l.length + 300 ∧ ∀ x ∈ lineL l p, x ∈ l ∨ x.length ≤ 100000 := by
  have h2 := lightP_h hp
  have h4 : ∀ x ∈ p.h.new, x.length ≤ 100000 := fun x hx => by
    simp only [lightP, light, Bool.and_eq_true, decide_eq_true_eq, List.all_eq_true] at hp
    have := hp.1.2.2 x hx
    omega
  unfold lineL
  split
  · refine ⟨Nat.le_trans applyL_len (by omega), fun x hx => ?_⟩
    unfold applyL at hx
    split at hx
    · simp only [swp, List.mem_append] at hx
      rcases hx with hx | hx | hx
      · exact .inl (List.mem_of_mem_take hx)
      · exact .inr (h4 x hx)
      · exact .inl (List.mem_of_mem_drop hx)
    · cases hx
  · exact ⟨by omega, fun x hx => .inr (h4 x hx)⟩
theorem Most.put {t : TR} {k l : Nat} {s : List UInt8} {ls : List (List UInt8)} (h : Most t k l) (hk : k + 1 ≤ 100000) (hs : s.length ≤ 100000) (hl : SmallL ls) (hll : ls.length ≤ l) : Most (put lt t s ls) (k + 1) l := by
  obtain ⟨h1, h2⟩ := small_put h.s h.k hk hs hl
  refine ⟨h1, h2, fun x hx => ?_⟩
  rcases put_mem hx with rfl | hx
  · exact hll
  · exact h.l x hx
theorem Most.del {t : TR} {k l : Nat} {s : List UInt8} (h : Most t k l) : Most (del t s) k l := by
  obtain ⟨h1, h2⟩ := small_del (s := s) h.s h.k
  exact ⟨h1, h2, fun x hx => h.l x ((del_sub t s).subset hx)⟩
theorem Most.mono {t : TR} {k l k' l' : Nat} (h : Most t k l) (hk : k ≤ k') (hl : l ≤ l') : Most t k' l' := ⟨h.s, Nat.le_trans h.k hk, fun x hx => Nat.le_trans (h.l x hx) hl⟩
theorem Most.do {t u : TR} {p : Ch} {r : Int} {k l : Nat} (h : Most t k l) (hk : k + 1 ≤ 100000) (hl : l + 300 ≤ 100000) (hp : lightP p = true) (hd : doP t p = (r, u)) : Most u (k + 1) (l + 300) := by
  have hnm : p.nm.length ≤ 100000 ∧ p.to.length ≤ 100000 := by
    simp only [lightP, Bool.and_eq_true, decide_eq_true_eq] at hp
    omega
  by_cases h0 : r = 0
  · subst h0
    obtain ⟨_, hd⟩ := doP_cases hd
    rcases hd with ⟨_, _, rfl⟩ | ⟨_, _, rfl⟩ | ⟨_, ls, hg, _, rfl⟩ | ⟨_, ls, hg, _, rfl⟩
    · exact (h.mono (Nat.le_refl _) (Nat.le_add_right _ _)).put hk hnm.1 ⟨Nat.zero_le _, fun x hx => by cases hx⟩ (Nat.zero_le _)
    · exact h.del.mono (Nat.le_succ _) (Nat.le_add_right _ _)
    · have h2 := h.s.all _ (get_mem hg)
      exact (h.del.mono (Nat.le_refl _) (Nat.le_add_right _ _)).put hk hnm.2 ⟨h2.l, h2.s⟩ (Nat.le_trans (h.l _ (get_mem hg)) (Nat.le_add_right _ _))
    · have h2 := h.s.all _ (get_mem hg)
      have h3 := h.l _ (get_mem hg)
      obtain ⟨a1, a2⟩ := applyL_300 (l := ls) hp
      dsimp only at h3
      exact (h.mono (Nat.le_refl _) (Nat.le_add_right _ _)).put hk hnm.1 ⟨by omega, fun x hx => (a2 x hx).elim (fun h => h2.s x h) id⟩ (by omega)
  · have h1 := doP_none (t := t) (p := p) (by rw [hd]; exact h0)
    rw [hd] at h1
    dsimp only at h1
    subst h1
    exact ⟨⟨by simp, fun x hx => by cases hx⟩, Nat.zero_le _, fun x hx => by cases hx⟩
theorem most_light {t : TR} (hl : lightT t = true) : Most t 40 300 := by
  obtain ⟨h40, hs⟩ := lightT_small hl
  refine ⟨hs, h40, fun x hx => ?_⟩
  simp only [lightT, Bool.and_eq_true, decide_eq_true_eq, List.all_eq_true] at hl
  have := hl.2 x hx
  simp only [light, Bool.and_eq_true, decide_eq_true_eq] at this
  omega
theorem grown {t u : TR} {p : Ch} {r : Int} (hl : lightT t = true) (hp : lightP p = true) (hd : doP t p = (r, u)) : Most u 41 600 := (most_light hl).do (by decide) (by decide) hp hd
theorem grown2 {u v : TR} {q : Ch} {r : Int} (h : Most u 41 600) (hq : lightP q = true) (hd : doP u q = (r, v)) : Small v := (h.do (by decide) (by decide) hq hd).s

end Pr
end Go.Proofs.Ytbiiabfhngdeiaa
