/-
  Plain words for layer 10's walks: the steps of passing a list, and of two lists; light changes stay light. No program is walked.
-/
import Derived.Test.YtbiiabfhngdeiaaFlRef
set_option maxRecDepth 100000
namespace Go.Proofs.Ytbiiabfhngdeiaa
open Go.RowKit
set_option linter.unusedVariables false
namespace Fl
open Tx Df Sq Hk Tr Pr

section
variable {α : Type} (P : α → α → Option (α × α))
theorem one_none_app {a b : List α} {q : α} (h : one P b q = none) : one P (a ++ b) q = none := by rw [one_app, h]; rfl
theorem one_step {l post : List α} {k : Nat} {p q q1 x y : α} (hx : l[k]? = some p) (h : one P (l.drop (k + 1)) q = some (q1, post)) (h1 : P p q1 = some (x, y)) : one P (l.drop k) q = some (x, y :: post) := by
  rw [drop_at hx]; exact one_cons P h h1
theorem one_step_none {l post : List α} {k : Nat} {p q q1 : α} (hx : l[k]? = some p) (h : one P (l.drop (k + 1)) q = some (q1, post)) (h1 : P p q1 = none) : one P l q = none := by
  have h2 : one P (l.drop k) q = none := by rw [drop_at hx, one, h, Option.bind_some, h1]; rfl
  rw [← List.take_append_drop k l]
  exact one_none_app P h2
theorem passL_step {a b x cur a1 : List α} {k : Nat} {q q1 : α} (h : passL P a (b.take k) = some (x, cur)) (hx : b[k]? = some q) (h1 : one P cur q = some (q1, a1)) : passL P a (b.take (k + 1)) = some (x ++ [q1], a1) := by
  rw [take_at hx, passL_app2, h, Option.bind_some, passL_cons P h1 (passL_nil P a1)]; rfl
theorem passL_step_none {a b x cur : List α} {k : Nat} {q : α} (h : passL P a (b.take k) = some (x, cur)) (hx : b[k]? = some q) (h1 : one P cur q = none) : passL P a b = none := by
  rw [← List.take_append_drop k b, passL_app2, h, Option.bind_some, drop_at hx, passL, h1]; rfl
theorem one_all {Q : α → Prop} (hP : ∀ {p q x y}, P p q = some (x, y) → Q p → Q q → Q x ∧ Q y) : ∀ {a : List α} {q x : α} {y : List α}, one P a q = some (x, y) → (∀ z ∈ a, Q z) → Q q → Q x ∧ ∀ z ∈ y, Q z
  | [], q, x, y, h, ha, hq => by
    injection h with h
    injection h with h1 h2
    subst h1 h2
    exact ⟨hq, ha⟩
  | p :: a, q, x, y, h, ha, hq => by
    obtain ⟨q1, a1, z, h1, h2, rfl⟩ := one_cons_inv P h
    obtain ⟨i1, i2⟩ := one_all hP h1 (fun z hz => ha z (.tail _ hz)) hq
    obtain ⟨j1, j2⟩ := hP h2 (ha p (.head _)) i1
    exact ⟨j1, fun u hu => by
      cases hu with
      | head => exact j2
      | tail _ h => exact i2 u h⟩
theorem passL_all {Q : α → Prop} (hP : ∀ {p q x y}, P p q = some (x, y) → Q p → Q q → Q x ∧ Q y) : ∀ {b a x y : List α}, passL P a b = some (x, y) → (∀ z ∈ a, Q z) → (∀ z ∈ b, Q z) → (∀ z ∈ x, Q z) ∧ ∀ z ∈ y, Q z
  | [], a, x, y, h, ha, hb => by
    rw [passL_nil] at h
    injection h with h
    injection h with h1 h2
    subst h1 h2
    exact ⟨hb, ha⟩
  | q :: b, a, x, y, h, ha, hb => by
    obtain ⟨q1, a1, b1, h1, h2, rfl⟩ := passL_cons_inv P h
    obtain ⟨i1, i2⟩ := one_all P hP h1 ha (hb q (.head _))
    obtain ⟨j1, j2⟩ := passL_all hP h2 i2 (fun z hz => hb z (.tail _ hz))
    exact ⟨fun u hu => by
      cases hu with
      | head => exact i1
      | tail _ h => exact j1 u h, j2⟩
end

/-- Light changes. -/
def Lt (l : List Ch) : Prop := ∀ x ∈ l, lightP x = true
theorem passP_lt {p q x y : Ch} (h : passP p q = some (x, y)) (hp : lightP p = true) (hq : lightP q = true) : lightP x = true ∧ lightP y = true := way_light (passP_way h).2.2 hp hq
theorem one_lt {a y : List Ch} {q x : Ch} (h : one passP a q = some (x, y)) (ha : Lt a) (hq : lightP q = true) : lightP x = true ∧ Lt y := one_all passP passP_lt h ha hq
theorem passF_lt {a b x y : List Ch} (h : passF a b = some (x, y)) (ha : Lt a) (hb : Lt b) : Lt x ∧ Lt y := passL_all passP passP_lt h ha hb
theorem lt_nil : Lt [] := fun x hx => by cases hx
theorem Lt.app {a b : List Ch} (ha : Lt a) (hb : Lt b) : Lt (a ++ b) := fun x hx => (List.mem_append.1 hx).elim (ha x) (hb x)
theorem Lt.tail {a : Ch} {l : List Ch} (h : Lt (a :: l)) : Lt l := fun x hx => h x (.tail _ hx)
theorem turnP_lt {p : Ch} (h : lightP p = true) : lightP (turnP p) = true := by
  unfold lightP at h ⊢
  simp only [Bool.and_eq_true, decide_eq_true_eq] at h ⊢
  by_cases h0 : p.k = 0
  · rw [turnP_0 h0]; exact h
  by_cases h1 : p.k = 1
  · rw [turnP_1 h1]; exact h
  by_cases h2 : p.k = 2
  · rw [turnP_2 h2]; exact ⟨h.1, h.2.2, h.2.1⟩
  rw [turnP_h h0 h1 h2]; exact ⟨⟨h.1.2, h.1.1⟩, h.2⟩
theorem Lt.turn {l : List Ch} (h : Lt l) : Lt (turnF l) := fun x hx => by
  unfold turnF at hx
  rw [List.mem_reverse, List.mem_map] at hx
  obtain ⟨p, hp, rfl⟩ := hx
  exact turnP_lt (h p hp)
theorem fewP_lt {l : List Ch} {most : Nat} (h : fewP l most = true) : Lt l := fun x hx => by
  unfold fewP okP at h
  simp only [Bool.and_eq_true, List.all_eq_true] at h
  exact (h.2 x hx).1
theorem fewP_len {l : List Ch} {most : Nat} (h : fewP l most = true) : l.length ≤ most := by
  unfold fewP at h
  simp only [Bool.and_eq_true, decide_eq_true_eq] at h
  exact h.1
theorem lt_len {W : World} {S : Nat → Prop} {A B : Option Addr} {n c m d : Nat} {p : Ch} (h : PG W S A n c B m d p) (hp : lightP p = true) : n ≤ 1000 ∧ m ≤ 1000 := by
  obtain ⟨h1, h2⟩ := lightP_h hp
  rw [h.l] at h1
  rw [h.l'] at h2
  omega

end Fl
end Go.Proofs.Ytbiiabfhngdeiaa
