/-
  Words for the statements of layer 10: what lists of light changes become, and how trees grow by them. No function of the program is walked here.
-/
import Derived.Test.YtbiiabfhngdeiaaFlWords
import Derived.Test.YtbiiabfhngdeiaaPsGrow
set_option maxRecDepth 100000
namespace Go.Proofs.Ytbiiabfhngdeiaa
open Go.RowKit
set_option linter.unusedVariables false
namespace Fl
open Tx Df Sq Hk Tr Pr

/-- What is told of a Pass, whether they pass or not: light changes, not more than were there. -/
theorem outF_good {a b x y : List Ch} (h : outF (passF a b) = (x, y)) (ha : Lt a) (hb : Lt b) : Lt x ∧ Lt y ∧ x.length ≤ b.length ∧ y.length ≤ a.length := by
  cases hp : passF a b with
  | none =>
    rw [hp] at h
    injection h with h1 h2
    subst h1 h2
    exact ⟨lt_nil, lt_nil, Nat.zero_le _, Nat.zero_le _⟩
  | some z =>
    obtain ⟨x', y'⟩ := z
    rw [hp] at h
    injection h with h1 h2
    subst h1 h2
    obtain ⟨l1, l2⟩ := passF_lt hp ha hb
    obtain ⟨n1, n2⟩ := passL_len passP hp
    exact ⟨l1, l2, Nat.le_of_eq n1, Nat.le_of_eq n2⟩

/-- How a tree grows by changes. -/
theorem mostF : ∀ {l : List Ch} {t u : TR} {K L : Nat}, Most t K L → K + l.length ≤ 99990 → L + 300 * l.length ≤ 99000 → Lt l → doF t l = (0, u) → Most u (K + l.length) (L + 300 * l.length)
  | [], t, u, K, L, h, _, _, _, hd => by injection hd with _ hd; subst hd; exact h
  | p :: l, t, u, K, L, h, hK, hL, hl, hd => by
    rw [List.length_cons] at hK hL ⊢
    by_cases h0 : (doP t p).1 = 0
    · have e : doP t p = (0, (doP t p).2) := Prod.ext h0 rfl
      rw [doF_cons_ok e] at hd
      have h1 := h.do (by omega) (by omega) (hl p (.head _)) e
      have h2 := mostF h1 (by omega) (by omega) hl.tail hd
      exact h2.mono (by omega) (by omega)
    · rw [doF_cons_no h0] at hd
      injection hd with hd _
      exact absurd hd h0
theorem doF_no {t u : TR} {l : List Ch} {r : Int} (h : doF t l = (r, u)) (h0 : r ≠ 0) : u = [] := by
  have := doF_none (a := l) (t := t) (by rw [h]; exact h0)
  rw [h] at this
  exact this

theorem smallF {l : List Ch} {t u : TR} {K L : Nat} {r : Int} (h : Most t K L) (hK : K + l.length ≤ 99990) (hL : L + 300 * l.length ≤ 99000) (hl : Lt l) (hd : doF t l = (r, u)) : Small u := by
  by_cases h0 : r = 0
  · subst h0
    exact (mostF h hK hL hl hd).s
  · have := doF_no hd h0
    subst this
    exact ⟨by decide, fun x hx => by cases hx⟩

/-- A list passes two lists as it passes their joint; two pass it so. -/
theorem parts1 {a b c c1 ab1 c2 b2 c3 a3 : List Ch} (h : outF (passF (a ++ b) c) = (c1, ab1)) (h1 : outF (passF b c) = (c2, b2)) (h2 : outF (passF a c2) = (c3, a3)) :
    (passF (a ++ b) c).isSome = ((passF b c).isSome && (passF a c2).isSome) ∧ ((passF (a ++ b) c).isSome = true → c1 = c3 ∧ ab1 = a3 ++ b2) := by
  have e : passF (a ++ b) c = _ := passL_app1 passP c a b
  cases hb : passF b c with
  | none =>
    rw [show passL passP b c = none from hb] at e
    rw [e]
    exact ⟨rfl, fun h => by cases h⟩
  | some z =>
    obtain ⟨c2', b2'⟩ := z
    rw [hb] at h1
    injection h1 with h3 h4
    subst h3 h4
    rw [show passL passP b c = some (c2', b2') from hb, Option.bind_some] at e
    cases ha : passF a c2' with
    | none =>
      rw [show passL passP a c2' = none from ha] at e
      rw [e]
      exact ⟨rfl, fun h => by cases h⟩
    | some y =>
      obtain ⟨c3', a3'⟩ := y
      rw [ha] at h2
      injection h2 with h5 h6
      subst h5 h6
      rw [show passL passP a c2' = some (c3', a3') from ha] at e
      rw [e] at h ⊢
      injection h with h7 h8
      subst h7 h8
      exact ⟨rfl, fun _ => ⟨rfl, rfl⟩⟩
theorem parts2 {a b c bc4 a4 b5 a5 c6 a6 : List Ch} (h : outF (passF a (b ++ c)) = (bc4, a4)) (h1 : outF (passF a b) = (b5, a5)) (h2 : outF (passF a5 c) = (c6, a6)) :
    (passF a (b ++ c)).isSome = ((passF a b).isSome && (passF a5 c).isSome) ∧ ((passF a (b ++ c)).isSome = true → bc4 = b5 ++ c6 ∧ a4 = a6) := by
  have e : passF a (b ++ c) = _ := passL_app2 passP b a c
  cases hb : passF a b with
  | none =>
    rw [show passL passP a b = none from hb] at e
    rw [e]
    exact ⟨rfl, fun h => by cases h⟩
  | some z =>
    obtain ⟨b5', a5'⟩ := z
    rw [hb] at h1
    injection h1 with h3 h4
    subst h3 h4
    rw [show passL passP a b = some (b5', a5') from hb, Option.bind_some] at e
    cases ha : passF a5' c with
    | none =>
      rw [show passL passP a5' c = none from ha] at e
      rw [e]
      exact ⟨rfl, fun h => by cases h⟩
    | some y =>
      obtain ⟨c6', a6'⟩ := y
      rw [ha] at h2
      injection h2 with h5 h6
      subst h5 h6
      rw [show passL passP a5' c = some (c6', a6') from ha] at e
      rw [e] at h ⊢
      injection h with h7 h8
      subst h7 h8
      exact ⟨rfl, fun _ => ⟨rfl, rfl⟩⟩
theorem passF_nil (a : List Ch) : passF a [] = some ([], a) := passL_nil passP a
theorem passF_none (b : List Ch) : passF [] b = some (b, []) := passL_none passP b

end Fl
end Go.Proofs.Ytbiiabfhngdeiaa
