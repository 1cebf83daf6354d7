/-
  Words for layer 15's statements: two patches in one slice; what few patches are. No function of the program is walked here.
-/
import Derived.Test.YtbiiabfhngdeiaaTgAwake
import Derived.Test.YtbiiabfhngdeiaaGQ
set_option maxRecDepth 100000
namespace Go.Proofs.Ytbiiabfhngdeiaa
open Go.RowKit
set_option linter.unusedVariables false
namespace Tg
open Tx Df Sq Hk Tr Pr Fl Pn

/-- Two patches in a block of their own are read as a list. -/
theorem rdN_two {W : World} {b : Nat} {D A D' A' : Option Addr} {dn dc n c dn' dc' n' c' : Nat} {p q : Nm} (h : Blk W b 28 #[.int .i64 p.id.1, .int .i64 p.id.2, .slice D dn dc, strV p.txt, .slice A n c, .int .i64 q.id.1, .int .i64 q.id.2, .slice D' dn' dc', strV q.txt, .slice A' n' c'])
    (hp : NV W W.heap.size D dn dc A n c p) (hq : NV W W.heap.size D' dn' dc' A' n' c' q) (hb : b < W.heap.size) : RdN W W.heap.size (some ⟨b, 0, none⟩) [p, q] :=
  .inr ⟨_, rfl, hb, fun k y hy => by
    have e0 : (⟨b, 0, none⟩ : Addr).add (0 * 5) = ⟨b, 0, none⟩ := rfl
    have e1 : (⟨b, 0, none⟩ : Addr).add (1 * 5) = ⟨b, 5, none⟩ := rfl
    match k, hy with
    | 0, hy =>
      injection hy with hy
      subst hy
      exact ⟨by rw [e0]; exact h.cell 0 rfl, by rw [e0]; exact h.cell 1 rfl, by rw [e0]; exact h.cell 3 rfl, D, dn, dc, A, n, c, by rw [e0]; exact h.cell 2 rfl, by rw [e0]; exact h.cell 4 rfl, hp⟩
    | 1, hy =>
      injection hy with hy
      subst hy
      exact ⟨by rw [e1]; exact h.cell 5 rfl, by rw [e1]; exact h.cell 6 rfl, by rw [e1]; exact h.cell 8 rfl, D', dn', dc', A', n', c', by rw [e1]; exact h.cell 7 rfl, by rw [e1]; exact h.cell 9 rfl, hq⟩
    | k + 2, hy => simp at hy⟩
theorem lightN_lt {p : Nm} {m : Nat} (h : lightN p m = true) : Lt p.l ∧ p.l.length ≤ m ∧ p.deps.length ≤ 100 := by
  have h0 := h
  unfold lightN fewP at h
  simp only [Bool.and_eq_true, decide_eq_true_eq, List.all_eq_true] at h
  exact ⟨fun x hx => okP_light (h.1.2 x hx), h.1.1, h.2.1⟩
theorem few_two {p q : Nm} (h : fewN [p, q] 2 = true) : (Lt p.l ∧ p.l.length ≤ 10 ∧ p.deps.length ≤ 100) ∧ (Lt q.l ∧ q.l.length ≤ 10 ∧ q.deps.length ≤ 100) :=
  ⟨lightN_lt (fewN_all h p (.head _)), lightN_lt (fewN_all h q (.tail _ (.head _)))⟩
theorem few_all {l : List Nm} {m : Nat} (h : fewN l m = true) : ∀ p ∈ l, Lt p.l ∧ p.l.length ≤ 10 ∧ p.deps.length ≤ 100 := fun p hp => lightN_lt (fewN_all h p hp)
/-- What two patches tell. -/
theorem outN_some {o : Option (Nm × Nm)} {x y : Nm} (h : outN o = (x, y)) (hs : o.isSome = true) : o = some (x, y) := by
  cases o with
  | none => cases hs
  | some z => exact congrArg some h
theorem outN_none {o : Option (Nm × Nm)} {x y : Nm} (h : outN o = (x, y)) (hs : o.isSome = false) : x = noN ∧ y = noN := by
  cases o with
  | none => injection h with h1 h2; exact ⟨h1.symm, h2.symm⟩
  | some z => cases hs
theorem noN_lt : Lt noN.l := fun x hx => by cases hx
/-- What is told is of few changes, and light. -/
theorem out_few {p q x y : Nm} {bo : Bool} (ho : outN (passN p q) = (x, y)) (hs : (passN p q).isSome = bo) (hp : Lt p.l ∧ p.l.length ≤ 10 ∧ p.deps.length ≤ 100) (hq : Lt q.l ∧ q.l.length ≤ 10 ∧ q.deps.length ≤ 100) :
    (Lt x.l ∧ x.l.length ≤ 10 ∧ x.deps.length ≤ 100) ∧ (Lt y.l ∧ y.l.length ≤ 10 ∧ y.deps.length ≤ 100) := by
  cases bo with
  | false =>
    obtain ⟨rfl, rfl⟩ := outN_none ho hs
    exact ⟨⟨noN_lt, Nat.zero_le _, Nat.zero_le _⟩, noN_lt, Nat.zero_le _, Nat.zero_le _⟩
  | true =>
    have h := outN_some ho hs
    obtain ⟨⟨_, a2, _, a4⟩, _, b2, _, b4⟩ := passN_keeps h
    obtain ⟨l1, l2⟩ := passN_lt h hp.1 hq.1
    exact ⟨⟨l1, by rw [a4]; exact hq.2.1, by rw [a2]; exact hq.2.2⟩, l2, by rw [b4]; exact hp.2.1, by rw [b2]; exact hp.2.2⟩

/-- All changes of two patches. -/
theorem two_all {p q : Nm} (hp : Lt p.l ∧ p.l.length ≤ 10 ∧ p.deps.length ≤ 100) (hq : Lt q.l ∧ q.l.length ≤ 10 ∧ q.deps.length ≤ 100) : (allN [p, q]).length ≤ 200 ∧ Lt (allN [p, q]) := by
  have e : allN [p, q] = p.l ++ q.l := by unfold allN; simp
  rw [e]
  exact ⟨by rw [List.length_append]; omega, hp.1.app hq.1⟩

/-- Without Deps one passes if it does so with them. -/
theorem bare_some {p q : Nm} (h : (passN p q).isSome = true) : (passN p ⟨q.id, [], q.txt, q.l⟩).isSome = true := by
  unfold passN at h ⊢
  by_cases hd : p.id ∈ q.deps
  · rw [if_pos hd] at h; cases h
  · rw [if_neg hd] at h
    rw [if_neg (by simp)]
    cases hp : passF p.l q.l with
    | none => rw [hp] at h; cases h
    | some z => rfl

end Tg
end Go.Proofs.Ytbiiabfhngdeiaa
