/-
  Plain functions for layer 11 (changes that undo one another), and their laws: first of whatever has what undoes it, then of changes. No program is walked.
-/
import Derived.Test.YteiidklmlelabaaFlPlain
set_option maxRecDepth 100000
namespace Go.Proofs.Yteiidklmlelabaa
namespace Td
open Tx Sq Hk Tr Pr Fl
set_option linter.unusedVariables false

section
variable {α : Type} (idle : α → Bool) (inv : α → α)

/-- None is idle, and none undoes the one behind it (of a stack). -/
def Tst : List α → Prop
  | [] => True
  | [p] => idle p = false
  | p :: o :: s => idle p = false ∧ p ≠ inv o ∧ Tst (o :: s)
theorem Tst.tail {p : α} {s : List α} (h : Tst idle inv (p :: s)) : Tst idle inv s := by
  cases s with
  | nil => trivial
  | cons o s => exact h.2.2
theorem tst_snoc {s : List α} {p : α} : Tst idle inv (s ++ [p]) ↔ Tst idle inv s ∧ idle p = false ∧ (∀ q ∈ s.getLast?, q ≠ inv p) := by
  induction s with
  | nil => simp [Tst]
  | cons a s ih =>
    cases s with
    | nil =>
      simp only [List.cons_append, List.nil_append, Tst, List.getLast?_singleton, Option.mem_def, Option.some.injEq, forall_eq']
      exact ⟨fun ⟨h1, h2, h3⟩ => ⟨h1, h3, h2⟩, fun ⟨h1, h2, h3⟩ => ⟨h1, h3, h2⟩⟩
    | cons b s =>
      rw [List.cons_append, List.cons_append, Tst, Tst, ← List.cons_append, ih]
      rw [List.getLast?_cons_cons]
      exact ⟨fun ⟨h1, h2, h3, h4, h5⟩ => ⟨⟨h1, h2, h3⟩, h4, h5⟩, fun ⟨⟨h1, h2, h3⟩, h4, h5⟩ => ⟨h1, h2, h3, h4, h5⟩⟩
variable [DecidableEq α]

/-- One more on a stack, its last one ahead: nothing, if it is idle; it takes away the last one, if it undoes that. -/
def step (s : List α) (p : α) : List α :=
  if idle p then s else match s with
    | [] => [p]
    | o :: s' => if p = inv o then s' else p :: o :: s'
def run (s l : List α) : List α := l.foldl (step idle inv) s
def tidy (l : List α) : List α := (run idle inv [] l).reverse

theorem step_idle {s : List α} {p : α} (h : idle p = true) : step idle inv s p = s := by unfold step; rw [if_pos h]
theorem step_pop {s : List α} {o : α} (h : idle (inv o) = false) : step idle inv (o :: s) (inv o) = s := by
  unfold step; rw [h]; simp
theorem step_push {s : List α} {p : α} (h : idle p = false) (hs : ∀ o s', s = o :: s' → p ≠ inv o) : step idle inv s p = p :: s := by
  unfold step
  rw [h]
  cases s with
  | nil => rfl
  | cons o s' => simp [hs o s' rfl]
theorem step_cases (s : List α) (p : α) : (idle p = true ∧ step idle inv s p = s) ∨ (idle p = false ∧ ∃ o, s = o :: step idle inv s p ∧ p = inv o) ∨ (idle p = false ∧ (∀ o s', s = o :: s' → p ≠ inv o) ∧ step idle inv s p = p :: s) := by
  cases hi : idle p with
  | true => exact .inl ⟨rfl, step_idle idle inv hi⟩
  | false =>
    refine .inr ?_
    cases s with
    | nil =>
      have hs : ∀ o s', ([] : List α) = o :: s' → p ≠ inv o := fun o s' h => by cases h
      exact .inr ⟨rfl, hs, step_push idle inv hi hs⟩
    | cons o s' =>
      by_cases hp : p = inv o
      · subst hp
        exact .inl ⟨rfl, o, by rw [step_pop idle inv hi], rfl⟩
      · have hs : ∀ o2 s2, o :: s' = o2 :: s2 → p ≠ inv o2 := fun o2 s2 h => by injection h with h1 h2; rw [← h1]; exact hp
        exact .inr ⟨rfl, hs, step_push idle inv hi hs⟩
theorem step_tst {s : List α} {p : α} (h : Tst idle inv s) : Tst idle inv (step idle inv s p) := by
  rcases step_cases idle inv s p with ⟨_, e⟩ | ⟨_, o, e, _⟩ | ⟨hi, hs, e⟩
  · rw [e]; exact h
  · rw [e] at h; exact h.tail
  · rw [e]
    cases s with
    | nil => exact hi
    | cons o s => exact ⟨hi, hs o s rfl, h⟩
theorem run_tst : ∀ {l s : List α}, Tst idle inv s → Tst idle inv (run idle inv s l)
  | [], _, h => h
  | p :: l, s, h => run_tst (l := l) (step_tst idle inv h)
theorem step_len (s : List α) (p : α) : (step idle inv s p).length ≤ s.length + 1 := by
  rcases step_cases idle inv s p with ⟨_, e⟩ | ⟨_, o, e, _⟩ | ⟨hi, hs, e⟩
  · rw [e]; omega
  · have := congrArg List.length e
    simp only [List.length_cons] at this
    omega
  · rw [e]; simp
theorem run_len : ∀ (l s : List α), (run idle inv s l).length ≤ s.length + l.length
  | [], s => by simp [run]
  | p :: l, s => by
    have h1 := run_len l (step idle inv s p)
    have h2 := step_len idle inv s p
    show (run idle inv (step idle inv s p) l).length ≤ _
    simp only [List.length_cons]
    omega
theorem tidy_len (l : List α) : (tidy idle inv l).length ≤ l.length := by
  have := run_len idle inv l []
  unfold tidy
  rw [List.length_reverse]
  simpa using this
theorem run_app (s a b : List α) : run idle inv s (a ++ b) = run idle inv (run idle inv s a) b := List.foldl_append
theorem run_snoc (s a : List α) (p : α) : run idle inv s (a ++ [p]) = step idle inv (run idle inv s a) p := run_app idle inv s a [p]

theorem step_back (hii : ∀ p, inv (inv p) = p) (hid : ∀ p, idle (inv p) = idle p) {s : List α} (h : Tst idle inv s) (p : α) : step idle inv (step idle inv s p) (inv p) = s := by
  rcases step_cases idle inv s p with ⟨hi, e⟩ | ⟨hi, o, e, rfl⟩ | ⟨hi, hs, e⟩
  · rw [e, step_idle idle inv (by rw [hid]; exact hi)]
  · rw [hii]
    rw [e] at h
    rw [hid] at hi
    have : step idle inv (step idle inv s (inv o)) o = o :: step idle inv s (inv o) := by
      refine step_push idle inv hi (fun o2 s2 h2 => ?_)
      rw [h2] at h
      exact h.2.1
    rw [this, ← e]
  · rw [e, step_pop idle inv (by rw [hid]; exact hi)]
/-- Changes, and what undoes them, behind them, leave what was. -/
theorem run_back (hii : ∀ p, inv (inv p) = p) (hid : ∀ p, idle (inv p) = idle p) : ∀ {l s : List α}, Tst idle inv s → run idle inv s (l ++ (l.map inv).reverse) = s
  | [], s, h => rfl
  | p :: l, s, h => by
    rw [List.map_cons, List.reverse_cons, List.cons_append, ← List.append_assoc]
    show run idle inv (step idle inv s p) (l ++ (l.map inv).reverse ++ [inv p]) = s
    rw [run_snoc, run_back hii hid (step_tst idle inv h), step_back idle inv hii hid h]
theorem tidy_none (hii : ∀ p, inv (inv p) = p) (hid : ∀ p, idle (inv p) = idle p) (l : List α) : tidy idle inv (l ++ (l.map inv).reverse) = [] := by unfold tidy; rw [run_back idle inv hii hid (s := []) trivial]; rfl
/-- What is left of a list does what the list does. -/
theorem run_tidy (hii : ∀ p, inv (inv p) = p) (hid : ∀ p, idle (inv p) = idle p) {s : List α} (h : Tst idle inv s) (b : List α) : run idle inv s (tidy idle inv b) = run idle inv s b := by
  have key : ∀ (r : List α), run idle inv s (tidy idle inv r.reverse) = run idle inv s r.reverse := by
    intro r
    induction r with
    | nil => rfl
    | cons p r ih =>
      rw [List.reverse_cons, run_snoc, ← ih]
      unfold tidy
      rw [run_snoc]
      rcases step_cases idle inv (run idle inv [] r.reverse) p with ⟨hi, e⟩ | ⟨hi, o, e, rfl⟩ | ⟨hi, hs, e⟩
      · rw [e, step_idle idle inv hi]
      · have e2 : (run idle inv [] r.reverse).reverse = (step idle inv (run idle inv [] r.reverse) (inv o)).reverse ++ [o] := by
          conv => lhs; rw [e]
          rw [List.reverse_cons]
        rw [e2, run_snoc, step_back idle inv hii hid (run_tst idle inv h)]
      · rw [e, List.reverse_cons, run_snoc]
  have := key b.reverse
  rw [List.reverse_reverse] at this
  exact this
theorem tidy_parts (hii : ∀ p, inv (inv p) = p) (hid : ∀ p, idle (inv p) = idle p) (a b : List α) : tidy idle inv (tidy idle inv a ++ tidy idle inv b) = tidy idle inv (a ++ b) := by
  unfold tidy
  rw [run_app, run_app]
  have e1 := run_tidy idle inv hii hid (s := []) trivial a
  have e2 := run_tidy idle inv hii hid (s := run idle inv [] a) (run_tst idle inv trivial) b
  unfold tidy at e1 e2
  rw [e1, e2]
theorem tidy_idle {p : α} (hp : idle p = true) (a b : List α) : tidy idle inv (a ++ p :: b) = tidy idle inv (a ++ b) := by
  unfold tidy
  rw [run_app, run_app]
  show (run idle inv (step idle inv (run idle inv [] a) p) b).reverse = _
  rw [step_idle idle inv hp]
/-- What is tight stays. -/
theorem run_of_tst : ∀ {s : List α}, Tst idle inv s → run idle inv [] s.reverse = s
  | [], _ => rfl
  | p :: s, h => by
    rw [List.reverse_cons, run_snoc, run_of_tst h.tail]
    refine step_push idle inv ?_ (fun o s' e => ?_)
    · cases s with
      | nil => exact h
      | cons o s => exact h.1
    · rw [e] at h; exact h.2.1

/-- Is none idle, and none what undoes the one ahead of it? -/
def tight : List α → Bool
  | [] => true
  | [p] => !idle p
  | p :: q :: l => !idle p && (decide (q ≠ inv p) && tight (q :: l))
theorem tight_iff : ∀ {l : List α}, tight idle inv l = true ↔ Tst idle inv l.reverse
  | [] => by simp [tight, Tst]
  | [p] => by simp [tight, Tst]
  | p :: q :: l => by
    rw [tight, Bool.and_eq_true, Bool.and_eq_true, tight_iff (l := q :: l), List.reverse_cons (a := p), tst_snoc]
    have : (q :: l).reverse.getLast? = some q := by rw [List.getLast?_reverse]; rfl
    rw [this]
    simp only [Bool.not_eq_true', decide_eq_true_eq, Option.mem_def, Option.some.injEq, forall_eq']
    exact ⟨fun ⟨h1, h2, h3⟩ => ⟨h3, h1, h2⟩, fun ⟨h3, h1, h2⟩ => ⟨h1, h2, h3⟩⟩
theorem tidy_tight (l : List α) : tight idle inv (tidy idle inv l) = true := by
  rw [tight_iff]
  unfold tidy
  rw [List.reverse_reverse]
  exact run_tst idle inv trivial
theorem tight_tidy {l : List α} (h : tight idle inv l = true) : tidy idle inv l = l := by
  rw [tight_iff] at h
  have := run_of_tst idle inv h
  rw [List.reverse_reverse] at this
  unfold tidy
  rw [this, List.reverse_reverse]
theorem tidy_tidy (l : List α) : tidy idle inv (tidy idle inv l) = tidy idle inv l := tight_tidy idle inv (tidy_tight idle inv l)
theorem tight_iff_same (l : List α) : tight idle inv l = decide (tidy idle inv l = l) := by
  rw [Bool.eq_iff_iff, decide_eq_true_eq]
  exact ⟨tight_tidy idle inv, fun h => by rw [← h]; exact tidy_tight idle inv l⟩
end

/-! Of changes. -/
instance : DecidableEq Ch := fun p q => decidable_of_iff (sameP p q = true) sameP_iff
theorem idleP_turn (p : Ch) : idleP (turnP p) = idleP p := by
  by_cases h0 : p.k = 0
  · rw [turnP_0 h0]; unfold idleP; simp [h0]
  · by_cases h1 : p.k = 1
    · rw [turnP_1 h1]; unfold idleP; simp [h1]
    · by_cases h2 : p.k = 2
      · rw [turnP_2 h2]; unfold idleP; simp [h2]
      · rw [turnP_h h0 h1 h2]
        unfold idleP turn
        simp only
        rw [show decide (p.h.new = p.h.old) = decide (p.h.old = p.h.new) from decide_eq_decide.2 ⟨Eq.symm, Eq.symm⟩]
abbrev tidyP : List Ch → List Ch := tidy idleP turnP
abbrev tightP : List Ch → Bool := tight idleP turnP
/-- Where a list changes a tree, the tidied one does so to the same. -/
theorem tidyP_same {t u : TR} {l : List Ch} (ht : Up lt t) (h : doF t l = (0, u)) : doF t (tidyP l) = (0, u) := by
  have key : ∀ (r : List Ch) (u : TR), doL dP t r.reverse = some u → doL dP t (run idleP turnP [] r.reverse).reverse = some u := by
    intro r
    induction r with
    | nil => exact fun u h => h
    | cons p r ih =>
      intro u h
      rw [List.reverse_cons, doL_app] at h
      cases hw : doL dP t r.reverse with
      | none => rw [hw] at h; cases h
      | some w =>
        rw [hw, Option.bind_some] at h
        obtain ⟨u', h1, h2⟩ := doL_cons_inv dP h
        injection h2 with h2
        subst h2
        have uw : Up lt w := doF_up ht (doF_some.1 hw)
        have e0 := ih w hw
        rw [List.reverse_cons, run_snoc]
        rcases step_cases idleP turnP (run idleP turnP [] r.reverse) p with ⟨hi, e⟩ | ⟨hi, o, e, rfl⟩ | ⟨hi, hs, e⟩
        · rw [e, e0, doP_idle uw (dP_some.1 h1) hi]
        · rw [e, List.reverse_cons, doL_app] at e0
          cases hv : doL dP t (step idleP turnP (run idleP turnP [] r.reverse) (turnP o)).reverse with
          | none => rw [hv] at e0; cases e0
          | some v =>
            rw [hv, Option.bind_some] at e0
            obtain ⟨w', h3, h4⟩ := doL_cons_inv dP e0
            injection h4 with h4
            subst h4
            have uv : Up lt v := doF_up ht (doF_some.1 hv)
            have := doP_back uv (dP_some.1 h3)
            rw [dP_some.1 h1] at this
            injection this with _ this
            rw [this]
        · rw [e, List.reverse_cons, doL_app, e0, Option.bind_some, doL_cons dP h1]
          rfl
  have := key l.reverse u (by rw [List.reverse_reverse]; exact doF_some.2 h)
  rw [List.reverse_reverse] at this
  exact doF_some.1 this

end Td
end Go.Proofs.Yteiidklmlelabaa
