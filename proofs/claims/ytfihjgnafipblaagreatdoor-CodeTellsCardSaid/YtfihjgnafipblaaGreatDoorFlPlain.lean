/-
  Plain functions for layer 10 (changes, one behind the other), and their laws: first of whatever passes, then of changes. No program is walked.
-/
import Derived.Test.YtfihjgnafipblaaGreatDoorGZ
set_option maxRecDepth 100000
namespace Go.Proofs.YtfihjgnafipblaaGreatDoor
namespace Fl
open Tx Sq Hk Tr Pr
set_option linter.unusedVariables false

section
variable {α : Type} (P : α → α → Option (α × α))

/-- One passes a list, from the last one to the first one. -/
def one : List α → α → Option (α × List α)
  | [], q => some (q, [])
  | p :: a, q => (one a q).bind fun z => (P p z.1).map fun y => (y.1, y.2 :: z.2)
/-- Each of a list, in order, passes a list. -/
def passL : List α → List α → Option (List α × List α)
  | a, [] => some ([], a)
  | a, q :: b => (one P a q).bind fun z => (passL z.2 b).map fun y => (z.1 :: y.1, y.2)

theorem one_cons {p q x y q1 : α} {a a1 : List α} (h : one P a q = some (q1, a1)) (h1 : P p q1 = some (x, y)) : one P (p :: a) q = some (x, y :: a1) := by
  rw [one, h, Option.bind_some, h1]; rfl
theorem one_cons_inv {p q x : α} {a y : List α} (h : one P (p :: a) q = some (x, y)) : ∃ q1 a1 z, one P a q = some (q1, a1) ∧ P p q1 = some (x, z) ∧ y = z :: a1 := by
  rw [one] at h
  cases h1 : one P a q with
  | none => rw [h1] at h; cases h
  | some w =>
    rw [h1, Option.bind_some] at h
    cases h2 : P p w.1 with
    | none => rw [h2] at h; cases h
    | some v =>
      rw [h2] at h
      injection h with h; injection h with h3 h4
      exact ⟨w.1, w.2, v.2, rfl, by rw [h2, ← h3], h4.symm⟩
theorem passL_cons {q q1 : α} {a a1 b b1 a2 : List α} (h : one P a q = some (q1, a1)) (h1 : passL P a1 b = some (b1, a2)) : passL P a (q :: b) = some (q1 :: b1, a2) := by
  rw [passL, h, Option.bind_some, h1]; rfl
theorem passL_cons_inv {q : α} {a b x y : List α} (h : passL P a (q :: b) = some (x, y)) : ∃ q1 a1 b1, one P a q = some (q1, a1) ∧ passL P a1 b = some (b1, y) ∧ x = q1 :: b1 := by
  rw [passL] at h
  cases h1 : one P a q with
  | none => rw [h1] at h; cases h
  | some w =>
    rw [h1, Option.bind_some] at h
    cases h2 : passL P w.2 b with
    | none => rw [h2] at h; cases h
    | some v =>
      rw [h2] at h
      injection h with h; injection h with h3 h4
      exact ⟨w.1, w.2, v.1, rfl, by rw [h2, ← h4], h3.symm⟩
theorem passL_nil (a : List α) : passL P a [] = some ([], a) := by cases a <;> rfl
theorem one_len : ∀ {a : List α} {q x : α} {y : List α}, one P a q = some (x, y) → y.length = a.length
  | [], _, _, _, h => by injection h with h; injection h with _ h; rw [← h]
  | p :: a, q, x, y, h => by
    obtain ⟨q1, a1, z, h1, _, rfl⟩ := one_cons_inv P h
    rw [List.length_cons, one_len h1, List.length_cons]
theorem passL_len : ∀ {b a x y : List α}, passL P a b = some (x, y) → x.length = b.length ∧ y.length = a.length
  | [], a, x, y, h => by rw [passL_nil] at h; injection h with h; injection h with h1 h2; rw [← h1, ← h2]; exact ⟨rfl, rfl⟩
  | q :: b, a, x, y, h => by
    obtain ⟨q1, a1, b1, h1, h2, rfl⟩ := passL_cons_inv P h
    obtain ⟨e1, e2⟩ := passL_len h2
    exact ⟨by rw [List.length_cons, e1, List.length_cons], by rw [e2, one_len P h1]⟩
/-- Nothing passes all. -/
theorem passL_none : ∀ b : List α, passL P [] b = some (b, [])
  | [] => rfl
  | q :: b => passL_cons P (q1 := q) (a1 := []) rfl (passL_none b)

/-- A list passes two lists, one behind the other, as it passes their joint. -/
theorem one_app : ∀ (a b : List α) (q : α), one P (a ++ b) q = (one P b q).bind fun z => (one P a z.1).map fun y => (y.1, y.2 ++ z.2)
  | [], b, q => by
    rw [List.nil_append]
    cases h : one P b q with
    | none => rfl
    | some z => rfl
  | p :: a, b, q => by
    rw [List.cons_append, one, one_app a b q]
    cases h : one P b q with
    | none => rfl
    | some z =>
      simp only [Option.bind_some]
      rw [one]
      cases h1 : one P a z.1 with
      | none => rfl
      | some y =>
        simp only [Option.map_some, Option.bind_some]
        cases h2 : P p y.1 with
        | none => rfl
        | some v => rfl
theorem passL_app1 : ∀ (c a b : List α), passL P (a ++ b) c = (passL P b c).bind fun z => (passL P a z.1).map fun y => (y.1, y.2 ++ z.2)
  | [], a, b => by rw [passL_nil, passL_nil, Option.bind_some, passL_nil]; rfl
  | q :: c, a, b => by
    rw [passL, one_app, passL]
    cases h : one P b q with
    | none => rfl
    | some z =>
      simp only [Option.bind_some]
      cases h1 : one P a z.1 with
      | none =>
        simp only [Option.map_none, Option.bind_none]
        cases h2 : passL P z.2 c with
        | none => rfl
        | some v =>
          simp only [Option.map_some, Option.bind_some]
          rw [passL, h1]
          rfl
      | some y =>
        simp only [Option.map_some, Option.bind_some]
        rw [passL_app1 c y.2 z.2]
        cases h2 : passL P z.2 c with
        | none => rfl
        | some v =>
          simp only [Option.bind_some, Option.map_some]
          rw [passL, h1, Option.bind_some]
          cases h3 : passL P y.2 v.1 with
          | none => rfl
          | some u => rfl
theorem passL_app2 : ∀ (b a c : List α), passL P a (b ++ c) = (passL P a b).bind fun z => (passL P z.2 c).map fun y => (z.1 ++ y.1, y.2)
  | [], a, c => by
    rw [List.nil_append, passL_nil, Option.bind_some]
    cases h : passL P a c with
    | none => rfl
    | some z => rfl
  | q :: b, a, c => by
    rw [List.cons_append, passL, passL]
    cases h : one P a q with
    | none => rfl
    | some z =>
      simp only [Option.bind_some]
      rw [passL_app2 b z.2 c]
      cases h1 : passL P z.2 b with
      | none => rfl
      | some y =>
        simp only [Option.bind_some, Option.map_some]
        cases h2 : passL P y.2 c with
        | none => rfl
        | some v => rfl

/-- Where those that passed one another pass back, lists do. -/
theorem one_back (hP : ∀ {p q x y}, P p q = some (x, y) → P x y = some (p, q)) : ∀ {a : List α} {q x : α} {y : List α}, one P a q = some (x, y) → passL P [x] y = some (a, [q])
  | [], q, x, y, h => by injection h with h; injection h with h1 h2; subst h1 h2; rfl
  | p :: a, q, x, y, h => by
    obtain ⟨q1, a1, z, h1, h2, rfl⟩ := one_cons_inv P h
    exact passL_cons P (one_cons P (a := []) (a1 := []) rfl (hP h2)) (one_back hP h1)
theorem passL_back (hP : ∀ {p q x y}, P p q = some (x, y) → P x y = some (p, q)) : ∀ {b a x y : List α}, passL P a b = some (x, y) → passL P x y = some (a, b)
  | [], a, x, y, h => by rw [passL_nil] at h; injection h with h; injection h with h1 h2; subst h1 h2; exact passL_none P a
  | q :: b, a, x, y, h => by
    obtain ⟨q1, a1, b1, h1, h2, rfl⟩ := passL_cons_inv P h
    have e1 := passL_back hP h2
    have e2 := one_back P hP h1
    have := passL_app1 P y [q1] b1
    rw [e1, Option.bind_some] at this
    simp only at this
    rw [e2] at this
    exact this

variable {τ : Type} (D : τ → α → Option τ) (I : τ → Prop)
/-- What is done by each of a list, one behind the other. -/
def doL : τ → List α → Option τ
  | t, [] => some t
  | t, p :: a => (D t p).bind fun u => doL u a
theorem doL_cons {t u : τ} {p : α} {a : List α} (h : D t p = some u) : doL D t (p :: a) = doL D u a := by rw [doL, h]; rfl
theorem doL_cons_inv {t v : τ} {p : α} {a : List α} (h : doL D t (p :: a) = some v) : ∃ u, D t p = some u ∧ doL D u a = some v := by
  rw [doL] at h
  cases h1 : D t p with
  | none => rw [h1] at h; cases h
  | some u => rw [h1] at h; exact ⟨u, rfl, h⟩
theorem doL_app : ∀ (a b : List α) (t : τ), doL D t (a ++ b) = (doL D t a).bind fun u => doL D u b
  | [], _, _ => rfl
  | p :: a, b, t => by
    rw [List.cons_append, doL, doL]
    cases h : D t p with
    | none => rfl
    | some u => simp only [Option.bind_some]; exact doL_app a b u
theorem doL_inv (hI : ∀ {t u p}, I t → D t p = some u → I u) : ∀ {a : List α} {t u : τ}, I t → doL D t a = some u → I u
  | [], _, _, h, e => by injection e with e; rw [← e]; exact h
  | p :: a, t, u, h, e => by
    obtain ⟨v, h1, h2⟩ := doL_cons_inv D e
    exact doL_inv hI (hI h h1) h2
/-- Where two that are told do the same, lists do. -/
theorem one_same (hI : ∀ {t u p}, I t → D t p = some u → I u) (hP : ∀ {t u v p q x y}, I t → P p q = some (x, y) → D t p = some u → D u q = some v → ∃ w, D t x = some w ∧ D w y = some v) :
    ∀ {a : List α} {q x : α} {y : List α} {t u v : τ}, I t → one P a q = some (x, y) → doL D t a = some u → D u q = some v → ∃ w, D t x = some w ∧ doL D w y = some v
  | [], q, x, y, t, u, v, hi, h, h1, h2 => by
    injection h with h; injection h with e1 e2; subst e1 e2
    injection h1 with h1; subst h1
    exact ⟨v, h2, rfl⟩
  | p :: a, q, x, y, t, u, v, hi, h, h1, h2 => by
    obtain ⟨q1, a1, z, e1, e2, rfl⟩ := one_cons_inv P h
    obtain ⟨t1, d1, d2⟩ := doL_cons_inv D h1
    obtain ⟨w, d3, d4⟩ := one_same hI hP (hI hi d1) e1 d2 h2
    obtain ⟨w1, d5, d6⟩ := hP hi e2 d1 d3
    exact ⟨w1, d5, by rw [doL_cons D d6]; exact d4⟩
theorem passL_same (hI : ∀ {t u p}, I t → D t p = some u → I u) (hP : ∀ {t u v p q x y}, I t → P p q = some (x, y) → D t p = some u → D u q = some v → ∃ w, D t x = some w ∧ D w y = some v) :
    ∀ {b a x y : List α} {t u v : τ}, I t → passL P a b = some (x, y) → doL D t a = some u → doL D u b = some v → ∃ w, doL D t x = some w ∧ doL D w y = some v
  | [], a, x, y, t, u, v, hi, h, h1, h2 => by
    rw [passL_nil] at h; injection h with h; injection h with e1 e2; subst e1 e2
    injection h2 with h2; subst h2
    exact ⟨t, rfl, h1⟩
  | q :: b, a, x, y, t, u, v, hi, h, h1, h2 => by
    obtain ⟨q1, a1, b1, e1, e2, rfl⟩ := passL_cons_inv P h
    obtain ⟨u1, d1, d2⟩ := doL_cons_inv D h2
    obtain ⟨w, d3, d4⟩ := one_same P D I hI hP hi e1 h1 d1
    obtain ⟨w1, d5, d6⟩ := passL_same hI hP (hI hi d3) e2 d4 d2
    exact ⟨w1, by rw [doL_cons D d3]; exact d5, d6⟩
end

/-! Of changes. -/
/-- A tree changed, or nothing. -/
def dP (t : TR) (p : Ch) : Option TR := if (doP t p).1 = 0 then some (doP t p).2 else none
theorem dP_some {t u : TR} {p : Ch} : dP t p = some u ↔ doP t p = (0, u) := by
  unfold dP
  constructor
  · intro h
    split at h
    · rename_i h0
      injection h with h
      rw [← h]
      exact Prod.ext h0 rfl
    · cases h
  · intro h
    rw [h]; rfl
theorem dP_up {t u : TR} {p : Ch} (ht : Up lt t) (h : dP t p = some u) : Up lt u := doP_up ht (dP_some.1 h)
theorem dP_same {t u v : TR} {p q x y : Ch} (ht : Up lt t) (h : passP p q = some (x, y)) (h1 : dP t p = some u) (h2 : dP u q = some v) : ∃ w, dP t x = some w ∧ dP w y = some v := by
  obtain ⟨w, a, b⟩ := passP_same ht h (dP_some.1 h1) (dP_some.1 h2)
  exact ⟨w, dP_some.2 a, dP_some.2 b⟩
/-- What a tree becomes by changes: the first error, or a tree. -/
def doF : TR → List Ch → Int × TR
  | t, [] => (0, t)
  | t, p :: a => if (doP t p).1 = 0 then doF (doP t p).2 a else ((doP t p).1, [])
theorem doF_cons_ok {t u : TR} {p : Ch} {a : List Ch} (h : doP t p = (0, u)) : doF t (p :: a) = doF u a := by rw [doF, h]; rfl
theorem doF_cons_no {t : TR} {p : Ch} {a : List Ch} (h : (doP t p).1 ≠ 0) : doF t (p :: a) = ((doP t p).1, []) := by rw [doF, if_neg h]
theorem doF_none : ∀ {a : List Ch} {t : TR}, (doF t a).1 ≠ 0 → (doF t a).2 = []
  | [], t, h => absurd rfl h
  | p :: a, t, h => by
    by_cases h0 : (doP t p).1 = 0
    · rw [doF_cons_ok (u := (doP t p).2) (Prod.ext h0 rfl)] at h ⊢
      exact doF_none h
    · rw [doF_cons_no h0]
theorem doF_some : ∀ {a : List Ch} {t u : TR}, doL dP t a = some u ↔ doF t a = (0, u)
  | [], t, u => by
    constructor
    · intro h; injection h with h; rw [h]; rfl
    · intro h; injection h with _ h; rw [← h]; rfl
  | p :: a, t, u => by
    by_cases h0 : (doP t p).1 = 0
    · have e : doP t p = (0, (doP t p).2) := Prod.ext h0 rfl
      rw [doL_cons dP (dP_some.2 e), doF_cons_ok e]
      exact doF_some
    · rw [doF_cons_no h0]
      constructor
      · intro h
        obtain ⟨v, h1, _⟩ := doL_cons_inv dP h
        rw [dP_some] at h1
        exact absurd (by rw [h1]) h0
      · intro h
        injection h with h _
        exact absurd h h0
def turnF (l : List Ch) : List Ch := (l.map turnP).reverse
theorem turnF_turnF (l : List Ch) : turnF (turnF l) = l := by
  unfold turnF
  rw [List.map_reverse, List.reverse_reverse, List.map_map]
  have : turnP ∘ turnP = id := funext turnP_turnP
  rw [this, List.map_id]
theorem turnF_len (l : List Ch) : (turnF l).length = l.length := by unfold turnF; simp
/-- What changes change they change back, turned. -/
theorem doF_turn {t u : TR} {l : List Ch} (ht : Up lt t) (h : doF t l = (0, u)) : doF u (turnF l) = (0, t) := by
  rw [← doF_some] at h ⊢
  induction l generalizing t with
  | nil => injection h with h; rw [h]; rfl
  | cons p l ih =>
    obtain ⟨v, h1, h2⟩ := doL_cons_inv dP h
    have e := ih (dP_up ht h1) h2
    unfold turnF at e ⊢
    rw [List.map_cons, List.reverse_cons, doL_app, e, Option.bind_some]
    rw [doL_cons dP (dP_some.2 (doP_back ht (dP_some.1 h1)))]
    rfl

abbrev passF : List Ch → List Ch → Option (List Ch × List Ch) := passL passP
theorem passF_back {a b x y : List Ch} (h : passF a b = some (x, y)) : passF x y = some (a, b) := passL_back passP passP_back h
/-- Where both lists change a tree, one behind the other, those that are told do so, to the same. -/
theorem passF_same {t v : TR} {a b x y : List Ch} (ht : Up lt t) (h : passF a b = some (x, y)) (h1 : doF t (a ++ b) = (0, v)) : doF t (x ++ y) = (0, v) := by
  rw [← doF_some, doL_app] at h1 ⊢
  cases ha : doL dP t a with
  | none => rw [ha] at h1; cases h1
  | some u =>
    rw [ha, Option.bind_some] at h1
    obtain ⟨w, d1, d2⟩ := passL_same passP dP (fun t => Up lt t) dP_up dP_same ht h ha h1
    rw [d1, Option.bind_some]
    exact d2
theorem doF_up {t u : TR} {l : List Ch} (ht : Up lt t) (h : doF t l = (0, u)) : Up lt u := doL_inv dP (fun t => Up lt t) dP_up ht (doF_some.2 h)

end Fl
end Go.Proofs.YtfihjgnafipblaaGreatDoor
