/-
  Plain functions for layer 8 (changes), and their laws. No program is walked.
-/
import Derived.Test.YtfjllohhjpiphaaGP
import Derived.Test.YtfjllohhjpiphaaHkLaw
set_option maxRecDepth 100000
namespace Go.Proofs.Ytfjllohhjpiphaa
namespace Pr
open Tx Sq Hk Tr
set_option linter.unusedVariables false

/-- A change. -/
structure Ch where
  k : Int
  nm : List UInt8
  to : List UInt8
  h : HU

theorem ch_ext {p q : Ch} (h1 : p.k = q.k) (h2 : p.nm = q.nm) (h3 : p.to = q.to) (h4 : p.h = q.h) : p = q := by
  cases p; cases q; simp only at h1 h2 h3 h4; subst h1 h2 h3 h4; rfl

def noneH : HU := ⟨0, [], []⟩
/-- A hunk without lines, at 0. -/
def noH (h : HU) : Bool := decide (h.pos = 0) && (decide (h.old.length = 0) && decide (h.new.length = 0))
theorem noH_iff {h : HU} : noH h = true ↔ h = noneH := by
  unfold noH
  simp only [Bool.and_eq_true, decide_eq_true_eq, List.length_eq_zero_iff]
  constructor
  · rintro ⟨h1, h2, h3⟩
    cases h; simp only at h1 h2 h3; subst h1 h2 h3; rfl
  · rintro rfl
    exact ⟨rfl, rfl, rfl⟩

def mayP (p : Ch) : Bool :=
  if p.k = 0 ∨ p.k = 1 then name p.nm && (decide (p.to = []) && noH p.h)
  else if p.k = 2 then name p.nm && (name p.to && (decide (p.to ≠ p.nm) && noH p.h))
  else if p.k = 3 then name p.nm && (decide (p.to = []) && mayH p.h)
  else if p.k = 4 then name p.nm && (decide (p.to = []) && (mayH p.h && decide (p.h.pos = 0)))
  else false
theorem mayP_cases {p : Ch} : mayP p = true ↔ name p.nm = true ∧ (((p.k = 0 ∨ p.k = 1) ∧ p.to = [] ∧ p.h = noneH) ∨ (p.k = 2 ∧ name p.to = true ∧ p.to ≠ p.nm ∧ p.h = noneH) ∨ (p.k = 3 ∧ p.to = [] ∧ mayH p.h = true) ∨ (p.k = 4 ∧ p.to = [] ∧ mayH p.h = true ∧ p.h.pos = 0)) := by
  unfold mayP
  by_cases h0 : p.k = 0 ∨ p.k = 1
  · have n2 : ¬ p.k = 2 := by omega
    have n3 : ¬ p.k = 3 := by omega
    have n4 : ¬ p.k = 4 := by omega
    rw [if_pos h0]
    simp [h0, n2, n3, n4, noH_iff]
  · rw [if_neg h0]
    by_cases h2 : p.k = 2
    · simp [h2, noH_iff]
    · rw [if_neg h2]
      by_cases h3 : p.k = 3
      · simp [h3]
      · rw [if_neg h3]
        by_cases h4 : p.k = 4
        · simp [h4]
        · rw [if_neg h4]
          simp [h0, h2, h3, h4]

def sameP (p q : Ch) : Bool := decide (p.k = q.k) && (decide (p.nm = q.nm) && (decide (p.to = q.to) && sameH p.h q.h))
theorem sameP_self (p : Ch) : sameP p p = true := by simp [sameP, sameH_self]
theorem sameP_iff {p q : Ch} : sameP p q = true ↔ p = q := by
  unfold sameP sameH
  simp only [Bool.and_eq_true, decide_eq_true_eq]
  constructor
  · rintro ⟨h1, h2, h3, h4, h5, h6⟩
    refine ch_ext h1 h2 h3 ?_
    generalize p.h = a at *
    generalize q.h = b at *
    cases a; cases b; simp only at h4 h5 h6; subst h4 h5 h6; rfl
  · rintro rfl
    exact ⟨rfl, rfl, rfl, rfl, rfl, rfl⟩

def idleP (p : Ch) : Bool := decide (p.k = 3 ∨ p.k = 4) && decide (p.h.old = p.h.new)

/-- A change turned. -/
def turnP (p : Ch) : Ch :=
  if p.k = 0 then ⟨1, p.nm, p.to, p.h⟩
  else if p.k = 1 then ⟨0, p.nm, p.to, p.h⟩
  else if p.k = 2 then ⟨p.k, p.to, p.nm, p.h⟩
  else ⟨p.k, p.nm, p.to, turn p.h⟩
theorem turnP_0 {p : Ch} (h : p.k = 0) : turnP p = ⟨1, p.nm, p.to, p.h⟩ := by unfold turnP; rw [if_pos h]
theorem turnP_1 {p : Ch} (h : p.k = 1) : turnP p = ⟨0, p.nm, p.to, p.h⟩ := by unfold turnP; rw [if_neg (by omega), if_pos h]
theorem turnP_2 {p : Ch} (h : p.k = 2) : turnP p = ⟨2, p.to, p.nm, p.h⟩ := by unfold turnP; rw [if_neg (by omega), if_neg (by omega), if_pos h, h]
theorem turnP_h {p : Ch} (h0 : p.k ≠ 0) (h1 : p.k ≠ 1) (h2 : p.k ≠ 2) : turnP p = ⟨p.k, p.nm, p.to, turn p.h⟩ := by unfold turnP; rw [if_neg h0, if_neg h1, if_neg h2]
theorem turnP_turnP (p : Ch) : turnP (turnP p) = p := by
  by_cases h0 : p.k = 0
  · rw [turnP_0 h0, turnP_1 rfl]; exact ch_ext h0.symm rfl rfl rfl
  · by_cases h1 : p.k = 1
    · rw [turnP_1 h1, turnP_0 rfl]; exact ch_ext h1.symm rfl rfl rfl
    · by_cases h2 : p.k = 2
      · rw [turnP_2 h2, turnP_2 rfl]; exact ch_ext h2.symm rfl rfl rfl
      · rw [turnP_h h0 h1 h2, turnP_h (p := ⟨p.k, p.nm, p.to, turn p.h⟩) h0 h1 h2]
        exact ch_ext rfl rfl rfl (turn_turn p.h)
theorem mayP_turn1 {p : Ch} (h : mayP p = true) : mayP (turnP p) = true := by
  obtain ⟨hn, h⟩ := mayP_cases.1 h
  rw [mayP_cases]
  rcases h with ⟨h0 | h0, h1, h2⟩ | ⟨h0, h1, h2, h3⟩ | ⟨h0, h1, h2⟩ | ⟨h0, h1, h2, h3⟩
  · rw [turnP_0 h0]; exact ⟨hn, .inl ⟨.inr rfl, h1, h2⟩⟩
  · rw [turnP_1 h0]; exact ⟨hn, .inl ⟨.inl rfl, h1, h2⟩⟩
  · rw [turnP_2 h0]; exact ⟨h1, .inr (.inl ⟨rfl, hn, h2.symm, h3⟩)⟩
  · rw [turnP_h (by omega) (by omega) (by omega)]; exact ⟨hn, .inr (.inr (.inl ⟨h0, h1, by rw [mayH_turn]; exact h2⟩))⟩
  · rw [turnP_h (by omega) (by omega) (by omega)]; exact ⟨hn, .inr (.inr (.inr ⟨h0, h1, by rw [mayH_turn]; exact h2, h3⟩))⟩
theorem mayP_turn (p : Ch) : mayP (turnP p) = mayP p := by
  rw [Bool.eq_iff_iff]
  exact ⟨fun h => by have := mayP_turn1 h; rw [turnP_turnP] at this; exact this, mayP_turn1⟩

abbrev lt : List UInt8 → List UInt8 → Bool := Op.bytesLess

/-- What a file's lines become by a change of lines: an error, or lines. -/
def lineE (l : List (List UInt8)) (p : Ch) : Int := if p.k = 3 then applyE l p.h else if l = p.h.old then 0 else 5
def lineL (l : List (List UInt8)) (p : Ch) : List (List UInt8) := if p.k = 3 then applyL l p.h else p.h.new
/-- What a tree becomes by a change: an error, or a tree. -/
def doP (t : TR) (p : Ch) : Int × TR :=
  if mayP p = false then (1, [])
  else if p.k = 0 then (if (get t p.nm).isSome then (5, []) else (0, put lt t p.nm []))
  else match get t p.nm with
    | none => (5, [])
    | some l =>
      if p.k = 1 then (if l = [] then (0, del t p.nm) else (5, []))
      else if p.k = 2 then (if (get t p.to).isSome then (5, []) else (0, put lt (del t p.nm) p.to l))
      else if lineE l p = 0 then (0, put lt t p.nm (lineL l p)) else (lineE l p, [])

/-- The ways in which a change can be done. -/
theorem doP_cases {t u : TR} {p : Ch} (h : doP t p = (0, u)) : mayP p = true ∧ (
    (p.k = 0 ∧ get t p.nm = none ∧ u = put lt t p.nm []) ∨ (p.k = 1 ∧ get t p.nm = some [] ∧ u = del t p.nm) ∨
    (p.k = 2 ∧ ∃ l, get t p.nm = some l ∧ get t p.to = none ∧ u = put lt (del t p.nm) p.to l) ∨
    ((p.k = 3 ∨ p.k = 4) ∧ ∃ l, get t p.nm = some l ∧ lineE l p = 0 ∧ u = put lt t p.nm (lineL l p))) := by
  unfold doP at h
  split at h
  · injection h with h _; exact absurd h (by decide)
  · rename_i hm
    have hm : mayP p = true := by simpa using hm
    refine ⟨hm, ?_⟩
    split at h
    · rename_i hk
      split at h
      · injection h with h _; exact absurd h (by decide)
      · rename_i hg
        injection h with _ h
        exact .inl ⟨hk, by simpa using hg, h.symm⟩
    · rename_i h0
      split at h
      · injection h with h _; exact absurd h (by decide)
      · rename_i l hg
        split at h
        · rename_i hk
          split at h
          · rename_i hl
            injection h with _ h
            exact .inr (.inl ⟨hk, by rw [hg, hl], h.symm⟩)
          · injection h with h _; exact absurd h (by decide)
        · rename_i h1
          split at h
          · rename_i hk
            split at h
            · injection h with h _; exact absurd h (by decide)
            · rename_i hg2
              injection h with _ h
              exact .inr (.inr (.inl ⟨hk, l, hg, by simpa using hg2, h.symm⟩))
          · rename_i h2
            split at h
            · rename_i he
              injection h with _ h
              refine .inr (.inr (.inr ⟨?_, l, hg, he, h.symm⟩))
              rcases (mayP_cases.1 hm).2 with ⟨h | h, _⟩ | ⟨h, _⟩ | ⟨h, _⟩ | ⟨h, _⟩
              · exact absurd h h0
              · exact absurd h h1
              · exact absurd h h2
              · exact .inl h
              · exact .inr h
            · rename_i he
              injection h with h _
              exact absurd h he
theorem doP_0 {t : TR} {p : Ch} (hm : mayP p = true) (hk : p.k = 0) (hg : get t p.nm = none) : doP t p = (0, put lt t p.nm []) := by
  unfold doP; rw [if_neg (by rw [hm]; decide), if_pos hk, hg]; rfl
theorem doP_1 {t : TR} {p : Ch} (hm : mayP p = true) (hk : p.k = 1) (hg : get t p.nm = some []) : doP t p = (0, del t p.nm) := by
  unfold doP; rw [if_neg (by rw [hm]; decide), if_neg (by omega), hg]; simp only; rw [if_pos hk, if_pos trivial]
theorem doP_2 {t : TR} {p : Ch} {l : List (List UInt8)} (hm : mayP p = true) (hk : p.k = 2) (hg : get t p.nm = some l) (ht : get t p.to = none) : doP t p = (0, put lt (del t p.nm) p.to l) := by
  unfold doP; rw [if_neg (by rw [hm]; decide), if_neg (by omega), hg]; simp only; rw [if_neg (by omega), if_pos hk, ht]; rfl
theorem doP_h {t : TR} {p : Ch} {l : List (List UInt8)} (hm : mayP p = true) (hk : p.k = 3 ∨ p.k = 4) (hg : get t p.nm = some l) (he : lineE l p = 0) : doP t p = (0, put lt t p.nm (lineL l p)) := by
  unfold doP; rw [if_neg (by rw [hm]; decide), if_neg (by omega), hg]; simp only; rw [if_neg (by omega), if_neg (by omega), if_pos he]

/-- The names of files behind a change rise still. -/
theorem doP_up {t u : TR} {p : Ch} (hu : Up lt t) (h : doP t p = (0, u)) : Up lt u := by
  obtain ⟨_, h⟩ := doP_cases h
  rcases h with ⟨_, _, rfl⟩ | ⟨_, _, rfl⟩ | ⟨_, l, _, _, rfl⟩ | ⟨_, l, _, _, rfl⟩
  · exact up_put lin hu _ _
  · exact up_del hu _
  · exact up_put lin (up_del hu _) _ _
  · exact up_put lin hu _ _

theorem line_back {l : List (List UInt8)} {p : Ch} (hk : p.k = 3 ∨ p.k = 4) (he : lineE l p = 0) : lineE (lineL l p) ⟨p.k, p.nm, p.to, turn p.h⟩ = 0 ∧ lineL (lineL l p) ⟨p.k, p.nm, p.to, turn p.h⟩ = l := by
  unfold lineE lineL at *
  simp only
  by_cases h3 : p.k = 3
  · simp only [h3, if_true] at he ⊢
    exact apply_back he
  · simp only [h3, if_false] at he ⊢
    have hl : l = p.h.old := by
      by_cases hl : l = p.h.old
      · exact hl
      · rw [if_neg hl] at he; exact absurd he (by decide)
    exact ⟨by rw [if_pos (show p.h.new = (turn p.h).old from rfl)], hl.symm⟩

/-- What a change changes it changes back, turned. -/
theorem doP_back {t u : TR} {p : Ch} (hu : Up lt t) (h : doP t p = (0, u)) : doP u (turnP p) = (0, t) := by
  obtain ⟨hm, h⟩ := doP_cases h
  have hmt := mayP_turn1 hm
  rcases h with ⟨hk, hg, rfl⟩ | ⟨hk, hg, rfl⟩ | ⟨hk, l, hg, ht, rfl⟩ | ⟨hk, l, hg, he, rfl⟩
  · rw [turnP_0 hk] at hmt ⊢
    rw [doP_1 hmt rfl (by rw [get_put, if_pos rfl])]
    simp only
    rw [del_put lt hg]
  · rw [turnP_1 hk] at hmt ⊢
    rw [doP_0 hmt rfl (by rw [get_del lin hu, if_pos rfl])]
    refine congrArg (Prod.mk 0) (up_ext lin (up_put lin (up_del hu _) _ _) hu fun n => ?_)
    simp only
    rw [get_put, get_del lin hu]
    by_cases hn : p.nm = n
    · subst hn; rw [if_pos rfl, hg]
    · rw [if_neg hn, if_neg hn]
  · have hne : p.to ≠ p.nm := by
      rcases (mayP_cases.1 hm).2 with ⟨h | h, _⟩ | ⟨_, _, h, _⟩ | ⟨h, _⟩ | ⟨h, _⟩
      · omega
      · omega
      · exact h
      · omega
      · omega
    rw [turnP_2 hk] at hmt ⊢
    rw [doP_2 (l := l) hmt rfl (by rw [get_put, if_pos rfl]) (by simp only; rw [get_put, if_neg hne, get_del lin hu, if_pos rfl])]
    simp only
    have hu1 := up_put lin (up_del hu p.nm) p.to l
    refine congrArg (Prod.mk 0) (up_ext lin (up_put lin (up_del hu1 _) _ _) hu fun n => ?_)
    rw [get_put, get_del lin hu1, get_put, get_del lin hu]
    by_cases hn : p.nm = n
    · subst hn; rw [if_pos rfl, hg]
    · rw [if_neg hn]
      by_cases h2 : p.to = n
      · subst h2; rw [if_pos rfl, ht]
      · rw [if_neg h2, if_neg h2, if_neg hn]
  · rw [turnP_h (by omega) (by omega) (by omega)] at hmt ⊢
    obtain ⟨e1, e2⟩ := line_back hk he
    rw [doP_h (l := lineL l p) hmt hk (by simp only; rw [get_put, if_pos rfl]) e1, e2]
    simp only
    refine congrArg (Prod.mk 0) (up_ext lin (up_put lin (up_put lin hu _ _) _ _) hu fun n => ?_)
    rw [get_put, get_put]
    by_cases hn : p.nm = n
    · subst hn; rw [if_pos rfl, hg]
    · rw [if_neg hn, if_neg hn]

/-- A change changes no other file than those it names. -/
theorem doP_keeps {t u : TR} {p : Ch} (hu : Up lt t) (h : doP t p = (0, u)) {o : List UInt8} (h1 : o ≠ p.nm) (h2 : p.k = 2 → o ≠ p.to) : get u o = get t o := by
  obtain ⟨_, h⟩ := doP_cases h
  rcases h with ⟨_, _, rfl⟩ | ⟨_, _, rfl⟩ | ⟨hk, l, _, _, rfl⟩ | ⟨_, l, _, _, rfl⟩
  · rw [get_put, if_neg h1.symm]
  · rw [get_del lin hu, if_neg h1.symm]
  · rw [get_put, if_neg (h2 hk).symm, get_del lin hu, if_neg h1.symm]
  · rw [get_put, if_neg h1.symm]

/-- One that changes nothing leaves a tree as it is. -/
theorem doP_idle {t u : TR} {p : Ch} (hu : Up lt t) (h : doP t p = (0, u)) (hi : idleP p = true) : u = t := by
  obtain ⟨_, h⟩ := doP_cases h
  unfold idleP at hi
  rw [Bool.and_eq_true, decide_eq_true_eq, decide_eq_true_eq] at hi
  rcases h with ⟨hk, _⟩ | ⟨hk, _⟩ | ⟨hk, _⟩ | ⟨hk, l, hg, he, rfl⟩
  · omega
  · omega
  · omega
  · have hl : lineL l p = l := by
      unfold lineE at he
      unfold lineL
      by_cases h3 : p.k = 3
      · rw [if_pos h3] at he ⊢
        obtain ⟨hh, hw⟩ := done_some (apply_done he)
        rw [hw, ← hi.2]
        unfold swp
        have := has_split hh
        exact this.symm
      · rw [if_neg h3] at he ⊢
        by_cases hl : l = p.h.old
        · rw [hl, hi.2]
        · rw [if_neg hl] at he; exact absurd he (by decide)
    rw [hl]
    refine up_ext lin (up_put lin hu _ _) hu fun n => ?_
    rw [get_put]
    by_cases hn : p.nm = n
    · subst hn; rw [if_pos rfl, hg]
    · rw [if_neg hn]

/-- To add, to take away, and to move can't be done twice. -/
theorem doP_once {t u : TR} {p : Ch} (hu : Up lt t) (h : doP t p = (0, u)) (hk : p.k ≤ 2) : doP u p = (5, []) := by
  obtain ⟨hm, h⟩ := doP_cases h
  rcases h with ⟨hk, hg, rfl⟩ | ⟨hk, hg, rfl⟩ | ⟨hk, l, hg, ht, rfl⟩ | ⟨hk, l, hg, he, rfl⟩
  · unfold doP; rw [if_neg (by rw [hm]; decide), if_pos hk, get_put, if_pos rfl]; rfl
  · unfold doP; rw [if_neg (by rw [hm]; decide), if_neg (by omega), get_del lin hu, if_pos rfl]
  · have hne : p.to ≠ p.nm := by
      rcases (mayP_cases.1 hm).2 with ⟨h | h, _⟩ | ⟨_, _, h, _⟩ | ⟨h, _⟩ | ⟨h, _⟩
      · omega
      · omega
      · exact h
      · omega
      · omega
    unfold doP; rw [if_neg (by rw [hm]; decide), if_neg (by omega), get_put, if_neg hne, get_del lin hu, if_pos rfl]
  · omega

/-- A change can be done only where its file is there, or, of an Add, is not; a Move's other name is free. -/
theorem doP_needs {t u : TR} {p : Ch} (hu : Up lt t) (h : doP t p = (0, u)) :
    (p.k = 0 ∧ get t p.nm = none ∧ (get u p.nm).isSome = true) ∨ (p.k = 1 ∧ (get t p.nm).isSome = true ∧ get u p.nm = none) ∨
    (p.k = 2 ∧ (get t p.nm).isSome = true ∧ get u p.nm = none ∧ get t p.to = none ∧ (get u p.to).isSome = true) ∨
    ((p.k = 3 ∨ p.k = 4) ∧ (get t p.nm).isSome = true ∧ (get u p.nm).isSome = true) := by
  obtain ⟨hm, h⟩ := doP_cases h
  rcases h with ⟨hk, hg, rfl⟩ | ⟨hk, hg, rfl⟩ | ⟨hk, l, hg, ht, rfl⟩ | ⟨hk, l, hg, he, rfl⟩
  · exact .inl ⟨hk, hg, by rw [get_put, if_pos rfl]; rfl⟩
  · exact .inr (.inl ⟨hk, by rw [hg]; rfl, by rw [get_del lin hu, if_pos rfl]⟩)
  · have hne : p.to ≠ p.nm := by
      rcases (mayP_cases.1 hm).2 with ⟨h | h, _⟩ | ⟨_, _, h, _⟩ | ⟨h, _⟩ | ⟨h, _⟩
      · omega
      · omega
      · exact h
      · omega
      · omega
    exact .inr (.inr (.inl ⟨hk, by rw [hg]; rfl, by rw [get_put, if_neg hne, get_del lin hu, if_pos rfl], ht, by rw [get_put, if_pos rfl]; rfl⟩))
  · exact .inr (.inr (.inr ⟨hk, by rw [hg]; rfl, by rw [get_put, if_pos rfl]; rfl⟩))

/-- What is told beside an error is nothing. -/
theorem doP_none {t : TR} {p : Ch} (h : (doP t p).1 ≠ 0) : (doP t p).2 = [] := by
  unfold doP at *
  split
  · rfl
  · rename_i h1
    rw [if_neg h1] at h
    split
    · rename_i h2
      rw [if_pos h2] at h
      split
      · rfl
      · rename_i h3; rw [if_neg h3] at h; exact absurd rfl h
    · rename_i h2
      rw [if_neg h2] at h
      split
      · rfl
      · rename_i l hg
        rw [hg] at h
        simp only at h
        split
        · rename_i h3
          rw [if_pos h3] at h
          split
          · rename_i h4; rw [if_pos h4] at h; exact absurd rfl h
          · rfl
        · rename_i h3
          rw [if_neg h3] at h
          split
          · rename_i h4
            rw [if_pos h4] at h
            split
            · rfl
            · rename_i h5; rw [if_neg h5] at h; exact absurd rfl h
          · rename_i h4
            rw [if_neg h4] at h
            split
            · rename_i h5; rw [if_pos h5] at h; exact absurd rfl h
            · rfl

end Pr
end Go.Proofs.Ytfjllohhjpiphaa
