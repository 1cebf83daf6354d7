/-
  Words and contracts, joined: PrPlain PrMem PrRef PrRef2 PrRefTurn PrRefDo PrSame.
-/
import Derived.Test.YtbiiabfhngdeiaaGP
import Derived.Test.YtbiiabfhngdeiaaGH
import Derived.Test.YtbiiabfhngdeiaaGQ
import Derived.Deep.Cut
import Derived.Test.YtbiiabfhngdeiaaGT
import Derived.Deep.RegionHeld3
set_option maxRecDepth 100000
namespace Go.Proofs.Ytbiiabfhngdeiaa
namespace Pr
open Tx Sq Hk Tr
set_option linter.unusedVariables false

/-- A change. -/
structure Ch where
  k : Int
  nm : List UInt8
  to : List UInt8
  h : HU

theorem ch_ext {p q : Ch} (h1 : p.k = q.k) (h2 : p.nm = q.nm) (h3 : p.to = q.to) (h4 : p.h = q.h) : p = q := by
  cases p; cases q; simp only at h1 h2 h3 h4; subst h1 h2 h3 h4; rfl

def noneH : HU := ⟨0, [], []⟩
/-- A hunk without lines, at 0. -/
def noH (h : HU) : Bool := decide (h.pos = 0) && (decide (h.old.length = 0) && decide (h.new.length = 0))
theorem noH_iff {h : HU} : noH h = true ↔ h = noneH := by
  unfold noH
  simp only [Bool.and_eq_true, decide_eq_true_eq, List.length_eq_zero_iff]
  constructor
  · rintro ⟨h1, h2, h3⟩
    cases h; simp only at h1 h2 h3; subst h1 h2 h3; rfl
  · rintro rfl
    exact ⟨rfl, rfl, rfl⟩

def mayP (p : Ch) : Bool :=
  if p.k = 0 ∨ p.k = 1 then name p.nm && (decide (p.to = []) && noH p.h)
  else if p.k = 2 then name p.nm && (name p.to && (decide (p.to ≠ p.nm) && noH p.h))
  else if p.k = 3 then name p.nm && (decide (p.to = []) && mayH p.h)
  else if p.k = 4 then name p.nm && (decide (p.to = []) && (mayH p.h && decide (p.h.pos = 0)))
  else false
theorem mayP_cases {p : Ch} : mayP p = true ↔ name p.nm = true ∧ (((p.k = 0 ∨ p.k = 1) ∧ p.to = [] ∧ p.h = noneH) ∨ (p.k = 2 ∧ name p.to = true ∧ p.to ≠ p.nm ∧ p.h = noneH) ∨ (p.k = 3 ∧ p.to = [] ∧ mayH p.h = true) ∨ (p.k = 4 ∧ p.to = [] ∧ mayH p.h = true ∧ p.h.pos = 0)) := by
  unfold mayP
  by_cases h0 : p.k = 0 ∨ p.k = 1
  · have n2 : ¬ p.k = 2 := by omega
    have n3 : ¬ p.k = 3 := by omega
    have n4 : ¬ p.k = 4 := by omega
    rw [if_pos h0]
    simp [h0, n2, n3, n4, noH_iff]
  · rw [if_neg h0]
    by_cases h2 : p.k = 2
    · simp [h2, noH_iff]
    · rw [if_neg h2]
      by_cases h3 : p.k = 3
      · simp [h3]
      · rw [if_neg h3]
        by_cases h4 : p.k = 4
        · simp [h4]
        · rw [if_neg h4]
          simp [h0, h2, h3, h4]

def sameP (p q : Ch) : Bool := decide (p.k = q.k) && (decide (p.nm = q.nm) && (decide (p.to = q.to) && sameH p.h q.h))
theorem sameP_self (p : Ch) : sameP p p = true := by simp [sameP, sameH_self]
theorem sameP_iff {p q : Ch} : sameP p q = true ↔ p = q := by
  unfold sameP sameH
  simp only [Bool.and_eq_true, decide_eq_true_eq]
  constructor
  · rintro ⟨h1, h2, h3, h4, h5, h6⟩
    refine ch_ext h1 h2 h3 ?_
    generalize p.h = a at *
    generalize q.h = b at *
    cases a; cases b; simp only at h4 h5 h6; subst h4 h5 h6; rfl
  · rintro rfl
    exact ⟨rfl, rfl, rfl, rfl, rfl, rfl⟩

def idleP (p : Ch) : Bool := decide (p.k = 3 ∨ p.k = 4) && decide (p.h.old = p.h.new)

/-- A change turned. -/
def turnP (p : Ch) : Ch :=
  if p.k = 0 then ⟨1, p.nm, p.to, p.h⟩
  else if p.k = 1 then ⟨0, p.nm, p.to, p.h⟩
  else if p.k = 2 then ⟨p.k, p.to, p.nm, p.h⟩
  else ⟨p.k, p.nm, p.to, turn p.h⟩
theorem turnP_0 {p : Ch} (h : p.k = 0) : turnP p = ⟨1, p.nm, p.to, p.h⟩ := by unfold turnP; rw [if_pos h]
theorem turnP_1 {p : Ch} (h : p.k = 1) : turnP p = ⟨0, p.nm, p.to, p.h⟩ := by unfold turnP; rw [if_neg (by omega), if_pos h]
theorem turnP_2 {p : Ch} (h : p.k = 2) : turnP p = ⟨2, p.to, p.nm, p.h⟩ := by unfold turnP; rw [if_neg (by omega), if_neg (by omega), if_pos h, h]
theorem turnP_h {p : Ch} (h0 : p.k ≠ 0) (h1 : p.k ≠ 1) (h2 : p.k ≠ 2) : turnP p = ⟨p.k, p.nm, p.to, turn p.h⟩ := by unfold turnP; rw [if_neg h0, if_neg h1, if_neg h2]
theorem turnP_turnP (p : Ch) : turnP (turnP p) = p := by
  by_cases h0 : p.k = 0
  · rw [turnP_0 h0, turnP_1 rfl]; exact ch_ext h0.symm rfl rfl rfl
  · by_cases h1 : p.k = 1
    · rw [turnP_1 h1, turnP_0 rfl]; exact ch_ext h1.symm rfl rfl rfl
    · by_cases h2 : p.k = 2
      · rw [turnP_2 h2, turnP_2 rfl]; exact ch_ext h2.symm rfl rfl rfl
      · rw [turnP_h h0 h1 h2, turnP_h (p := ⟨p.k, p.nm, p.to, turn p.h⟩) h0 h1 h2]
        exact ch_ext rfl rfl rfl (turn_turn p.h)
theorem mayP_turn1 {p : Ch} (h : mayP p = true) : mayP (turnP p) = true := by
  obtain ⟨hn, h⟩ := mayP_cases.1 h
  rw [mayP_cases]
  rcases h with ⟨h0 | h0, h1, h2⟩ | ⟨h0, h1, h2, h3⟩ | ⟨h0, h1, h2⟩ | ⟨h0, h1, h2, h3⟩
  · rw [turnP_0 h0]; exact ⟨hn, .inl ⟨.inr rfl, h1, h2⟩⟩
  · rw [turnP_1 h0]; exact ⟨hn, .inl ⟨.inl rfl, h1, h2⟩⟩
  · rw [turnP_2 h0]; exact ⟨h1, .inr (.inl ⟨rfl, hn, h2.symm, h3⟩)⟩
  · rw [turnP_h (by omega) (by omega) (by omega)]; exact ⟨hn, .inr (.inr (.inl ⟨h0, h1, by rw [mayH_turn]; exact h2⟩))⟩
  · rw [turnP_h (by omega) (by omega) (by omega)]; exact ⟨hn, .inr (.inr (.inr ⟨h0, h1, by rw [mayH_turn]; exact h2, h3⟩))⟩
theorem mayP_turn (p : Ch) : mayP (turnP p) = mayP p := by
  rw [Bool.eq_iff_iff]
  exact ⟨fun h => by have := mayP_turn1 h; rw [turnP_turnP] at this; exact this, mayP_turn1⟩

abbrev lt : List UInt8 → List UInt8 → Bool := Op.bytesLess

/-- What a file's lines become by a change of lines: an error, or lines. -/
def lineE (l : List (List UInt8)) (p : Ch) : Int := if p.k = 3 then applyE l p.h else if l = p.h.old then 0 else 5
def lineL (l : List (List UInt8)) (p : Ch) : List (List UInt8) := if p.k = 3 then applyL l p.h else p.h.new
/-- What a tree becomes by a change: an error, or a tree. -/
def doP (t : TR) (p : Ch) : Int × TR :=
  if mayP p = false then (1, [])
  else if p.k = 0 then (if (get t p.nm).isSome then (5, []) else (0, put lt t p.nm []))
  else match get t p.nm with
    | none => (5, [])
    | some l =>
      if p.k = 1 then (if l = [] then (0, del t p.nm) else (5, []))
      else if p.k = 2 then (if (get t p.to).isSome then (5, []) else (0, put lt (del t p.nm) p.to l))
      else if lineE l p = 0 then (0, put lt t p.nm (lineL l p)) else (lineE l p, [])

/-- The ways in which a change can be done. -/
theorem doP_cases {t u : TR} {p : Ch} (h : doP t p = (0, u)) : mayP p = true ∧ (
    (p.k = 0 ∧ get t p.nm = none ∧ u = put lt t p.nm []) ∨ (p.k = 1 ∧ get t p.nm = some [] ∧ u = del t p.nm) ∨
    (p.k = 2 ∧ ∃ l, get t p.nm = some l ∧ get t p.to = none ∧ u = put lt (del t p.nm) p.to l) ∨
    ((p.k = 3 ∨ p.k = 4) ∧ ∃ l, get t p.nm = some l ∧ lineE l p = 0 ∧ u = put lt t p.nm (lineL l p))) := by
  unfold doP at h
  split at h
  · injection h with h _; exact absurd h (by decide)
  · rename_i hm
    have hm : mayP p = true := by simpa using hm
    refine ⟨hm, ?_⟩
    split at h
    · rename_i hk
      split at h
      · injection h with h _; exact absurd h (by decide)
      · rename_i hg
        injection h with _ h
        exact .inl ⟨hk, by simpa using hg, h.symm⟩
    · rename_i h0
      split at h
      · injection h with h _; exact absurd h (by decide)
      · rename_i l hg
        split at h
        · rename_i hk
          split at h
          · rename_i hl
            injection h with _ h
            exact .inr (.inl ⟨hk, by rw [hg, hl], h.symm⟩)
          · injection h with h _; exact absurd h (by decide)
        · rename_i h1
          split at h
          · rename_i hk
            split at h
            · injection h with h _; exact absurd h (by decide)
            · rename_i hg2
              injection h with _ h
              exact .inr (.inr (.inl ⟨hk, l, hg, by simpa using hg2, h.symm⟩))
          · rename_i h2
            split at h
            · rename_i he
              injection h with _ h
              refine .inr (.inr (.inr ⟨?_, l, hg, he, h.symm⟩))
              rcases (mayP_cases.1 hm).2 with ⟨h | h, _⟩ | ⟨h, _⟩ | ⟨h, _⟩ | ⟨h, _⟩
              · exact absurd h h0
              · exact absurd h h1
              · exact absurd h h2
              · exact .inl h
              · exact .inr h
            · rename_i he
              injection h with h _
              exact absurd h he
theorem doP_0 {t : TR} {p : Ch} (hm : mayP p = true) (hk : p.k = 0) (hg : get t p.nm = none) : doP t p = (0, put lt t p.nm []) := by
  unfold doP; rw [if_neg (by rw [hm]; decide), if_pos hk, hg]; rfl
theorem doP_1 {t : TR} {p : Ch} (hm : mayP p = true) (hk : p.k = 1) (hg : get t p.nm = some []) : doP t p = (0, del t p.nm) := by
  unfold doP; rw [if_neg (by rw [hm]; decide), if_neg (by omega), hg]; simp only; rw [if_pos hk, if_pos trivial]
theorem doP_2 {t : TR} {p : Ch} {l : List (List UInt8)} (hm : mayP p = true) (hk : p.k = 2) (hg : get t p.nm = some l) (ht : get t p.to = none) : doP t p = (0, put lt (del t p.nm) p.to l) := by
  unfold doP; rw [if_neg (by rw [hm]; decide), if_neg (by omega), hg]; simp only; rw [if_neg (by omega), if_pos hk, ht]; rfl
theorem doP_h {t : TR} {p : Ch} {l : List (List UInt8)} (hm : mayP p = true) (hk : p.k = 3 ∨ p.k = 4) (hg : get t p.nm = some l) (he : lineE l p = 0) : doP t p = (0, put lt t p.nm (lineL l p)) := by
  unfold doP; rw [if_neg (by rw [hm]; decide), if_neg (by omega), hg]; simp only; rw [if_neg (by omega), if_neg (by omega), if_pos he]

/-- The names of files behind a change rise still. -/
theorem doP_up {t u : TR} {p : Ch} (hu : Up lt t) (h : doP t p = (0, u)) : Up lt u := by
  obtain ⟨_, h⟩ := doP_cases h
  rcases h with ⟨_, _, rfl⟩ | ⟨_, _, rfl⟩ | ⟨_, l, _, _, rfl⟩ | ⟨_, l, _, _, rfl⟩
  · exact up_put lin hu _ _
  · exact up_del hu _
  · exact up_put lin (up_del hu _) _ _
  · exact up_put lin hu _ _

theorem line_back {l : List (List UInt8)} {p : Ch} (hk : p.k = 3 ∨ p.k = 4) (he : lineE l p = 0) : lineE (lineL l p) ⟨p.k, p.nm, p.to, turn p.h⟩ = 0 ∧ lineL (lineL l p) ⟨p.k, p.nm, p.to, turn p.h⟩ = l := by
  unfold lineE lineL at *
  simp only
  by_cases h3 : p.k = 3
  · simp only [h3, if_true] at he ⊢
    exact apply_back he
  · simp only [h3, if_false] at he ⊢
    have hl : l = p.h.old := by
      by_cases hl : l = p.h.old
      · exact hl
      · rw [if_neg hl] at he; exact absurd he (by decide)
    exact ⟨by rw [if_pos (show p.h.new = (turn p.h).old from rfl)], hl.symm⟩

/-- What a change changes it changes back, turned. -/
theorem doP_back {t u : TR} {p : Ch} (hu : Up lt t) (h : doP t p = (0, u)) : doP u (turnP p) = (0, t) := by
  obtain ⟨hm, h⟩ := doP_cases h
  have hmt := mayP_turn1 hm
  rcases h with ⟨hk, hg, rfl⟩ | ⟨hk, hg, rfl⟩ | ⟨hk, l, hg, ht, rfl⟩ | ⟨hk, l, hg, he, rfl⟩
  · rw [turnP_0 hk] at hmt ⊢
    rw [doP_1 hmt rfl (by rw [get_put, if_pos rfl])]
    simp only
    rw [del_put lt hg]
  · rw [turnP_1 hk] at hmt ⊢
    rw [doP_0 hmt rfl (by rw [get_del lin hu, if_pos rfl])]
    refine congrArg (Prod.mk 0) (up_ext lin (up_put lin (up_del hu _) _ _) hu fun n => ?_)
    simp only
    rw [get_put, get_del lin hu]
    by_cases hn : p.nm = n
    · subst hn; rw [if_pos rfl, hg]
    · rw [if_neg hn, if_neg hn]
  · have hne : p.to ≠ p.nm := by
      rcases (mayP_cases.1 hm).2 with ⟨h | h, _⟩ | ⟨_, _, h, _⟩ | ⟨h, _⟩ | ⟨h, _⟩
      · omega
      · omega
      · exact h
      · omega
      · omega
    rw [turnP_2 hk] at hmt ⊢
    rw [doP_2 (l := l) hmt rfl (by rw [get_put, if_pos rfl]) (by simp only; rw [get_put, if_neg hne, get_del lin hu, if_pos rfl])]
    simp only
    have hu1 := up_put lin (up_del hu p.nm) p.to l
    refine congrArg (Prod.mk 0) (up_ext lin (up_put lin (up_del hu1 _) _ _) hu fun n => ?_)
    rw [get_put, get_del lin hu1, get_put, get_del lin hu]
    by_cases hn : p.nm = n
    · subst hn; rw [if_pos rfl, hg]
    · rw [if_neg hn]
      by_cases h2 : p.to = n
      · subst h2; rw [if_pos rfl, ht]
      · rw [if_neg h2, if_neg h2, if_neg hn]
  · rw [turnP_h (by omega) (by omega) (by omega)] at hmt ⊢
    obtain ⟨e1, e2⟩ := line_back hk he
    rw [doP_h (l := lineL l p) hmt hk (by simp only; rw [get_put, if_pos rfl]) e1, e2]
    simp only
    refine congrArg (Prod.mk 0) (up_ext lin (up_put lin (up_put lin hu _ _) _ _) hu fun n => ?_)
    rw [get_put, get_put]
    by_cases hn : p.nm = n
    · subst hn; rw [if_pos rfl, hg]
    · rw [if_neg hn, if_neg hn]

/-- A change changes no other file than those it names. -/
theorem doP_keeps {t u : TR} {p : Ch} (hu : Up lt t) (h : doP t p = (0, u)) {o : List UInt8} (h1 : o ≠ p.nm) (h2 : p.k = 2 → o ≠ p.to) : get u o = get t o := by
  obtain ⟨_, h⟩ := doP_cases h
  rcases h with ⟨_, _, rfl⟩ | ⟨_, _, rfl⟩ | ⟨hk, l, _, _, rfl⟩ | ⟨_, l, _, _, rfl⟩
  · rw [get_put, if_neg h1.symm]
  · rw [get_del lin hu, if_neg h1.symm]
  · rw [get_put, if_neg (h2 hk).symm, get_del lin hu, if_neg h1.symm]
  · rw [get_put, if_neg h1.symm]

/-- One that changes nothing leaves a tree as it is. -/
theorem doP_idle {t u : TR} {p : Ch} (hu : Up lt t) (h : doP t p = (0, u)) (hi : idleP p = true) : u = t := by
  obtain ⟨_, h⟩ := doP_cases h
  unfold idleP at hi
  rw [Bool.and_eq_true, decide_eq_true_eq, decide_eq_true_eq] at hi
  rcases h with ⟨hk, _⟩ | ⟨hk, _⟩ | ⟨hk, _⟩ | ⟨hk, l, hg, he, rfl⟩
  · omega
  · omega
  · omega
  · have hl : lineL l p = l := by
      unfold lineE at he
      unfold lineL
      by_cases h3 : p.k = 3
      · rw [if_pos h3] at he ⊢
        obtain ⟨hh, hw⟩ := done_some (apply_done he)
        rw [hw, ← hi.2]
        unfold swp
        have := has_split hh
        exact this.symm
      · rw [if_neg h3] at he ⊢
        by_cases hl : l = p.h.old
        · rw [hl, hi.2]
        · rw [if_neg hl] at he; exact absurd he (by decide)
    rw [hl]
    refine up_ext lin (up_put lin hu _ _) hu fun n => ?_
    rw [get_put]
    by_cases hn : p.nm = n
    · subst hn; rw [if_pos rfl, hg]
    · rw [if_neg hn]

/-- To add, to take away, and to move can't be done twice. -/
theorem doP_once {t u : TR} {p : Ch} (hu : Up lt t) (h : doP t p = (0, u)) (hk : p.k ≤ 2) : doP u p = (5, []) := by
  obtain ⟨hm, h⟩ := doP_cases h
  rcases h with ⟨hk, hg, rfl⟩ | ⟨hk, hg, rfl⟩ | ⟨hk, l, hg, ht, rfl⟩ | ⟨hk, l, hg, he, rfl⟩
  · unfold doP; rw [if_neg (by rw [hm]; decide), if_pos hk, get_put, if_pos rfl]; rfl
  · unfold doP; rw [if_neg (by rw [hm]; decide), if_neg (by omega), get_del lin hu, if_pos rfl]
  · have hne : p.to ≠ p.nm := by
      rcases (mayP_cases.1 hm).2 with ⟨h | h, _⟩ | ⟨_, _, h, _⟩ | ⟨h, _⟩ | ⟨h, _⟩
      · omega
      · omega
      · exact h
      · omega
      · omega
    unfold doP; rw [if_neg (by rw [hm]; decide), if_neg (by omega), get_put, if_neg hne, get_del lin hu, if_pos rfl]
  · omega

/-- A change can be done only where its file is there, or, of an Add, is not; a Move's other name is free. -/
theorem doP_needs {t u : TR} {p : Ch} (hu : Up lt t) (h : doP t p = (0, u)) :
    (p.k = 0 ∧ get t p.nm = none ∧ (get u p.nm).isSome = true) ∨ (p.k = 1 ∧ (get t p.nm).isSome = true ∧ get u p.nm = none) ∨
    (p.k = 2 ∧ (get t p.nm).isSome = true ∧ get u p.nm = none ∧ get t p.to = none ∧ (get u p.to).isSome = true) ∨
    ((p.k = 3 ∨ p.k = 4) ∧ (get t p.nm).isSome = true ∧ (get u p.nm).isSome = true) := by
  obtain ⟨hm, h⟩ := doP_cases h
  rcases h with ⟨hk, hg, rfl⟩ | ⟨hk, hg, rfl⟩ | ⟨hk, l, hg, ht, rfl⟩ | ⟨hk, l, hg, he, rfl⟩
  · exact .inl ⟨hk, hg, by rw [get_put, if_pos rfl]; rfl⟩
  · exact .inr (.inl ⟨hk, by rw [hg]; rfl, by rw [get_del lin hu, if_pos rfl]⟩)
  · have hne : p.to ≠ p.nm := by
      rcases (mayP_cases.1 hm).2 with ⟨h | h, _⟩ | ⟨_, _, h, _⟩ | ⟨h, _⟩ | ⟨h, _⟩
      · omega
      · omega
      · exact h
      · omega
      · omega
    exact .inr (.inr (.inl ⟨hk, by rw [hg]; rfl, by rw [get_put, if_neg hne, get_del lin hu, if_pos rfl], ht, by rw [get_put, if_pos rfl]; rfl⟩))
  · exact .inr (.inr (.inr ⟨hk, by rw [hg]; rfl, by rw [get_put, if_pos rfl]; rfl⟩))

/-- What is told beside an error is nothing. -/
theorem doP_none {t : TR} {p : Ch} (h : (doP t p).1 ≠ 0) : (doP t p).2 = [] := by
  unfold doP at *
  split
  · rfl
  · rename_i h1
    rw [if_neg h1] at h
    split
    · rename_i h2
      rw [if_pos h2] at h
      split
      · rfl
      · rename_i h3; rw [if_neg h3] at h; exact absurd rfl h
    · rename_i h2
      rw [if_neg h2] at h
      split
      · rfl
      · rename_i l hg
        rw [hg] at h
        simp only at h
        split
        · rename_i h3
          rw [if_pos h3] at h
          split
          · rename_i h4; rw [if_pos h4] at h; exact absurd rfl h
          · rfl
        · rename_i h3
          rw [if_neg h3] at h
          split
          · rename_i h4
            rw [if_pos h4] at h
            split
            · rfl
            · rename_i h5; rw [if_neg h5] at h; exact absurd rfl h
          · rename_i h4
            rw [if_neg h4] at h
            split
            · rename_i h5; rw [if_pos h5] at h; exact absurd rfl h
            · rfl

end Pr
end Go.Proofs.Ytbiiabfhngdeiaa

namespace Go.Proofs.Ytbiiabfhngdeiaa
open Go.ChangeShapes Go.WideShapes Go.ChangeAt Go.RowKit Go.Deep Go.Joins
set_option linter.unusedVariables false
namespace Pr
open Tx Df Sq Hk Tr

/-- The value of a change. -/
abbrev prV (k : Int) (nm to : List UInt8) (p : Int) (A : Option Addr) (n c : Nat) (A' : Option Addr) (n' c' : Nat) : Value := .agg #[.int .i64 k, strV nm, strV to, .int .i64 p, .slice A n c, .slice A' n' c']

/-- Two slice values that read, below block B, as a change's lines. -/
structure PV (w : World) (B : Nat) (A : Option Addr) (n c : Nat) (A' : Option Addr) (n' c' : Nat) (p : Ch) : Prop where
  h : HV w B A n c A' n' c' p.h
  k : I64 p.k
  nm : p.nm.length ≤ maxLen
  to : p.to.length ≤ maxLen
  s : ∀ x ∈ p.h.old, x.length ≤ maxLen
  s' : ∀ x ∈ p.h.new, x.length ≤ maxLen

section
variable {w w' : World} {B B' : Nat} {A A' : Option Addr} {n c n' c' : Nat} {p : Ch}
theorem PV.below (v : PV w B A n c A' n' c' p) (hb : Below B w w') : PV w' B A n c A' n' c' p := ⟨v.h.below hb, v.k, v.nm, v.to, v.s, v.s'⟩
theorem PV.up (v : PV w B A n c A' n' c' p) (hB : B ≤ B') : PV w B' A n c A' n' c' p := ⟨v.h.up hB, v.k, v.nm, v.to, v.s, v.s'⟩
theorem PV.mv (v : PV w w.heap.size A n c A' n' c' p) (hb : Below w.heap.size w w') : PV w' w'.heap.size A n c A' n' c' p := (v.below hb).up hb.size
theorem PV.drewN (v : PV w B A n c A' n' c' p) (d : Nat) : PV (w.drewN d) B A n c A' n' c' p := ⟨v.h.drewN d, v.k, v.nm, v.to, v.s, v.s'⟩
end

section
variable {H : Type} {enc : TypeId × Value → H} {W : World} {base : Nat} {spare : Nat → Bool} {held : Bool}

theorem array6 {α : Type} {a : Array α} (h : a.size = 6) : ∃ x0 x1 x2 x3 x4 x5, a = #[x0, x1, x2, x3, x4, x5] := by
  obtain ⟨l⟩ := a
  match l, h with
  | [x0, x1, x2, x3, x4, x5], _ => exact ⟨x0, x1, x2, x3, x4, x5, rfl⟩

theorem prim_in {r : Reach} {b0 : Nat} {v : Value} {d : DataW H} {p : List MemPlace} (hv : Value.okWide Try.prog W r b0 51 v) (h : DataW.Trod enc Try.prog W base spare held 51 v d p) :
    ∃ A n c A' n' c' x, v = prV x.k x.nm x.to x.h.pos A n c A' n' c' ∧ PV W W.heap.size A n c A' n' c' x := by
  have s6 : Try.prog.cellsOf 51 = 6 := by kernel_rfl
  have s3 : Try.prog.cellsOf 49 = 3 := by kernel_rfl
  have s1 : Try.prog.cellsOf 9 = 1 := by kernel_rfl
  have s0 : Try.prog.cellsOf 3 = 1 := by kernel_rfl
  have s2 : Try.prog.cellsOf 47 = 1 := by kernel_rfl
  obtain ⟨cs, rfl, hsz⟩ := okWide_struct Try.underlying51 hv
  obtain ⟨v0, v1, v2, v3, v4, v5, rfl⟩ := array6 (hsz.trans s6)
  obtain ⟨fuel, hf⟩ := h
  obtain ⟨xs, n, _, _, _, hlen, hf⟩ := DataW.trod_struct Try.underlying51 hf
  match xs, hlen with
  | [y0, y1, y2, y3], _ =>
    have h0 : DataW.trod enc Try.prog W base spare held n 3 (([v0, v1, v2, v3, v4, v5].drop 0).take (Try.prog.cellsOf 3)) = some y0 := by simpa [Value.cells] using hf 0 _ rfl
    have h1 : DataW.trod enc Try.prog W base spare held n 9 (([v0, v1, v2, v3, v4, v5].drop 1).take (Try.prog.cellsOf 9)) = some y1 := by simpa [Value.cells] using hf 1 _ rfl
    have h2 : DataW.trod enc Try.prog W base spare held n 9 (([v0, v1, v2, v3, v4, v5].drop 2).take (Try.prog.cellsOf 9)) = some y2 := by simpa [Value.cells] using hf 2 _ rfl
    have h3 : DataW.trod enc Try.prog W base spare held n 49 (([v0, v1, v2, v3, v4, v5].drop 3).take (Try.prog.cellsOf 49)) = some y3 := by simpa [Value.cells] using hf 3 _ rfl
    simp only [s0, s1, s3, List.drop_zero, List.take_succ_cons, List.take_zero, List.drop_succ_cons] at h0 h1 h2 h3
    obtain ⟨zs, m, _, _, _, hlen3, hf3⟩ := DataW.trod_struct Try.underlying49 h3
    match zs, hlen3 with
    | [z0, z1, z2], _ =>
      have g0 : DataW.trod enc Try.prog W base spare held m 3 (([v3, v4, v5].drop 0).take (Try.prog.cellsOf 3)) = some z0 := by simpa using hf3 0 _ rfl
      have g1 : DataW.trod enc Try.prog W base spare held m 47 (([v3, v4, v5].drop 1).take (Try.prog.cellsOf 47)) = some z1 := by simpa using hf3 1 _ rfl
      have g2 : DataW.trod enc Try.prog W base spare held m 47 (([v3, v4, v5].drop 2).take (Try.prog.cellsOf 47)) = some z2 := by simpa using hf3 2 _ rfl
      simp only [s0, s2, List.drop_zero, List.take_succ_cons, List.take_zero, List.drop_succ_cons] at g0 g1 g2
      obtain ⟨k, e0, _, w0⟩ := DataW.trod_int Try.underlying3 h0
      injection e0 with e0
      subst e0
      obtain ⟨sn, e1, _, w1⟩ := DataW.trod_string Try.underlying9 h1
      injection e1 with e1
      subst e1
      obtain ⟨so, e2, _, w2⟩ := DataW.trod_string Try.underlying9 h2
      injection e2 with e2
      subst e2
      obtain ⟨q, e3, _, w3⟩ := DataW.trod_int Try.underlying3 g0
      injection e3 with e3
      subst e3
      obtain ⟨A, n1, c1, l, rfl, s⟩ := strs_any g1
      obtain ⟨A', n2, c2, l', rfl, s'⟩ := strs_any g2
      refine ⟨A, n1, c1, A', n2, c2, ⟨k, sn.data.toList, so.data.toList, ⟨q, l, l'⟩⟩, rfl, ⟨s.len, s'.len, s.cap, s'.cap, s.le, s'.le, s.rd, s'.rd, i64_wf w3⟩, i64_wf w0, ?_, ?_, s.short, s'.short⟩
      · show sn.data.toList.length ≤ _; rw [Array.length_toList]; exact w1
      · show so.data.toList.length ≤ _; rw [Array.length_toList]; exact w2
end

end Pr
end Go.Proofs.Ytbiiabfhngdeiaa

namespace Go.Proofs.Ytbiiabfhngdeiaa
open Go.RowKit
set_option linter.unusedVariables false
set_option linter.unusedSimpArgs false
namespace Pr
open Tx Df Sq Hk Tr

theorem kinds (k : Int) : k = 0 ∨ k = 1 ∨ k = 2 ∨ k = 3 ∨ k = 4 ∨ ((k == 0) = false ∧ (k == 1) = false ∧ (k == 2) = false ∧ (k == 3) = false ∧ (k == 4) = false) := by
  by_cases h0 : k = 0
  · exact .inl h0
  by_cases h1 : k = 1
  · exact .inr (.inl h1)
  by_cases h2 : k = 2
  · exact .inr (.inr (.inl h2))
  by_cases h3 : k = 3
  · exact .inr (.inr (.inr (.inl h3)))
  by_cases h4 : k = 4
  · exact .inr (.inr (.inr (.inr (.inl h4))))
  exact .inr (.inr (.inr (.inr (.inr ⟨beq_eq_false_iff_ne.2 h0, beq_eq_false_iff_ne.2 h1, beq_eq_false_iff_ne.2 h2, beq_eq_false_iff_ne.2 h3, beq_eq_false_iff_ne.2 h4⟩))))

theorem RefNameB (x : List UInt8) (w : World) (b : Bool) (hx : x.length ≤ maxLen) (hb : name x = b) : Calls Try.prog 83 #[strV x] w fun e w' => e = .returned (.bool b) ∧ w = w' := by
  have := RefName ⟨x.toArray⟩ w (by rw [size_strV]; exact hx)
  rw [← hb]
  simpa using this

/-- The box of a change. -/
abbrev box (w : World) (k : Int) (nm to : List UInt8) (q : Int) (A : Option Addr) (n c : Nat) (A' : Option Addr) (n' c' : Nat) : World := w.alloc (.cells #[.int .i64 k, strV nm, strV to, .int .i64 q, .slice A n c, .slice A' n' c'] 51)

set_option maxHeartbeats 1000000 in
theorem refNone (A : Option Addr) (n c : Nat) (A' : Option Addr) (n' c' B : Nat) (h : HU) (w : World) (b : Bool) (hB : B ≤ w.heap.size) (hv : HV w B A n c A' n' c' h) (hb : noH h = b) :
    Calls Try.prog 85 #[hkV h.pos A n c A' n' c'] w (TestEnd w b) := by
  obtain ⟨l, l', k, k', m, m', r, r', p⟩ := hv
  have HB : Hid (b = (decide (h.pos = 0) && (decide (n = 0) && decide (n' = 0)))) := Lib.hid (by rw [← hb, ← l, ← l']; rfl)
  have hbel : Below w.heap.size w (w.alloc (.cells #[.int .i64 h.pos, .slice A n c, .slice A' n' c'] 49)) := (Below.refl _ _).alloc (Nat.le_refl _) _
  have HBEL := Lib.hid hbel
  clear l l' r r' hb hbel
  generalize h.pos = q at *
  by_cases h0 : q = 0
  · subst h0
    by_cases h1 : n = 0
    · subst h1
      by_cases h2 : n' = 0
      · subst h2
        go_enter Try.func85, Try.ntmps85
        go_wp2
        go_ret
        exact ⟨ret_bool (by rw [HB.out]; rfl), HBEL.out⟩
      · have e2 : ((n' : Int) == 0) = false := by rw [beq_eq_false_iff_ne]; omega
        go_enter Try.func85, Try.ntmps85
        go_wp2
        go_ret
        exact ⟨ret_bool (by rw [HB.out, decide_eq_false h2]; rfl), HBEL.out⟩
    · have e1 : ((n : Int) == 0) = false := by rw [beq_eq_false_iff_ne]; omega
      go_enter Try.func85, Try.ntmps85
      go_wp2
      go_ret
      exact ⟨ret_bool (by rw [HB.out, decide_eq_false h1]; simp), HBEL.out⟩
  · have e0 : (q == 0) = false := by rw [beq_eq_false_iff_ne]; exact h0
    go_enter Try.func85, Try.ntmps85
    go_wp2
    go_ret
    exact ⟨ret_bool (by rw [HB.out, decide_eq_false h0]; simp), HBEL.out⟩


set_option maxHeartbeats 4000000 in
theorem refMayP (A : Option Addr) (n c : Nat) (A' : Option Addr) (n' c' B : Nat) (p : Ch) (w : World) (mb : Bool) (hB : B ≤ w.heap.size) (hv : PV w B A n c A' n' c' p) (hmb : mayP p = mb) :
    Calls Try.prog 67 #[prV p.k p.nm p.to p.h.pos A n c A' n' c'] w (TestEnd w mb) := by
  obtain ⟨k, nm, to, h⟩ := p
  obtain ⟨vh, vk, vn, vt, vs, vs'⟩ := hv
  dsimp only at vh vk vn vt vs vs' ⊢
  obtain ⟨bn, hbn⟩ : ∃ b, name nm = b := ⟨_, rfl⟩
  obtain ⟨bt, hbt⟩ : ∃ b, name to = b := ⟨_, rfl⟩
  obtain ⟨bh, hbh⟩ : ∃ b, mayH h = b := ⟨_, rfl⟩
  obtain ⟨bo, hbo⟩ : ∃ b, noH h = b := ⟨_, rfl⟩
  have H1 := Lib.hid (fun w => RefNameB nm w bn vn hbn)
  have H2 := Lib.hid (fun w => RefNameB to w bt vt hbt)
  have h3 := fun w hB hv => refMay A n c A' n' c' B h w hB hv vs vs'
  rw [hbh] at h3
  have h4 := fun w hB hv => refNone A n c A' n' c' B h w bo hB hv hbo
  have hbx : Below w.heap.size w (box w k nm to h.pos A n c A' n' c') := (Below.refl _ _).alloc (Nat.le_refl _) _
  have HVH := Lib.hid vh; have HMB := Lib.hid hmb; have HBN := Lib.hid hbn; have HBT := Lib.hid hbt; have HBH := Lib.hid hbh; have HBO := Lib.hid hbo; have HBX := Lib.hid hbx
  obtain ⟨q, hq⟩ : ∃ q, h.pos = q := ⟨_, rfl⟩
  rw [hq] at h3 h4 HBX ⊢
  have HQ := Lib.hid hq
  have H3 := Lib.hid h3; have H4 := Lib.hid h4
  clear vh vn vt vs vs' hbn hbt hbh hbo h3 h4 hmb hbx hq
  go_enter Try.func67, Try.ntmps67
  go_wp2_with fail
  refine (H1.out _).mono ?_
  rintro e w1 ⟨rfl, rfl⟩
  go_wp2_with fail
  refine (H2.out _).mono ?_
  rintro e w1 ⟨rfl, rfl⟩
  go_wp2_with fail
  refine (H3.out (box w k nm to q A n c A' n' c') (Nat.le_trans hB HBX.out.size) (HVH.out.below (HBX.out.mono hB))).mono ?_
  rintro e w1 ⟨rfl, hb1⟩
  have b1 := (Blk.new w 51 #[.int .i64 k, strV nm, strV to, .int .i64 q, .slice A n c, .slice A' n' c']).below hb1 (by simp)
  have hb01 : Below w.heap.size w w1 := HBX.out.trans (hb1.mono HBX.out.size)
  have HB01 := Lib.hid hb01
  have HB1 := Lib.hid b1
  have x3 : w1.cell? ⟨w.heap.size, 3, none⟩ = some (.int .i64 q) := b1.cell 3 rfl
  have x4 : w1.cell? ⟨w.heap.size, 4, none⟩ = some (.slice A n c) := b1.cell 4 rfl
  have x5 : w1.cell? ⟨w.heap.size, 5, none⟩ = some (.slice A' n' c') := b1.cell 5 rfl
  clear b1 hb1 hb01
  go_wp2_with fail
  refine (H4.out w1 (Nat.le_trans hB HB01.out.size) (HVH.out.below (HB01.out.mono hB))).mono ?_
  rintro e w2 ⟨rfl, hb2⟩
  have b2 := HB1.out.below hb2 HB1.out.lt
  have hb02 : Below w.heap.size w w2 := HB01.out.trans (hb2.mono HB01.out.size)
  have HB02 := Lib.hid hb02
  clear x3 x4 x5 HB1 HB01 HBX
  have x0 : w2.cell? ⟨w.heap.size, 0, none⟩ = some (.int .i64 k) := b2.cell 0 rfl
  have x1 : w2.cell? ⟨w.heap.size, 1, none⟩ = some (strV nm) := b2.cell 1 rfl
  have x2 : w2.cell? ⟨w.heap.size, 2, none⟩ = some (strV to) := b2.cell 2 rfl
  have x3 : w2.cell? ⟨w.heap.size, 3, none⟩ = some (.int .i64 q) := b2.cell 3 rfl
  clear b2 hb2 hb02 H1 H2 H3 H4 HVH
  rcases kinds k with rfl | rfl | rfl | rfl | rfl | ⟨e0, e1, e2, e3, e4⟩
  · cases bn with
    | false =>
      have HO : Hid (mb = false) := Lib.hid (by rw [← HMB.out]; simp [mayP, HBN.out, HBT.out, HBH.out, HBO.out])
      clear HMB
      go_wp2
      go_ret
      exact ⟨ret_bool (by rw [HO.out]), HB02.out⟩
    | true =>
      by_cases ht : to = []
      · subst ht
        cases bo with
        | false =>
          have HO : Hid (mb = false) := Lib.hid (by rw [← HMB.out]; simp [mayP, HBN.out, HBT.out, HBH.out, HBO.out])
          clear HMB
          go_wp2
          go_ret
          exact ⟨ret_bool (by rw [HO.out]), HB02.out⟩
        | true =>
          have HO : Hid (mb = true) := Lib.hid (by rw [← HMB.out]; simp [mayP, HBN.out, HBT.out, HBH.out, HBO.out])
          clear HMB
          go_wp2
          go_ret
          exact ⟨ret_bool (by rw [HO.out]), HB02.out⟩
      · have et : (to == []) = false := by simpa using ht
        have HO : Hid (mb = false) := Lib.hid (by rw [← HMB.out]; simp [mayP, HBN.out, HBT.out, HBH.out, HBO.out, ht])
        clear HMB
        go_wp2
        go_ret
        exact ⟨ret_bool (by rw [HO.out]), HB02.out⟩
  · cases bn with
    | false =>
      have HO : Hid (mb = false) := Lib.hid (by rw [← HMB.out]; simp [mayP, HBN.out, HBT.out, HBH.out, HBO.out])
      clear HMB
      go_wp2
      go_ret
      exact ⟨ret_bool (by rw [HO.out]), HB02.out⟩
    | true =>
      by_cases ht : to = []
      · subst ht
        cases bo with
        | false =>
          have HO : Hid (mb = false) := Lib.hid (by rw [← HMB.out]; simp [mayP, HBN.out, HBT.out, HBH.out, HBO.out])
          clear HMB
          go_wp2
          go_ret
          exact ⟨ret_bool (by rw [HO.out]), HB02.out⟩
        | true =>
          have HO : Hid (mb = true) := Lib.hid (by rw [← HMB.out]; simp [mayP, HBN.out, HBT.out, HBH.out, HBO.out])
          clear HMB
          go_wp2
          go_ret
          exact ⟨ret_bool (by rw [HO.out]), HB02.out⟩
      · have et : (to == []) = false := by simpa using ht
        have HO : Hid (mb = false) := Lib.hid (by rw [← HMB.out]; simp [mayP, HBN.out, HBT.out, HBH.out, HBO.out, ht])
        clear HMB
        go_wp2
        go_ret
        exact ⟨ret_bool (by rw [HO.out]), HB02.out⟩
  · cases bn with
    | false =>
      have HO : Hid (mb = false) := Lib.hid (by rw [← HMB.out]; simp [mayP, HBN.out, HBT.out, HBH.out, HBO.out])
      clear HMB
      go_wp2
      go_ret
      exact ⟨ret_bool (by rw [HO.out]), HB02.out⟩
    | true =>
      cases bt with
      | false =>
        have HO : Hid (mb = false) := Lib.hid (by rw [← HMB.out]; simp [mayP, HBN.out, HBT.out, HBH.out, HBO.out])
        clear HMB
        go_wp2
        go_ret
        exact ⟨ret_bool (by rw [HO.out]), HB02.out⟩
      | true =>
        by_cases ht : to = nm
        · have et : (to == nm) = true := by simpa using ht
          have HO : Hid (mb = false) := Lib.hid (by rw [← HMB.out]; simp [mayP, HBN.out, HBT.out, HBH.out, HBO.out, ht])
          clear HMB
          go_wp2
          go_ret
          exact ⟨ret_bool (by rw [HO.out]), HB02.out⟩
        · have et : (to == nm) = false := by simpa using ht
          cases bo with
          | false =>
            have HO : Hid (mb = false) := Lib.hid (by rw [← HMB.out]; simp [mayP, HBN.out, HBT.out, HBH.out, HBO.out])
            clear HMB
            go_wp2
            go_ret
            exact ⟨ret_bool (by rw [HO.out]), HB02.out⟩
          | true =>
            have HO : Hid (mb = true) := Lib.hid (by rw [← HMB.out]; simp [mayP, HBN.out, HBT.out, HBH.out, HBO.out, ht])
            clear HMB
            go_wp2
            go_ret
            exact ⟨ret_bool (by rw [HO.out]), HB02.out⟩
  · cases bn with
    | false =>
      have HO : Hid (mb = false) := Lib.hid (by rw [← HMB.out]; simp [mayP, HBN.out, HBT.out, HBH.out, HBO.out])
      clear HMB
      go_wp2
      go_ret
      exact ⟨ret_bool (by rw [HO.out]), HB02.out⟩
    | true =>
      by_cases ht : to = []
      · subst ht
        cases bh with
        | false =>
          have HO : Hid (mb = false) := Lib.hid (by rw [← HMB.out]; simp [mayP, HBN.out, HBT.out, HBH.out, HBO.out])
          clear HMB
          go_wp2
          go_ret
          exact ⟨ret_bool (by rw [HO.out]), HB02.out⟩
        | true =>
          have HO : Hid (mb = true) := Lib.hid (by rw [← HMB.out]; simp [mayP, HBN.out, HBT.out, HBH.out, HBO.out])
          clear HMB
          go_wp2
          go_ret
          exact ⟨ret_bool (by rw [HO.out]), HB02.out⟩
      · have et : (to == []) = false := by simpa using ht
        have HO : Hid (mb = false) := Lib.hid (by rw [← HMB.out]; simp [mayP, HBN.out, HBT.out, HBH.out, HBO.out, ht])
        clear HMB
        go_wp2
        go_ret
        exact ⟨ret_bool (by rw [HO.out]), HB02.out⟩
  · cases bn with
    | false =>
      have HO : Hid (mb = false) := Lib.hid (by rw [← HMB.out]; simp [mayP, HBN.out, HBT.out, HBH.out, HBO.out])
      clear HMB
      go_wp2
      go_ret
      exact ⟨ret_bool (by rw [HO.out]), HB02.out⟩
    | true =>
      by_cases ht : to = []
      · subst ht
        cases bh with
        | false =>
          have HO : Hid (mb = false) := Lib.hid (by rw [← HMB.out]; simp [mayP, HBN.out, HBT.out, HBH.out, HBO.out])
          clear HMB
          go_wp2
          go_ret
          exact ⟨ret_bool (by rw [HO.out]), HB02.out⟩
        | true =>
          by_cases h0 : q = 0
          · have h00 : h.pos = 0 := by rw [HQ.out]; exact h0
            have e0 : (q == 0) = true := by simpa using h0
            have HO : Hid (mb = true) := Lib.hid (by rw [← HMB.out]; simp [mayP, HBN.out, HBT.out, HBH.out, HBO.out, h00])
            clear HMB
            go_wp2
            go_ret
            exact ⟨ret_bool (by rw [HO.out]), HB02.out⟩
          · have h00 : ¬ h.pos = 0 := by rw [HQ.out]; exact h0
            have e0 : (q == 0) = false := by simpa using h0
            have HO : Hid (mb = false) := Lib.hid (by rw [← HMB.out]; simp [mayP, HBN.out, HBT.out, HBH.out, HBO.out, h00])
            clear HMB
            go_wp2
            go_ret
            exact ⟨ret_bool (by rw [HO.out]), HB02.out⟩
      · have et : (to == []) = false := by simpa using ht
        have HO : Hid (mb = false) := Lib.hid (by rw [← HMB.out]; simp [mayP, HBN.out, HBT.out, HBH.out, HBO.out, ht])
        clear HMB
        go_wp2
        go_ret
        exact ⟨ret_bool (by rw [HO.out]), HB02.out⟩
  · have HO : Hid (mb = false) := Lib.hid (by
      rw [← HMB.out]
      rw [beq_eq_false_iff_ne] at e0 e1 e2 e3 e4
      simp [mayP, e0, e1, e2, e3, e4])
    clear HMB
    go_wp2
    go_ret
    exact ⟨ret_bool (by rw [HO.out]), HB02.out⟩


end Pr
end Go.Proofs.Ytbiiabfhngdeiaa

namespace Go.Proofs.Ytbiiabfhngdeiaa
open Go.RowKit
set_option linter.unusedVariables false
set_option linter.unusedSimpArgs false
namespace Pr
open Tx Df Sq Hk Tr

def lightP (p : Ch) : Bool := (light p.h.old 300 && light p.h.new 300) && (decide (p.nm.length ≤ 100) && decide (p.to.length ≤ 100))

set_option maxHeartbeats 2000000 in
theorem LightP (A : Option Addr) (n c : Nat) (A' : Option Addr) (n' c' B : Nat) (p : Ch) (w : World) (b : Bool) (hB : B ≤ w.heap.size) (hv : PV w B A n c A' n' c' p) (hb : lightP p = b) :
    Calls Try.prog 52 #[prV p.k p.nm p.to p.h.pos A n c A' n' c'] w (TestEnd w b) := by
  obtain ⟨k, nm, to, h⟩ := p
  obtain ⟨vh, vk, vn, vt, vs, vs'⟩ := hv
  dsimp only at vh vk vn vt vs vs' ⊢
  obtain ⟨bl, hbl⟩ : ∃ b, (light h.old 300 && light h.new 300) = b := ⟨_, rfl⟩
  have h3 := fun w hB hv => LightH A n c A' n' c' B h w hB hv
  rw [hbl] at h3
  have hbx : Below w.heap.size w (box w k nm to h.pos A n c A' n' c') := (Below.refl _ _).alloc (Nat.le_refl _) _
  have HL : Hid (b = (bl && (decide (nm.length ≤ 100) && decide (to.length ≤ 100)))) := Lib.hid (by rw [← hb, ← hbl]; rfl)
  have HVH := Lib.hid vh; have HBX := Lib.hid hbx; have H3 := Lib.hid h3
  obtain ⟨zn, hzn, hzn2⟩ : ∃ z : ByteArray, strV nm = .string z ∧ z.size = nm.length := ⟨_, rfl, size_strV nm⟩
  obtain ⟨zt, hzt, hzt2⟩ : ∃ z : ByteArray, strV to = .string z ∧ z.size = to.length := ⟨_, rfl, size_strV to⟩
  rw [← hzn2] at HL vn
  rw [← hzt2] at HL vt
  clear vh vs vs' hb hbl h3 hbx hzn2 hzt2
  unfold maxLen at vn vt
  unfold box at HBX
  unfold prV
  rw [hzn, hzt] at HBX ⊢
  clear hzn hzt
  generalize h.pos = q at *
  go_enter Try.func52, Try.ntmps52
  go_wp2_with fail
  refine (H3.out _ (Nat.le_trans hB HBX.out.size) (HVH.out.below (HBX.out.mono hB))).mono ?_
  rintro e w1 ⟨rfl, hb1⟩
  have b1 := (Blk.new w 51 #[.int .i64 k, .string zn, .string zt, .int .i64 q, .slice A n c, .slice A' n' c']).below hb1 (by simp)
  have hb01 : Below w.heap.size w w1 := HBX.out.trans (hb1.mono HBX.out.size)
  have HB01 := Lib.hid hb01
  have x1 : w1.cell? ⟨w.heap.size, 1, none⟩ = some (.string zn) := b1.cell 1 rfl
  have x2 : w1.cell? ⟨w.heap.size, 2, none⟩ = some (.string zt) := b1.cell 2 rfl
  clear b1 hb1 hb01 HBX H3 HVH
  cases bl with
  | false =>
    go_wp2
    go_ret
    exact ⟨ret_bool (by rw [HL.out]; rfl), HB01.out⟩
  | true =>
    by_cases h1 : zn.size ≤ 100
    · by_cases h2 : zt.size ≤ 100
      · go_wp2
        go_ret
        exact ⟨ret_bool (by rw [HL.out, decide_eq_true h1, decide_eq_true h2]; simp; omega), HB01.out⟩
      · go_wp2
        go_ret
        exact ⟨ret_bool (by rw [HL.out, decide_eq_true h1, decide_eq_false h2]; simp; omega), HB01.out⟩
    · go_wp2
      go_ret
      exact ⟨ret_bool (by rw [HL.out, decide_eq_false h1]; simp), HB01.out⟩

/-- Two boxes of changes. -/
abbrev box2 (w : World) (k k2 : Int) (nm to nm2 to2 : List UInt8) (q q2 : Int) (A : Option Addr) (n c : Nat) (A' : Option Addr) (n' c' : Nat) (D : Option Addr) (m e : Nat) (D' : Option Addr) (m' e' : Nat) : World :=
  (w.alloc (.cells #[.int .i64 k, strV nm, strV to, .int .i64 q, .slice A n c, .slice A' n' c'] 51)).alloc (.cells #[.int .i64 k2, strV nm2, strV to2, .int .i64 q2, .slice D m e, .slice D' m' e'] 51)

set_option maxHeartbeats 2000000 in
theorem refSameP (A : Option Addr) (n c : Nat) (A' : Option Addr) (n' c' : Nat) (D : Option Addr) (m e : Nat) (D' : Option Addr) (m' e' B : Nat) (p p2 : Ch) (w : World) (b : Bool) (hB : B ≤ w.heap.size) (hv : PV w B A n c A' n' c' p) (hv2 : PV w B D m e D' m' e' p2) (hb : sameP p p2 = b) :
    Calls Try.prog 42 #[prV p.k p.nm p.to p.h.pos A n c A' n' c', prV p2.k p2.nm p2.to p2.h.pos D m e D' m' e'] w (TestEnd w b) := by
  obtain ⟨k, nm, to, h⟩ := p
  obtain ⟨k2, nm2, to2, h2⟩ := p2
  obtain ⟨vh, vk, vn, vt, vs, vs'⟩ := hv
  obtain ⟨uh, uk, un, ut, us, us'⟩ := hv2
  dsimp only at vh vk vn vt vs vs' uh uk un ut us us' ⊢
  obtain ⟨bh, hbh⟩ : ∃ b, sameH h h2 = b := ⟨_, rfl⟩
  have h3 := fun w hB hv gv => refSameH A n c A' n' c' D m e D' m' e' B h h2 w hB hv gv
  rw [hbh] at h3
  have hbx : Below w.heap.size w (box2 w k k2 nm to nm2 to2 h.pos h2.pos A n c A' n' c' D m e D' m' e') := ((Below.refl _ _).alloc (Nat.le_refl _) _).alloc (by simp) _
  have HL : Hid (b = (decide (k = k2) && (decide (nm = nm2) && (decide (to = to2) && bh)))) := Lib.hid (by rw [← hb, ← hbh]; rfl)
  have HVH := Lib.hid vh; have HUH := Lib.hid uh; have HBX := Lib.hid hbx; have H3 := Lib.hid h3
  clear vh uh vs vs' us us' hb hbh h3 hbx vn vt un ut
  generalize h.pos = q at *
  generalize h2.pos = q2 at *
  go_enter Try.func42, Try.ntmps42
  go_wp2_with fail
  refine (H3.out _ (Nat.le_trans hB HBX.out.size) (HVH.out.below (HBX.out.mono hB)) (HUH.out.below (HBX.out.mono hB))).mono ?_
  rintro e1 w1 ⟨rfl, hb1⟩
  have b1 := ((Blk.new w 51 #[.int .i64 k, strV nm, strV to, .int .i64 q, .slice A n c, .slice A' n' c']).alloc (.cells #[.int .i64 k2, strV nm2, strV to2, .int .i64 q2, .slice D m e, .slice D' m' e'] 51)).below hb1 (by simp; omega)
  have b2 := (Blk.new (w.alloc (.cells #[.int .i64 k, strV nm, strV to, .int .i64 q, .slice A n c, .slice A' n' c'] 51)) 51 #[.int .i64 k2, strV nm2, strV to2, .int .i64 q2, .slice D m e, .slice D' m' e']).below hb1 (by simp)
  have hb01 : Below w.heap.size w w1 := HBX.out.trans (hb1.mono HBX.out.size)
  have HB01 := Lib.hid hb01
  have hs1 : (w.alloc (.cells #[.int .i64 k, strV nm, strV to, .int .i64 q, .slice A n c, .slice A' n' c'] 51)).heap.size = w.heap.size + 1 := by simp
  rw [hs1] at b2
  have x0 : w1.cell? ⟨w.heap.size, 0, none⟩ = some (.int .i64 k) := b1.cell 0 rfl
  have x1 : w1.cell? ⟨w.heap.size, 1, none⟩ = some (strV nm) := b1.cell 1 rfl
  have x2 : w1.cell? ⟨w.heap.size, 2, none⟩ = some (strV to) := b1.cell 2 rfl
  have y0 : w1.cell? ⟨w.heap.size + 1, 0, none⟩ = some (.int .i64 k2) := b2.cell 0 rfl
  have y1 : w1.cell? ⟨w.heap.size + 1, 1, none⟩ = some (strV nm2) := b2.cell 1 rfl
  have y2 : w1.cell? ⟨w.heap.size + 1, 2, none⟩ = some (strV to2) := b2.cell 2 rfl
  clear b1 b2 hb1 hb01 HBX H3 HVH HUH
  cases bh with
  | false =>
    go_wp2
    go_ret
    exact ⟨ret_bool (by rw [HL.out]; simp), HB01.out⟩
  | true =>
    by_cases h1 : k = k2
    · subst h1
      by_cases h2 : nm = nm2
      · subst h2
        by_cases h3 : to = to2
        · subst h3
          go_wp2
          go_ret
          exact ⟨ret_bool (by rw [HL.out]; simp), HB01.out⟩
        · have e3 : (to == to2) = false := by simpa using h3
          go_wp2
          go_ret
          exact ⟨ret_bool (by rw [HL.out]; simp [h3]), HB01.out⟩
      · have e2 : (nm == nm2) = false := by simpa using h2
        go_wp2
        go_ret
        exact ⟨ret_bool (by rw [HL.out]; simp [h2]), HB01.out⟩
    · have e1 : (k == k2) = false := by rw [beq_eq_false_iff_ne]; exact h1
      go_wp2
      go_ret
      exact ⟨ret_bool (by rw [HL.out]; simp [h1]), HB01.out⟩

end Pr
end Go.Proofs.Ytbiiabfhngdeiaa

namespace Go.Proofs.Ytbiiabfhngdeiaa
open Go.RowKit
set_option linter.unusedVariables false
set_option linter.unusedSimpArgs false
namespace Pr
open Tx Df Sq Hk Tr

/-- How a call ends that makes the change q. -/
def PTEnd (w : World) (q : Ch) (e : Ending) (w' : World) : Prop :=
  ∃ A n c A' n' c', e = .returned (prV q.k q.nm q.to q.h.pos A n c A' n' c') ∧ PV w' w'.heap.size A n c A' n' c' q ∧ q.h.old.length = n ∧ q.h.new.length = n' ∧ Below w.heap.size w w'

theorem two_box (w : World) (o o' : Obj) : Below w.heap.size w ((w.alloc o).alloc o') := ((Below.refl _ _).alloc (Nat.le_refl _) o).alloc (by simp) o'

/-- All six cells are set. -/
theorem blk6 {W : World} {b : Nat} {t : TypeId} {x0 x1 x2 x3 x4 x5 : Value} (h : Blk W b t #[x0, x1, x2, x3, x4, x5]) (v0 v1 v2 v3 v4 v5 : Value) : Blk ((((((World.setCell W ⟨b, 0, none⟩ v0).setCell ⟨b, 1, none⟩ v1).setCell ⟨b, 2, none⟩ v2).setCell ⟨b, 3, none⟩ v3).setCell ⟨b, 4, none⟩ v4).setCell ⟨b, 5, none⟩ v5) b t #[v0, v1, v2, v3, v4, v5] :=
  have b0 : Blk _ b t #[v0, x1, x2, x3, x4, x5] := h.set 0 v0
  have b1 : Blk _ b t #[v0, v1, x2, x3, x4, x5] := b0.set 1 v1
  have b2 : Blk _ b t #[v0, v1, v2, x3, x4, x5] := b1.set 2 v2
  have b3 : Blk _ b t #[v0, v1, v2, v3, x4, x5] := b2.set 3 v3
  have b4 : Blk _ b t #[v0, v1, v2, v3, v4, x5] := b3.set 4 v4
  have b5 : Blk _ b t #[v0, v1, v2, v3, v4, v5] := b4.set 5 v5
  b5
/-- The last three. -/
theorem blk3 {W : World} {b : Nat} {t : TypeId} {x0 x1 x2 x3 x4 x5 : Value} (h : Blk W b t #[x0, x1, x2, x3, x4, x5]) (v3 v4 v5 : Value) : Blk (((World.setCell W ⟨b, 3, none⟩ v3).setCell ⟨b, 4, none⟩ v4).setCell ⟨b, 5, none⟩ v5) b t #[x0, x1, x2, v3, v4, v5] :=
  have b3 : Blk _ b t #[x0, x1, x2, v3, x4, x5] := h.set 3 v3
  have b4 : Blk _ b t #[x0, x1, x2, v3, v4, x5] := b3.set 4 v4
  have b5 : Blk _ b t #[x0, x1, x2, v3, v4, v5] := b4.set 5 v5
  b5

/-- How a call ends that turns a change, its lines as they are handed in. -/
def PTEndE (A : Option Addr) (n c : Nat) (A' : Option Addr) (n' c' : Nat) (p : Ch) (w : World) (e : Ending) (w' : World) : Prop :=
  (((p.k = 0 ∨ p.k = 1 ∨ p.k = 2) ∧ e = .returned (prV (turnP p).k (turnP p).nm (turnP p).to (turnP p).h.pos A n c A' n' c')) ∨ (¬ (p.k = 0 ∨ p.k = 1 ∨ p.k = 2) ∧ e = .returned (prV (turnP p).k (turnP p).nm (turnP p).to (turnP p).h.pos A' n' c' A n c))) ∧ Below w.heap.size w w'
theorem PTEndE.end_ {A A' : Option Addr} {n c n' c' B : Nat} {p : Ch} {w w' : World} {e : Ending} (h : PTEndE A n c A' n' c' p w e w') (hB : B ≤ w.heap.size) (hv : PV w B A n c A' n' c' p) : PTEnd w (turnP p) e w' := by
  obtain ⟨h, hb⟩ := h
  have h1 := (hv.below (hb.mono hB)).up (Nat.le_trans hB hb.size)
  rcases h with ⟨hk, rfl⟩ | ⟨hk, rfl⟩
  · refine ⟨A, n, c, A', n', c', rfl, ?_, ?_, ?_, hb⟩
    · rcases hk with hk | hk | hk
      · rw [turnP_0 hk]; exact ⟨h1.h, by unfold I64; dsimp only; omega, h1.nm, h1.to, h1.s, h1.s'⟩
      · rw [turnP_1 hk]; exact ⟨h1.h, by unfold I64; dsimp only; omega, h1.nm, h1.to, h1.s, h1.s'⟩
      · rw [turnP_2 hk]; exact ⟨h1.h, by unfold I64; dsimp only; omega, h1.to, h1.nm, h1.s, h1.s'⟩
    · rcases hk with hk | hk | hk
      · rw [turnP_0 hk]; exact hv.h.l
      · rw [turnP_1 hk]; exact hv.h.l
      · rw [turnP_2 hk]; exact hv.h.l
    · rcases hk with hk | hk | hk
      · rw [turnP_0 hk]; exact hv.h.l'
      · rw [turnP_1 hk]; exact hv.h.l'
      · rw [turnP_2 hk]; exact hv.h.l'
  · have e1 : turnP p = ⟨p.k, p.nm, p.to, turn p.h⟩ := turnP_h (fun h => hk (.inl h)) (fun h => hk (.inr (.inl h))) (fun h => hk (.inr (.inr h)))
    refine ⟨A', n', c', A, n, c, rfl, ?_, ?_, ?_, hb⟩
    · rw [e1]; exact ⟨h1.h.turn, h1.k, h1.nm, h1.to, h1.s', h1.s⟩
    · rw [e1]; exact hv.h.l'
    · rw [e1]; exact hv.h.l

end Pr
end Go.Proofs.Ytbiiabfhngdeiaa

namespace Go.Proofs.Ytbiiabfhngdeiaa
open Go.RowKit
set_option linter.unusedVariables false
set_option linter.unusedSimpArgs false
namespace Pr
open Tx Df Sq Hk Tr

/-- How a call ends that changes a tree: the error and the tree. -/
def DoEnd (w : World) (r : Int × TR) (e : Ending) (w' : World) : Prop :=
  ∃ A k c, e = .returned (.tuple #[.slice A k c, .int .i64 r.1]) ∧ k ≤ c ∧ r.2.length = k ∧ RdT w' w'.heap.size A r.2 ∧ Below w.heap.size w w'
theorem doEnd_err {w w' : World} {r : Int × TR} {i : Int} (h : r = (i, [])) (hb : Below w.heap.size w w') : DoEnd w r (.returned (.tuple #[.slice none 0 0, .int .i64 i])) w' := by
  subst h
  exact ⟨none, 0, 0, rfl, Nat.le_refl _, rfl, .inl rfl, hb⟩
theorem doEnd_ok {w w' : World} {r : Int × TR} {P : TR} {A : Option Addr} {c : Nat} (h : r = (0, P)) (hc : P.length ≤ c) (hR : RdT w' w'.heap.size A P) (hb : Below w.heap.size w w') : DoEnd w r (.returned (.tuple #[.slice A P.length c, .int .i64 0])) w' := by
  subst h
  exact ⟨A, P.length, c, rfl, hc, rfl, hR, hb⟩
theorem rdT_mv {w w' : World} {A : Option Addr} {t : TR} (h : RdT w w.heap.size A t) (hb : Below w.heap.size w w') : RdT w' w'.heap.size A t := (h.below hb).up hb.size
theorem rdS_to {w w' : World} {A : Option Addr} {l : List (List UInt8)} (h : RdS w w.heap.size A l) (hb : Below w.heap.size w w') : RdS w' w'.heap.size A l := (Rd.below h hb).up hb.size
theorem below_to {w0 w w' : World} (h : Below w0.heap.size w0 w) (hb : Below w.heap.size w w') : Below w0.heap.size w0 w' := h.trans (hb.mono h.size)

/-- What a change does to a tree, from what is told of its file. -/
def doG (t : TR) (p : Ch) (g : Option (List (List UInt8))) : Int × TR :=
  match g with
  | none => (5, [])
  | some l =>
    if p.k = 1 then (if l = [] then (0, del t p.nm) else (5, []))
    else if p.k = 2 then (if (get t p.to).isSome then (5, []) else (0, put lt (del t p.nm) p.to l))
    else if lineE l p = 0 then (0, put lt t p.nm (lineL l p)) else (lineE l p, [])

theorem lightT_get {t : TR} {s : List UInt8} {l : List (List UInt8)} (h : lightT t = true) (hg : get t s = some l) : l.length ≤ 300 := by
  have hm := get_mem hg
  simp only [lightT, Bool.and_eq_true, decide_eq_true_eq, List.all_eq_true] at h
  have := (h.2 _ hm).1
  simp only [light, Bool.and_eq_true, decide_eq_true_eq] at this
  exact this.1
theorem lightP_h {p : Ch} (h : lightP p = true) : p.h.old.length ≤ 300 ∧ p.h.new.length ≤ 300 := by
  simp only [lightP, light, Bool.and_eq_true, decide_eq_true_eq] at h
  exact ⟨h.1.1.1, h.1.2.1⟩


end Pr
end Go.Proofs.Ytbiiabfhngdeiaa

namespace Go.Proofs.Ytbiiabfhngdeiaa
open Go.RowKit
set_option linter.unusedVariables false
set_option linter.unusedSimpArgs false
namespace Pr
open Tx Df Sq Hk Tr

set_option maxHeartbeats 2000000 in
theorem SameP (A : Option Addr) (n c : Nat) (A' : Option Addr) (n' c' : Nat) (D : Option Addr) (m e : Nat) (D' : Option Addr) (m' e' : Nat) (p p2 : Ch) (w : World) (b : Bool) (hv : PV w w.heap.size A n c A' n' c' p) (hv2 : PV w w.heap.size D m e D' m' e' p2) (hb : sameP p p2 = b) :
    Calls Try.prog 51 #[prV p.k p.nm p.to p.h.pos A n c A' n' c', prV p2.k p2.nm p2.to p2.h.pos D m e D' m' e'] w (TestEnd w b) := by
  obtain ⟨k, nm, to, h⟩ := p
  obtain ⟨k2, nm2, to2, h2⟩ := p2
  obtain ⟨vh, vk, vn, vt, vs, vs'⟩ := hv
  obtain ⟨uh, uk, un, ut, us, us'⟩ := hv2
  dsimp only at vh vk vn vt vs vs' uh uk un ut us us' ⊢
  obtain ⟨bh, hbh⟩ : ∃ b, sameH h h2 = b := ⟨_, rfl⟩
  have h3 := fun w1 hB hv gv => SameH A n c A' n' c' D m e D' m' e' w.heap.size h h2 w1 hB hv gv
  rw [hbh] at h3
  have hbx : Below w.heap.size w (box2 w k k2 nm to nm2 to2 h.pos h2.pos A n c A' n' c' D m e D' m' e') := ((Below.refl _ _).alloc (Nat.le_refl _) _).alloc (by simp) _
  have HL : Hid (b = (decide (k = k2) && (decide (nm = nm2) && (decide (to = to2) && bh)))) := Lib.hid (by rw [← hb, ← hbh]; rfl)
  have HVH := Lib.hid vh; have HUH := Lib.hid uh; have HBX := Lib.hid hbx; have H3 := Lib.hid h3
  clear vh uh vs vs' us us' hb hbh h3 hbx vn vt un ut
  generalize h.pos = q at *
  generalize h2.pos = q2 at *
  by_cases h1 : k = k2
  · subst h1
    by_cases h2 : nm = nm2
    · subst h2
      by_cases h3 : to = to2
      · subst h3
        go_enter Try.func51, Try.ntmps51
        go_wp2_with fail
        refine (H3.out _ HBX.out.size (HVH.out.below HBX.out) (HUH.out.below HBX.out)).mono ?_
        rintro e1 w1 ⟨rfl, hb1⟩
        have HB01 := Lib.hid (HBX.out.trans (hb1.mono HBX.out.size))
        clear hb1 HBX H3 HVH HUH
        go_wp2
        go_ret
        exact ⟨ret_bool (by rw [HL.out]; simp), HB01.out⟩
      · have e3 : (to == to2) = false := by simpa using h3
        go_enter Try.func51, Try.ntmps51
        go_wp2
        go_ret
        exact ⟨ret_bool (by rw [HL.out]; simp [h3]), HBX.out⟩
    · have e2 : (nm == nm2) = false := by simpa using h2
      go_enter Try.func51, Try.ntmps51
      go_wp2
      go_ret
      exact ⟨ret_bool (by rw [HL.out]; simp [h2]), HBX.out⟩
  · have e1 : (k == k2) = false := by rw [beq_eq_false_iff_ne]; exact h1
    go_enter Try.func51, Try.ntmps51
    go_wp2
    go_ret
    exact ⟨ret_bool (by rw [HL.out]; simp [h1]), HBX.out⟩

end Pr
end Go.Proofs.Ytbiiabfhngdeiaa
