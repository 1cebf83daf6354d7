/-
  Plain functions for layer 6 (hunks that pass one another), and their laws. No program is imported.
-/
import Derived.Test.YtdbhfohilfcgfaaHkPlain
namespace Go.Proofs.Ytdbhfohilfcgfaa
namespace Sw
open Sq Hk

section
variable {α : Type}

/-- A hunk at another place. -/
def at_ (h : Hu α) (i : Int) : Hu α := ⟨i, h.old, h.new⟩
/-- Behind one that is not behind it: the second one's lines stand behind the first one's. -/
def ahead (p q : Hu α) : Option (Hu α × Hu α) := if p.pos + p.new.length < q.pos then some (at_ q (q.pos - p.new.length + p.old.length), p) else none
def behind (p q : Hu α) : Option (Hu α × Hu α) := if q.pos + q.old.length < p.pos then some (q, at_ p (p.pos - q.old.length + q.new.length)) else none
/-- What two hunks are when the second one is ahead. -/
def pass (p q : Hu α) : Option (Hu α × Hu α) := (ahead p q).or (behind p q)

theorem hu_ext {g h : Hu α} (h1 : g.pos = h.pos) (h2 : g.old = h.old) (h3 : g.new = h.new) : g = h := by
  cases g; cases h; simp only at h1 h2 h3; subst h1 h2 h3; rfl

/-- The two ways to pass. -/
theorem pass_cases {p q x y : Hu α} (h : pass p q = some (x, y)) :
    (p.pos + p.new.length < q.pos ∧ x = at_ q (q.pos - p.new.length + p.old.length) ∧ y = p) ∨ (q.pos + q.old.length < p.pos ∧ x = q ∧ y = at_ p (p.pos - q.old.length + q.new.length)) := by
  unfold pass ahead behind at h
  split at h
  · rw [Option.some_or] at h
    injection h with h; injection h with h1 h2
    exact .inl ⟨by assumption, h1.symm, h2.symm⟩
  · rw [Option.none_or] at h
    split at h
    · injection h with h; injection h with h1 h2
      exact .inr ⟨by assumption, h1.symm, h2.symm⟩
    · cases h
theorem pass_ahead {p q : Hu α} (h : p.pos + p.new.length < q.pos) : pass p q = some (at_ q (q.pos - p.new.length + p.old.length), p) := by
  unfold pass ahead; rw [if_pos h]; rfl
theorem pass_behind {p q : Hu α} (h : q.pos + q.old.length < p.pos) : pass p q = some (q, at_ p (p.pos - q.old.length + q.new.length)) := by
  unfold pass ahead behind; rw [if_neg (by omega), if_pos h]; rfl
theorem pass_none {p q : Hu α} (h1 : ¬ p.pos + p.new.length < q.pos) (h2 : ¬ q.pos + q.old.length < p.pos) : pass p q = none := by
  unfold pass ahead behind; rw [if_neg h1, if_neg h2]; rfl

/-- Those that passed one another pass back to what they were. -/
theorem pass_back {p q x y : Hu α} (h : pass p q = some (x, y)) : pass x y = some (p, q) := by
  rcases pass_cases h with ⟨h1, rfl, rfl⟩ | ⟨h1, rfl, rfl⟩
  · rw [pass_behind (by simp only [at_]; omega)]
    exact congrArg some (Prod.ext rfl (hu_ext (by simp only [at_]; omega) rfl rfl))
  · rw [pass_ahead (by simp only [at_]; omega)]
    exact congrArg some (Prod.ext (hu_ext (by simp only [at_]; omega) rfl rfl) rfl)

/-- Turned they pass in the other order. -/
theorem pass_turn {p q x y : Hu α} (h : pass p q = some (x, y)) : pass (turn q) (turn p) = some (turn y, turn x) := by
  rcases pass_cases h with ⟨h1, rfl, rfl⟩ | ⟨h1, rfl, rfl⟩
  · rw [pass_behind (by simp only [turn]; omega)]; rfl
  · rw [pass_ahead (by simp only [turn]; omega)]; rfl
theorem pass_turn_none {p q : Hu α} (h : pass p q = none) : pass (turn q) (turn p) = none := by
  cases hb : pass (turn q) (turn p) with
  | none => rfl
  | some z =>
    have := pass_turn (x := z.1) (y := z.2) (p := turn q) (q := turn p) hb
    rw [turn_turn, turn_turn, h] at this
    cases this

/-- Just one moves, and the lines stay. -/
theorem pass_moves {p q x y : Hu α} (h : pass p q = some (x, y)) :
    ((y.pos = p.pos ∧ x.pos = q.pos - p.new.length + p.old.length) ∨ (x.pos = q.pos ∧ y.pos = p.pos - q.old.length + q.new.length)) ∧ x.old = q.old ∧ x.new = q.new ∧ y.old = p.old ∧ y.new = p.new := by
  rcases pass_cases h with ⟨_, rfl, rfl⟩ | ⟨_, rfl, rfl⟩
  · exact ⟨.inl ⟨rfl, rfl⟩, rfl, rfl, rfl, rfl⟩
  · exact ⟨.inr ⟨rfl, rfl⟩, rfl, rfl, rfl, rfl⟩
/-- Where they stand then is not below nought. -/
theorem pass_pos {p q x y : Hu α} (h : pass p q = some (x, y)) (hp : 0 ≤ p.pos) (hq : 0 ≤ q.pos) : 0 ≤ x.pos ∧ 0 ≤ y.pos := by
  rcases pass_cases h with ⟨h1, rfl, rfl⟩ | ⟨h1, rfl, rfl⟩
  · exact ⟨by simp only [at_]; omega, hp⟩
  · exact ⟨hq, by simp only [at_]; omega⟩
/-- Two that touch do not pass. -/
theorem pass_touch {p q : Hu α} (h1 : p.pos ≤ q.pos) (h2 : q.pos ≤ p.pos + p.new.length) : pass p q = none := pass_none (by omega) (by omega)

/-- Three of which each two pass one another come to the same by either way. -/
theorem pass_three {p q r q1 p1 r1 p2 r2 q2 r3 q3 r4 p3 q4 p4 : Hu α} (i : pass p q = some (q1, p1)) (j : pass p1 r = some (r1, p2)) (k : pass q1 r1 = some (r2, q2))
    (l : pass q r = some (r3, q3)) (m : pass p r3 = some (r4, p3)) (n : pass p3 q3 = some (q4, p4)) : r2 = r4 ∧ q2 = q4 ∧ p2 = p4 := by
  rcases pass_cases i with ⟨i1, rfl, rfl⟩ | ⟨i1, rfl, rfl⟩ <;> rcases pass_cases j with ⟨j1, rfl, rfl⟩ | ⟨j1, rfl, rfl⟩ <;> rcases pass_cases k with ⟨k1, rfl, rfl⟩ | ⟨k1, rfl, rfl⟩ <;>
    rcases pass_cases l with ⟨l1, rfl, rfl⟩ | ⟨l1, rfl, rfl⟩ <;> rcases pass_cases m with ⟨m1, rfl, rfl⟩ | ⟨m1, rfl, rfl⟩ <;> rcases pass_cases n with ⟨n1, rfl, rfl⟩ | ⟨n1, rfl, rfl⟩ <;>
    simp only [at_] at i1 j1 k1 l1 m1 n1 <;>
    first
      | (exfalso; omega)
      | exact ⟨hu_ext (by simp only [at_] <;> omega) rfl rfl, hu_ext (by simp only [at_] <;> omega) rfl rfl, hu_ext (by simp only [at_] <;> omega) rfl rfl⟩

variable [DecidableEq α]

/-- Where two change a list, one behind the other, those that are told do so, to the same. -/
theorem pass_same {l m n : List α} {p q x y : Hu α} (h : pass p q = some (x, y)) (h1 : done l p = some m) (h2 : done m q = some n) : ∃ k, done l x = some k ∧ done k y = some n := by
  obtain ⟨hp, rfl⟩ := done_some h1
  obtain ⟨hq, rfl⟩ := done_some h2
  obtain ⟨b1, b2, _⟩ := back_again (now := p.new) hp
  have z1 := (has_len hp).1
  have z2 := (has_len hq).1
  rcases pass_cases h with ⟨c, rfl, rfl⟩ | ⟨c, rfl, rfl⟩
  · obtain ⟨i, hi⟩ : ∃ i : Nat, y.pos = i := ⟨y.pos.toNat, by omega⟩
    obtain ⟨g, hg⟩ : ∃ g : Nat, q.pos = ((i + y.new.length + g : Nat) : Int) := ⟨(q.pos - i - y.new.length).toNat, by omega⟩
    rw [hi, Int.toNat_natCast] at b1 b2
    rw [hi, Int.toNat_natCast, hg] at hq
    obtain ⟨a1, a2, a3⟩ := apart (now := y.old) (thn := q.new) b1 hq
    rw [b2] at a1 a3
    obtain ⟨e1, e2, _⟩ := back_again (now := y.old) a2
    rw [Int.toNat_natCast] at e1 e2
    rw [← a3] at e1 e2
    have hx : (at_ q (q.pos - y.new.length + y.old.length)).pos = ((i + y.old.length + g : Nat) : Int) := by simp only [at_]; omega
    refine ⟨swp l (i + y.old.length + g) q.old.length q.new, ?_, ?_⟩
    · rw [done_yes (by rw [hx]; exact a1), hx, Int.toNat_natCast]; rfl
    · rw [done_yes (by rw [hi]; exact e1), hi, hg, Int.toNat_natCast, Int.toNat_natCast, e2]
  · obtain ⟨i, hi⟩ : ∃ i : Nat, x.pos = i := ⟨x.pos.toNat, by omega⟩
    obtain ⟨g, hg⟩ : ∃ g : Nat, p.pos = ((i + x.old.length + g : Nat) : Int) := ⟨(p.pos - i - x.old.length).toNat, by omega⟩
    rw [hg, Int.toNat_natCast] at b1 b2 hq
    rw [hi] at hq
    obtain ⟨a1, a2, a3⟩ := apart (now := x.new) (thn := p.old) hq b1
    rw [b2] at a2 a3
    obtain ⟨e1, e2, _⟩ := back_again (now := p.old) a1
    rw [Int.toNat_natCast] at e1 e2
    rw [a3] at e1 e2
    have hx : (at_ p (p.pos - x.old.length + x.new.length)).pos = ((i + x.new.length + g : Nat) : Int) := by simp only [at_]; omega
    refine ⟨swp l i x.old.length x.new, ?_, ?_⟩
    · rw [done_yes (by rw [hi]; exact a2), hi, Int.toNat_natCast]
    · rw [done_yes (by rw [hx]; exact e1), hx, Int.toNat_natCast, hi, hg, Int.toNat_natCast, Int.toNat_natCast]
      exact congrArg some e2

end
end Sw
end Go.Proofs.Ytdbhfohilfcgfaa
