/-
  Plain functions on lists for layer 2 (lists of lines): what stands at a place, what is swapped, and what two lists have in common; and their laws. No program is imported.
-/
namespace Go.Proofs.Ytdbhfohilfcgfaa
namespace Sq

section
variable {α : Type}
/-- l with 'now' in the place of what stands at i and is n long. -/
def swp (l : List α) (i n : Nat) (now : List α) : List α := l.take i ++ (now ++ l.drop (i + n))
theorem swp_parts (p s t now : List α) : swp (p ++ (s ++ t)) p.length s.length now = p ++ (now ++ t) := by
  simp [swp, ← List.drop_drop]
theorem swp_none {l : List α} {i : Nat} : swp l i 0 [] = l := by simp [swp]
theorem swp_all (l m : List α) : swp l 0 l.length m = m := by simp [swp]
theorem drop_step {a b : List α} {k : Nat} (ha : k < a.length) (hb : k < b.length) (h : a.drop (a.length - k) = b.drop (b.length - k)) (e : a[a.length - 1 - k]'(by omega) = b[b.length - 1 - k]'(by omega)) :
    a.drop (a.length - (k + 1)) = b.drop (b.length - (k + 1)) := by
  have ia : a.length - (k + 1) = a.length - 1 - k := by omega
  have ib : b.length - (k + 1) = b.length - 1 - k := by omega
  rw [ia, ib, List.drop_eq_getElem_cons (by omega), List.drop_eq_getElem_cons (i := b.length - 1 - k) (by omega), e, show a.length - 1 - k + 1 = a.length - k by omega, show b.length - 1 - k + 1 = b.length - k by omega, h]

end

section
variable {α : Type} [DecidableEq α]

/-- Do 'some' stand in l from 'at' on? -/
def has (l : List α) (i : Int) (s : List α) : Bool := decide (0 ≤ i ∧ i ≤ l.length ∧ (l.drop i.toNat).take s.length = s)
def front : List α → List α → Nat
  | x :: a, y :: b => if x = y then front a b + 1 else 0
  | _, _ => 0
def back (a b : List α) : Nat := front (a.drop (front a b)).reverse (b.drop (front a b)).reverse

theorem has_len {l s : List α} {i : Int} (h : has l i s = true) : 0 ≤ i ∧ i.toNat + s.length ≤ l.length := by
  simp only [has, decide_eq_true_eq] at h
  obtain ⟨h1, h2, h3⟩ := h
  have h4 := congrArg List.length h3
  simp at h4
  omega
theorem has_split {l s : List α} {i : Int} (h : has l i s = true) : l = l.take i.toNat ++ (s ++ l.drop (i.toNat + s.length)) := by
  have hl := has_len h
  simp only [has, decide_eq_true_eq] at h
  obtain ⟨h1, h2, h3⟩ := h
  conv => lhs; rw [← List.take_append_drop i.toNat l]
  congr 1
  conv => lhs; rw [← List.take_append_drop s.length (l.drop i.toNat), h3, List.drop_drop]
theorem has_of_split (p s t : List α) : has (p ++ (s ++ t)) p.length s = true := by
  simp only [has, decide_eq_true_eq]
  refine ⟨by omega, by simp; omega, by simp⟩
theorem has_parts {l s : List α} {i : Int} (h : has l i s = true) : ∃ p t, l = p ++ (s ++ t) ∧ (p.length : Int) = i := by
  have hl := has_len h
  refine ⟨_, _, has_split h, ?_⟩
  rw [List.length_take]; omega
theorem has_false {l s : List α} {i : Int} (h : i < 0 ∨ (l.length : Int) < i ∨ (l.length : Int) < i + s.length) : has l i s = false := by
  cases hb : has l i s with
  | false => rfl
  | true => have := has_len hb; omega
theorem has_at {l s : List α} {i : Nat} (h : i + s.length ≤ l.length) : has l i s = decide ((l.drop i).take s.length = s) := by
  unfold has
  refine decide_eq_decide.2 ⟨fun h => h.2.2, fun hh => ⟨by omega, by omega, hh⟩⟩

/-- Swapped, and swapped back. -/
theorem back_again {l old now : List α} {i : Int} (h : has l i old = true) :
    has (swp l i.toNat old.length now) i now = true ∧ swp (swp l i.toNat old.length now) i.toNat now.length old = l ∧ ((swp l i.toNat old.length now).length : Int) = l.length - old.length + now.length := by
  obtain ⟨p, t, rfl, rfl⟩ := has_parts h
  simp only [Int.toNat_natCast]
  rw [swp_parts, swp_parts]
  exact ⟨has_of_split _ _ _, rfl, by simp; omega⟩

theorem has_none (l : List α) (i : Int) : has l i [] = decide (0 ≤ i ∧ i ≤ l.length) := by simp [has]
theorem has_all (l : List α) : has l 0 l = true := by simpa using has_of_split [] l []

/-- Two swaps apart. -/
theorem apart {l old now other thn : List α} {i g : Nat} (h1 : has l i old = true) (h2 : has l ((i + old.length + g : Nat) : Int) other = true) :
    has (swp l i old.length now) ((i + now.length + g : Nat) : Int) other = true ∧ has (swp l (i + old.length + g) other.length thn) i old = true ∧
    swp (swp l i old.length now) (i + now.length + g) other.length thn = swp (swp l (i + old.length + g) other.length thn) i old.length now := by
  obtain ⟨p, t, rfl, hp⟩ := has_parts h1
  obtain rfl : p.length = i := by omega
  obtain ⟨q, r, hq, hl⟩ := has_parts h2
  have hql : q.length = p.length + old.length + g := by omega
  have e1 : q = p ++ (old ++ (t.take g)) := by
    have := congrArg (List.take q.length) hq
    rw [List.take_left] at this
    rw [← this, hql]
    simp [List.take_append]
    rw [List.take_of_length_le (by omega), List.take_of_length_le (by omega), show p.length + old.length + g - p.length - old.length = g by omega]
  have hg : g ≤ t.length := by
    have := congrArg List.length e1
    simp at this; omega
  have e2 : t = t.take g ++ (other ++ r) := by
    rw [e1] at hq
    have h3 : p ++ (old ++ t) = p ++ (old ++ (t.take g ++ (other ++ r))) := by rw [hq]; simp
    exact List.append_cancel_left (List.append_cancel_left h3)
  generalize hu : t.take g = u at e2
  have hul : u.length = g := by rw [← hu, List.length_take]; omega
  clear hu e1 hg hq hl hql h1 h2 hp
  subst e2
  subst hul
  have w1 : swp (p ++ (old ++ (u ++ (other ++ r)))) p.length old.length now = p ++ (now ++ (u ++ (other ++ r))) := swp_parts _ _ _ _
  have w2 : swp (p ++ (old ++ (u ++ (other ++ r)))) (p.length + old.length + u.length) other.length thn = p ++ (old ++ (u ++ (thn ++ r))) := by
    have := swp_parts (p ++ (old ++ u)) other r thn
    simpa [Nat.add_assoc] using this
  rw [w1, w2, swp_parts]
  have a1 := has_of_split (p ++ (now ++ u)) other r
  have a2 := swp_parts (p ++ (now ++ u)) other r thn
  refine ⟨by simpa [Nat.add_assoc] using a1, has_of_split _ _ _, by simpa [Nat.add_assoc] using a2⟩

theorem front_le : ∀ (a b : List α), front a b ≤ a.length ∧ front a b ≤ b.length
  | [], _ => by simp [front]
  | _ :: _, [] => by simp [front]
  | x :: a, y :: b => by
    have := front_le a b
    unfold front
    split <;> simp <;> omega
theorem front_take : ∀ (a b : List α), a.take (front a b) = b.take (front a b)
  | [], _ => by simp [front]
  | _ :: _, [] => by simp [front]
  | x :: a, y :: b => by
    unfold front
    split
    · rename_i e; subst e; simp [front_take a b]
    · simp
theorem front_comm : ∀ (a b : List α), front a b = front b a
  | [], [] => rfl
  | [], _ :: _ => by simp [front]
  | _ :: _, [] => by simp [front]
  | x :: a, y :: b => by
    unfold front
    by_cases e : x = y
    · subst e; simp [front_comm a b]
    · have : ¬ y = x := fun h => e h.symm
      simp [e, this]
theorem front_ne : ∀ (a b : List α) (h1 : front a b < a.length) (h2 : front a b < b.length), a[front a b] ≠ b[front a b]
  | [], _, h, _ => by simp at h
  | _ :: _, [], _, h => by simp at h
  | x :: a, y :: b, h1, h2 => by
    by_cases e : x = y
    · subst e
      have hf : front (x :: a) (x :: b) = front a b + 1 := by simp [front]
      simp only [hf, List.getElem_cons_succ]
      rw [hf] at h1 h2
      exact front_ne a b (by simpa using h1) (by simpa using h2)
    · have hf : front (x :: a) (y :: b) = 0 := by simp [front, e]
      simp only [hf, List.getElem_cons_zero]
      exact e
/-- What a loop finds: k are the same, and then not. -/
theorem front_is {a b : List α} {k : Nat} (h : a.take k = b.take k) (ha : k ≤ a.length) (hb : k ≤ b.length) (hne : k = a.length ∨ k = b.length ∨ ∃ (h1 : k < a.length) (h2 : k < b.length), a[k] ≠ b[k]) : front a b = k := by
  have hl := front_le a b
  have ht := front_take a b
  rcases Nat.lt_trichotomy (front a b) k with hlt | he | hgt
  · exfalso
    refine front_ne a b (by omega) (by omega) ?_
    have := congrArg (fun l => l[front a b]?) h
    simp only [List.getElem?_take, hlt, if_true] at this
    rw [List.getElem?_eq_getElem (by omega), List.getElem?_eq_getElem (by omega)] at this
    exact Option.some.inj this
  · exact he
  · rcases hne with h1 | h1 | ⟨h1, h2, h3⟩
    · omega
    · omega
    · exfalso; apply h3
      have := congrArg (fun l => l[k]?) ht
      simp only [List.getElem?_take, hgt, if_true] at this
      rw [List.getElem?_eq_getElem h1, List.getElem?_eq_getElem h2] at this
      exact Option.some.inj this

theorem back_comm (a b : List α) : back a b = back b a := by
  unfold back
  rw [front_comm a b, front_comm]
theorem back_le (a b : List α) : front a b + back a b ≤ a.length ∧ front a b + back a b ≤ b.length := by
  have h1 := front_le a b
  have h2 := front_le (a.drop (front a b)).reverse (b.drop (front a b)).reverse
  simp only [List.length_reverse, List.length_drop] at h2
  unfold back
  omega
theorem back_same (a b : List α) : a.drop (a.length - back a b) = b.drop (b.length - back a b) := by
  have h := back_le a b
  have ht := front_take (a.drop (front a b)).reverse (b.drop (front a b)).reverse
  change List.take (back a b) _ = List.take (back a b) _ at ht
  rw [List.take_reverse, List.take_reverse] at ht
  have ht := List.reverse_inj.1 ht
  rw [List.length_drop, List.length_drop, List.drop_drop, List.drop_drop, show front a b + (a.length - front a b - back a b) = a.length - back a b by omega, show front a b + (b.length - front a b - back a b) = b.length - back a b by omega] at ht
  exact ht
/-- The last k lines behind f, one by one. -/
theorem back_is {a b : List α} {k : Nat} (ha : front a b + k ≤ a.length) (hb : front a b + k ≤ b.length) (h : a.drop (a.length - k) = b.drop (b.length - k))
    (hne : front a b + k = a.length ∨ front a b + k = b.length ∨ ∃ (h1 : a.length - 1 - k < a.length) (h2 : b.length - 1 - k < b.length), a[a.length - 1 - k] ≠ b[b.length - 1 - k]) : back a b = k := by
  unfold back
  generalize front a b = f at *
  refine front_is ?_ (by simp; omega) (by simp; omega) ?_
  · rw [List.take_reverse, List.take_reverse, List.length_drop, List.length_drop, List.drop_drop, List.drop_drop, show f + (a.length - f - k) = a.length - k by omega, show f + (b.length - f - k) = b.length - k by omega, h]
  · rcases hne with h1 | h1 | ⟨h1, h2, h3⟩
    · exact .inl (by simp; omega)
    · exact .inr (.inl (by simp; omega))
    · by_cases e1 : f + k = a.length
      · exact .inl (by simp; omega)
      · by_cases e2 : f + k = b.length
        · exact .inr (.inl (by simp; omega))
        · refine .inr (.inr ⟨by simp; omega, by simp; omega, ?_⟩)
          simp only [List.getElem_reverse, List.getElem_drop, List.length_drop]
          have i1 : f + (a.length - f - 1 - k) = a.length - 1 - k := by omega
          have i2 : f + (b.length - f - 1 - k) = b.length - 1 - k := by omega
          simp only [i1, i2]
          exact h3
/-- The last k lines, one by one. -/
theorem tail_is {a b : List α} {k : Nat} (ha : k ≤ a.length) (hb : k ≤ b.length) (h : a.drop (a.length - k) = b.drop (b.length - k))
    (hne : k = a.length ∨ k = b.length ∨ ∃ (h1 : a.length - 1 - k < a.length) (h2 : b.length - 1 - k < b.length), a[a.length - 1 - k] ≠ b[b.length - 1 - k]) : front a.reverse b.reverse = k := by
  refine front_is ?_ (by simp; omega) (by simp; omega) ?_
  · rw [List.take_reverse, List.take_reverse, h]
  · rcases hne with h1 | h1 | ⟨h1, h2, h3⟩
    · exact .inl (by simp; omega)
    · exact .inr (.inl (by simp; omega))
    · by_cases e1 : k = a.length
      · exact .inl (by simp; omega)
      · by_cases e2 : k = b.length
        · exact .inr (.inl (by simp; omega))
        · refine .inr (.inr ⟨by simp; omega, by simp; omega, ?_⟩)
          simp only [List.getElem_reverse]
          exact h3

/-- What two lists have in common stands in both. -/
theorem has_front (a b : List α) : has a 0 (b.take (front a b)) = true := by
  have hl := front_le a b
  have := has_at (l := a) (s := b.take (front a b)) (i := 0) (by simp; omega)
  rw [show ((0 : Nat) : Int) = 0 from rfl] at this
  rw [this]
  have hm : (b.take (front a b)).length = front a b := by rw [List.length_take]; omega
  rw [hm, List.drop_zero]
  exact decide_eq_true (front_take a b)
theorem has_back (a b : List α) : has a ((a.length - back a b : Nat) : Int) (b.drop (b.length - back a b)) = true := by
  have hl := back_le a b
  have hm : (b.drop (b.length - back a b)).length = back a b := by rw [List.length_drop]; omega
  rw [has_at (by rw [hm]; omega)]
  rw [hm, back_same, List.take_of_length_le (by rw [hm]; omega)]
  exact decide_eq_true rfl

end
end Sq
end Go.Proofs.Ytdbhfohilfcgfaa
