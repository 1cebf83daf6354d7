/-
  Plain functions on lists for layer 3 (what two lists have in common), and their laws. No program is imported.
-/
namespace Go.Proofs.Ytdbhfohilfcgfaa
namespace Lc

section
variable {α : Type} [DecidableEq α]

/-- What two lists have in common, from their first places on. -/
def lcs : List α → List α → Nat
  | x :: a, y :: b => if x = y then lcs a b + 1 else if lcs (x :: a) b ≤ lcs a (y :: b) then lcs a (y :: b) else lcs (x :: a) b
  | _, _ => 0
  termination_by a b => a.length + b.length

theorem lcs_nil_left (b : List α) : lcs [] b = 0 := by unfold lcs; rfl
theorem lcs_nil_right (a : List α) : lcs a [] = 0 := by cases a <;> (unfold lcs; rfl)
theorem lcs_same (x : α) (a b : List α) : lcs (x :: a) (x :: b) = lcs a b + 1 := by conv => lhs; unfold lcs; rw [if_pos rfl]
theorem lcs_ne {x y : α} (a b : List α) (h : x ≠ y) : lcs (x :: a) (y :: b) = if lcs (x :: a) b ≤ lcs a (y :: b) then lcs a (y :: b) else lcs (x :: a) b := by
  conv => lhs; unfold lcs; rw [if_neg h]

/-- No more lines stand in both in order. -/
theorem lcs_max : ∀ (n : Nat) (a b s : List α), a.length + b.length ≤ n → s.Sublist a → s.Sublist b → s.length ≤ lcs a b
  | 0, a, b, s, hn, h1, h2 => by
    have := h1.length_le
    omega
  | n + 1, [], b, s, hn, h1, h2 => by
    have := h1.length_le
    rw [List.length_nil] at this; omega
  | n + 1, x :: a, [], s, hn, h1, h2 => by
    have := h2.length_le
    rw [List.length_nil] at this; omega
  | n + 1, x :: a, y :: b, s, hn, h1, h2 => by
    simp only [List.length_cons] at hn
    cases s with
    | nil => simp
    | cons z t =>
      by_cases e : x = y
      · subst e
        rw [lcs_same]
        have t1 : t.Sublist a := by
          rcases List.sublist_cons_iff.1 h1 with h | ⟨r, hr, h⟩
          · exact (List.sublist_cons_self z t).trans h
          · cases hr; exact h
        have t2 : t.Sublist b := by
          rcases List.sublist_cons_iff.1 h2 with h | ⟨r, hr, h⟩
          · exact (List.sublist_cons_self z t).trans h
          · cases hr; exact h
        have := lcs_max n a b t (by omega) t1 t2
        simp only [List.length_cons]; omega
      · rw [lcs_ne a b e]
        have : (z :: t).length ≤ lcs a (y :: b) ∨ (z :: t).length ≤ lcs (x :: a) b := by
          rcases List.sublist_cons_iff.1 h1 with h | ⟨r, hr, h⟩
          · exact .inl (lcs_max n a (y :: b) _ (by simp only [List.length_cons]; omega) h h2)
          · cases hr
            rcases List.sublist_cons_iff.1 h2 with h' | ⟨r, hr, h'⟩
            · exact .inr (lcs_max n (x :: a) b _ (by simp only [List.length_cons]; omega) h1 h')
            · cases hr; exact absurd rfl e
        split <;> omega
theorem le_lcs {a b s : List α} (h1 : s.Sublist a) (h2 : s.Sublist b) : s.length ≤ lcs a b := lcs_max _ a b s (Nat.le_refl _) h1 h2

/-- So many do. -/
theorem lcs_has : ∀ (n : Nat) (a b : List α), a.length + b.length ≤ n → ∃ s : List α, s.Sublist a ∧ s.Sublist b ∧ s.length = lcs a b
  | _, [], b, _ => ⟨[], List.nil_sublist _, List.nil_sublist _, by rw [lcs_nil_left]; rfl⟩
  | _, x :: a, [], _ => ⟨[], List.nil_sublist _, List.nil_sublist _, by rw [lcs_nil_right]; rfl⟩
  | 0, x :: a, y :: b, hn => by simp at hn
  | n + 1, x :: a, y :: b, hn => by
    simp only [List.length_cons] at hn
    by_cases e : x = y
    · subst e
      obtain ⟨s, h1, h2, h3⟩ := lcs_has n a b (by omega)
      exact ⟨x :: s, h1.cons_cons x, h2.cons_cons x, by rw [lcs_same, ← h3]; rfl⟩
    · rw [lcs_ne a b e]
      split
      · obtain ⟨s, h1, h2, h3⟩ := lcs_has n a (y :: b) (by simp only [List.length_cons]; omega)
        exact ⟨s, h1.cons x, h2, h3⟩
      · obtain ⟨s, h1, h2, h3⟩ := lcs_has n (x :: a) b (by simp only [List.length_cons]; omega)
        exact ⟨s, h1, h2.cons y, h3⟩
theorem lcs_some (a b : List α) : ∃ s : List α, s.Sublist a ∧ s.Sublist b ∧ s.length = lcs a b := lcs_has _ a b (Nat.le_refl _)
/-- It is the one number that is so. -/
theorem lcs_eq {a b : List α} {n : Nat} (h1 : ∃ s : List α, s.Sublist a ∧ s.Sublist b ∧ s.length = n) (h2 : ∀ s : List α, s.Sublist a → s.Sublist b → s.length ≤ n) : lcs a b = n := by
  obtain ⟨s, s1, s2, s3⟩ := h1
  obtain ⟨t, t1, t2, t3⟩ := lcs_some a b
  have u1 := le_lcs s1 s2
  have u2 := h2 t t1 t2
  omega

theorem lcs_comm (a b : List α) : lcs a b = lcs b a := by
  obtain ⟨t, t1, t2, t3⟩ := lcs_some b a
  exact lcs_eq ⟨t, t2, t1, t3⟩ fun s s1 s2 => le_lcs s2 s1
theorem lcs_le (a b : List α) : lcs a b ≤ a.length ∧ lcs a b ≤ b.length := by
  obtain ⟨t, t1, t2, t3⟩ := lcs_some a b
  have := t1.length_le
  have := t2.length_le
  omega
theorem lcs_part {a b : List α} (h : a.Sublist b) : lcs a b = a.length := lcs_eq ⟨a, List.Sublist.refl _, h, rfl⟩ fun _ s1 _ => s1.length_le
theorem lcs_self (a : List α) : lcs a a = a.length := lcs_part (List.Sublist.refl _)
theorem lcs_mid (a b c : List α) : lcs a (b ++ a ++ c) = a.length :=
  lcs_part ((List.sublist_append_right b a).trans (List.sublist_append_left _ c))
theorem lcs_reverse (a b : List α) : lcs a.reverse b.reverse = lcs a b := by
  obtain ⟨t, t1, t2, t3⟩ := lcs_some a b
  refine lcs_eq ⟨t.reverse, t1.reverse, t2.reverse, by simpa using t3⟩ fun s s1 s2 => ?_
  have := le_lcs (by simpa using s1.reverse : s.reverse.Sublist a) (by simpa using s2.reverse : s.reverse.Sublist b)
  simpa using this
theorem lcs_front (p a b : List α) : lcs (p ++ a) (p ++ b) = p.length + lcs a b := by
  induction p with
  | nil => simp
  | cons x p ih => rw [List.cons_append, List.cons_append, lcs_same, ih]; simp only [List.length_cons]; omega
theorem lcs_behind (a b q : List α) : lcs (a ++ q) (b ++ q) = lcs a b + q.length := by
  rw [← lcs_reverse, List.reverse_append, List.reverse_append, lcs_front, lcs_reverse]; simp; omega
/-- One line more at the end of both, and of one. -/
theorem lcs_snoc (a b : List α) (s : α) : lcs (a ++ [s]) (b ++ [s]) = lcs a b + 1 := lcs_behind a b [s]
theorem lcs_mono {a a' : List α} (b : List α) (h : a.Sublist a') : lcs a b ≤ lcs a' b := by
  obtain ⟨t, t1, t2, t3⟩ := lcs_some a b
  have := le_lcs (t1.trans h) t2
  omega
theorem lcs_one (a b : List α) (s : α) : lcs (a ++ [s]) b = lcs a b ∨ lcs (a ++ [s]) b = lcs a b + 1 := by
  have h1 := lcs_mono b (List.sublist_append_left a [s])
  have h2 : lcs (a ++ [s]) b ≤ lcs (a ++ [s]) (b ++ [s]) := by
    rw [lcs_comm, lcs_comm (a ++ [s]) (b ++ [s])]
    exact lcs_mono _ (List.sublist_append_left b [s])
  rw [lcs_snoc] at h2
  omega

/-- The pairs, from place i of a and place j of b on. -/
def prs : Nat → Nat → List α → List α → List (Nat × Nat)
  | i, j, x :: a, y :: b => if x = y then (i, j) :: prs (i + 1) (j + 1) a b else if lcs (x :: a) b ≤ lcs a (y :: b) then prs (i + 1) j a (y :: b) else prs i (j + 1) (x :: a) b
  | _, _, _, _ => []
  termination_by _ _ a b => a.length + b.length
def pairs (a b : List α) : List (Nat × Nat) := prs 0 0 a b

theorem prs_nil_left (i j : Nat) (b : List α) : prs i j [] b = [] := by unfold prs; rfl
theorem prs_nil_right (i j : Nat) (a : List α) : prs i j a [] = [] := by cases a <;> (unfold prs; rfl)
theorem prs_same (i j : Nat) (x : α) (a b : List α) : prs i j (x :: a) (x :: b) = (i, j) :: prs (i + 1) (j + 1) a b := by conv => lhs; unfold prs; rw [if_pos rfl]
theorem prs_ne {x y : α} (i j : Nat) (a b : List α) (h : x ≠ y) : prs i j (x :: a) (y :: b) = if lcs (x :: a) b ≤ lcs a (y :: b) then prs (i + 1) j a (y :: b) else prs i (j + 1) (x :: a) b := by
  conv => lhs; unfold prs; rw [if_neg h]

theorem prs_len : ∀ (n i j : Nat) (a b : List α), a.length + b.length ≤ n → (prs i j a b).length = lcs a b
  | _, i, j, [], b, _ => by rw [prs_nil_left, lcs_nil_left]; rfl
  | _, i, j, x :: a, [], _ => by rw [prs_nil_right, lcs_nil_right]; rfl
  | 0, i, j, x :: a, y :: b, hn => by simp at hn
  | n + 1, i, j, x :: a, y :: b, hn => by
    simp only [List.length_cons] at hn
    by_cases e : x = y
    · subst e
      rw [prs_same, lcs_same, List.length_cons, prs_len n _ _ a b (by omega)]
    · rw [prs_ne i j a b e, lcs_ne a b e]
      split
      · exact prs_len n _ _ a (y :: b) (by simp only [List.length_cons]; omega)
      · exact prs_len n _ _ (x :: a) b (by simp only [List.length_cons]; omega)
theorem pairs_len (a b : List α) : (pairs a b).length = lcs a b := prs_len _ 0 0 a b (Nat.le_refl _)

/-- Each pair is of lines that are the same, behind the places i and j; and they rise in both. -/
theorem prs_ok : ∀ (n i j : Nat) (a b : List α), a.length + b.length ≤ n →
    (∀ p ∈ prs i j a b, i ≤ p.1 ∧ j ≤ p.2 ∧ p.1 < i + a.length ∧ p.2 < j + b.length ∧ a[p.1 - i]? = b[p.2 - j]?) ∧ (prs i j a b).Pairwise (fun p q => p.1 < q.1 ∧ p.2 < q.2)
  | _, i, j, [], b, _ => by rw [prs_nil_left]; simp
  | _, i, j, x :: a, [], _ => by rw [prs_nil_right]; simp
  | 0, i, j, x :: a, y :: b, hn => by simp at hn
  | n + 1, i, j, x :: a, y :: b, hn => by
    simp only [List.length_cons] at hn
    by_cases e : x = y
    · subst e
      rw [prs_same]
      obtain ⟨h1, h2⟩ := prs_ok n (i + 1) (j + 1) a b (by omega)
      refine ⟨fun p hp => ?_, List.pairwise_cons.2 ⟨fun q hq => ?_, h2⟩⟩
      · rcases List.mem_cons.1 hp with rfl | hp
        · simp
        · obtain ⟨k1, k2, k3, k4, k5⟩ := h1 p hp
          refine ⟨by omega, by omega, by simp only [List.length_cons]; omega, by simp only [List.length_cons]; omega, ?_⟩
          rw [show p.1 - i = (p.1 - (i + 1)) + 1 by omega, show p.2 - j = (p.2 - (j + 1)) + 1 by omega, List.getElem?_cons_succ, List.getElem?_cons_succ]
          exact k5
      · obtain ⟨k1, k2, _⟩ := h1 q hq
        exact ⟨by show i < q.1; omega, by show j < q.2; omega⟩
    · rw [prs_ne i j a b e]
      split
      · obtain ⟨h1, h2⟩ := prs_ok n (i + 1) j a (y :: b) (by simp only [List.length_cons]; omega)
        refine ⟨fun p hp => ?_, h2⟩
        obtain ⟨k1, k2, k3, k4, k5⟩ := h1 p hp
        refine ⟨by omega, k2, by simp only [List.length_cons]; omega, k4, ?_⟩
        rw [show p.1 - i = (p.1 - (i + 1)) + 1 by omega, List.getElem?_cons_succ]
        exact k5
      · obtain ⟨h1, h2⟩ := prs_ok n i (j + 1) (x :: a) b (by simp only [List.length_cons]; omega)
        refine ⟨fun p hp => ?_, h2⟩
        obtain ⟨k1, k2, k3, k4, k5⟩ := h1 p hp
        refine ⟨k1, by omega, k3, by simp only [List.length_cons]; omega, ?_⟩
        rw [show p.2 - j = (p.2 - (j + 1)) + 1 by omega, List.getElem?_cons_succ]
        exact k5

/-- The table: what is had from places i and j on. -/
def tab (a b : List α) (i j : Nat) : Nat := lcs (a.drop i) (b.drop j)
theorem tab_end_left {a b : List α} {i : Nat} (j : Nat) (h : a.length ≤ i) : tab a b i j = 0 := by unfold tab; rw [List.drop_of_length_le h, lcs_nil_left]
theorem tab_end_right {a b : List α} {j : Nat} (i : Nat) (h : b.length ≤ j) : tab a b i j = 0 := by unfold tab; rw [List.drop_of_length_le h, lcs_nil_right]
theorem tab_same {a b : List α} {i j : Nat} (hi : i < a.length) (hj : j < b.length) (e : a[i] = b[j]) : tab a b i j = tab a b (i + 1) (j + 1) + 1 := by
  unfold tab; rw [List.drop_eq_getElem_cons hi, List.drop_eq_getElem_cons hj, e, lcs_same]
theorem tab_ne {a b : List α} {i j : Nat} (hi : i < a.length) (hj : j < b.length) (e : a[i] ≠ b[j]) : tab a b i j = if tab a b i (j + 1) ≤ tab a b (i + 1) j then tab a b (i + 1) j else tab a b i (j + 1) := by
  unfold tab
  conv => lhs; rw [List.drop_eq_getElem_cons hi, List.drop_eq_getElem_cons hj, lcs_ne _ _ e]
  rw [List.drop_eq_getElem_cons hi, List.drop_eq_getElem_cons hj]
theorem tab_le (a b : List α) (i j : Nat) : tab a b i j ≤ a.length - i ∧ tab a b i j ≤ b.length - j := by
  have := lcs_le (a.drop i) (b.drop j)
  simpa [tab] using this
theorem tab_zero (a b : List α) : tab a b 0 0 = lcs a b := by simp [tab]

/-- The rest of the pairs, from places i and j on. -/
def rest (a b : List α) (i j : Nat) : List (Nat × Nat) := prs i j (a.drop i) (b.drop j)
theorem rest_end_left {a b : List α} {i : Nat} (j : Nat) (h : a.length ≤ i) : rest a b i j = [] := by unfold rest; rw [List.drop_of_length_le h, prs_nil_left]
theorem rest_end_right {a b : List α} {j : Nat} (i : Nat) (h : b.length ≤ j) : rest a b i j = [] := by unfold rest; rw [List.drop_of_length_le h, prs_nil_right]
theorem rest_same {a b : List α} {i j : Nat} (hi : i < a.length) (hj : j < b.length) (e : a[i] = b[j]) : rest a b i j = (i, j) :: rest a b (i + 1) (j + 1) := by
  unfold rest; rw [List.drop_eq_getElem_cons hi, List.drop_eq_getElem_cons hj, e, prs_same]
theorem rest_ne {a b : List α} {i j : Nat} (hi : i < a.length) (hj : j < b.length) (e : a[i] ≠ b[j]) : rest a b i j = if tab a b i (j + 1) ≤ tab a b (i + 1) j then rest a b (i + 1) j else rest a b i (j + 1) := by
  unfold rest tab
  conv => lhs; rw [List.drop_eq_getElem_cons hi, List.drop_eq_getElem_cons hj, prs_ne _ _ _ _ e]
  rw [List.drop_eq_getElem_cons hi, List.drop_eq_getElem_cons hj]
theorem rest_zero (a b : List α) : rest a b 0 0 = pairs a b := by simp [rest, pairs]

/-- Lines that are picked of a, as they come in b: how many of those of s are found, one by one, from the rest b on. -/
def greedy : List α → List α → Nat
  | [], _ => 0
  | x :: s, b => match b.dropWhile (fun y => y != x) with
    | [] => greedy s b
    | _ :: r => greedy s r + 1
theorem greedy_le : ∀ (s b : List α), ∃ t : List α, t.Sublist s ∧ t.Sublist b ∧ t.length = greedy s b
  | [], b => ⟨[], List.nil_sublist _, List.nil_sublist _, rfl⟩
  | x :: s, b => by
    unfold greedy
    split
    · obtain ⟨t, h1, h2, h3⟩ := greedy_le s b
      exact ⟨t, h1.cons x, h2, h3⟩
    · rename_i y r hd
      obtain ⟨t, h1, h2, h3⟩ := greedy_le s r
      have hy : y = x := by
        have := List.head?_dropWhile_not (fun y => y != x) b
        rw [hd] at this
        simpa using this
      subst hy
      refine ⟨y :: t, h1.cons_cons y, (h2.cons_cons y).trans (hd ▸ List.dropWhile_sublist _), by rw [← h3]; rfl⟩

end
end Lc
end Go.Proofs.Ytdbhfohilfcgfaa
