/-
  Words and contracts, joined: TxPlain LcPlain SqPlain DfPlain HkPlain SwPlain TrPlain TrWords.
-/
import Derived.Test.YtbiiabfhngdeiaaGQ
import Derived.Lib.Bytealg
import Derived.Lib.Bytes
set_option maxRecDepth 100000
namespace Go.Proofs.Ytbiiabfhngdeiaa
namespace Tx

def may (l : List UInt8) : Bool := decide (l.length ≤ 80) && !l.contains 10
def inName (c : UInt8) : Bool := (decide (97 ≤ c.toNat) && decide (c.toNat ≤ 122)) || (decide (48 ≤ c.toNat) && decide (c.toNat ≤ 57)) || decide (c.toNat = 46)
def name (l : List UInt8) : Bool := decide (1 ≤ l.length) && decide (l.length ≤ 16) && l.all inName
def allMay (ls : List (List UInt8)) : Bool := decide (ls.length ≤ 200) && ls.all may

theorem indexByte_neg (l : List UInt8) (c : UInt8) : decide (Lib.indexByte l c < 0) = !l.contains c := by
  induction l with
  | nil => simp [Lib.indexByte]
  | cons b l ih =>
    have hg := Lib.indexByte_ge l c
    unfold Lib.indexByte
    by_cases hb : b = c
    · subst hb; simp
    · have hb' : ¬ c = b := fun e => hb e.symm
      by_cases hi : Lib.indexByte l c = -1
      · have : c ∉ l := by simpa [hi] using ih
        simp [hb, hi, hb', this]
      · have h1 : ¬ Lib.indexByte l c < 0 := by omega
        have h2 : c ∈ l := by simpa [h1] using ih
        have h3 : ¬ Lib.indexByte l c + 1 < 0 := by omega
        simp [hb, hi, h2, h3]

/-- The lines of bytes: what stands ahead of each line feed; what has none behind it is no line. -/
def cutL : List UInt8 → List UInt8 → List (List UInt8)
  | _, [] => []
  | acc, c :: r => if c = 10 then acc :: cutL [] r else cutL (acc ++ [c]) r
def cut (l : List UInt8) : List (List UInt8) := cutL [] l

theorem cutL_app : ∀ (p acc r : List UInt8), 10 ∉ p → cutL acc (p ++ r) = cutL (acc ++ p) r
  | [], acc, r, _ => by simp
  | c :: p, acc, r, h => by
    have hc : ¬ c = 10 := fun e => h (by simp [e])
    have hp : 10 ∉ p := fun e => h (by simp [e])
    rw [List.cons_append, cutL, if_neg hc, cutL_app p _ r hp]
    simp
theorem cut_none {l : List UInt8} (h : 10 ∉ l) : cut l = [] := by
  have := cutL_app l [] [] h
  simp only [List.append_nil, List.nil_append] at this
  unfold cut
  rw [this]
  simp [cutL]
theorem cut_some {p : List UInt8} (r : List UInt8) (h : 10 ∉ p) : cut (p ++ 10 :: r) = p :: cut r := by
  unfold cut
  rw [cutL_app p [] _ h]
  simp [cutL]
theorem cutL_length : ∀ (l acc : List UInt8), (cutL acc l).length = l.count 10
  | [], _ => by simp [cutL]
  | c :: r, acc => by
    rw [cutL]
    by_cases hc : c = 10
    · rw [if_pos hc, List.length_cons, cutL_length r, hc]; simp
    · rw [if_neg hc, cutL_length r, List.count_cons_of_ne (by simpa using hc)]
theorem cut_length (l : List UInt8) : (cut l).length = l.count 10 := cutL_length l []

theorem idx_cases (c : UInt8) : ∀ (l : List UInt8), (Lib.indexByte l c = -1 ∧ c ∉ l) ∨ ∃ p r, l = p ++ c :: r ∧ c ∉ p ∧ Lib.indexByte l c = (p.length : Int)
  | [] => .inl ⟨rfl, by simp⟩
  | b :: l => by
    by_cases hb : b = c
    · subst hb
      exact .inr ⟨[], l, rfl, by simp, by simp [Lib.indexByte]⟩
    · have hb' : ¬ c = b := fun e => hb e.symm
      rcases idx_cases c l with ⟨h1, h2⟩ | ⟨p, r, h1, h2, h3⟩
      · exact .inl ⟨by unfold Lib.indexByte; simp [hb, h1], by simp [hb', h2]⟩
      · refine .inr ⟨b :: p, r, by simp [h1], by simp [hb', h2], ?_⟩
        unfold Lib.indexByte
        rw [h3]
        have : ¬ ((p.length : Int) = -1) := by omega
        simp [hb, this]

/-- What Split answers. -/
def splitE (b : List UInt8) : Int :=
  if b.length > 200000 ∨ b.count 10 > 200 then 8
  else if b ≠ [] ∧ b.getLast? ≠ some 10 then 2
  else if (cut b).all may then 0 else 2
def splitL (b : List UInt8) : List (List UInt8) := if splitE b = 0 then cut b else []

theorem all_of {ls : List (List UInt8)} (h : ∀ x ∈ ls, may x = true) : ls.all may = true := by rw [List.all_eq_true]; exact h
theorem not_all_of {ls : List (List UInt8)} {x : List UInt8} (hx : x ∈ ls) (h : may x = false) : ls.all may = false := by rw [List.all_eq_false]; exact ⟨x, hx, by simp [h]⟩

end Tx
end Go.Proofs.Ytbiiabfhngdeiaa

namespace Go.Proofs.Ytbiiabfhngdeiaa
namespace Lc

section
variable {α : Type} [DecidableEq α]

/-- What two lists have in common, from their first places on. -/
def lcs : List α → List α → Nat
  | x :: a, y :: b => if x = y then lcs a b + 1 else if lcs (x :: a) b ≤ lcs a (y :: b) then lcs a (y :: b) else lcs (x :: a) b
  | _, _ => 0
  termination_by a b => a.length + b.length

theorem lcs_nil_left (b : List α) : lcs [] b = 0 := by unfold lcs; rfl
theorem lcs_nil_right (a : List α) : lcs a [] = 0 := by cases a <;> (unfold lcs; rfl)
theorem lcs_same (x : α) (a b : List α) : lcs (x :: a) (x :: b) = lcs a b + 1 := by conv => lhs; unfold lcs; rw [if_pos rfl]
theorem lcs_ne {x y : α} (a b : List α) (h : x ≠ y) : lcs (x :: a) (y :: b) = if lcs (x :: a) b ≤ lcs a (y :: b) then lcs a (y :: b) else lcs (x :: a) b := by
  conv => lhs; unfold lcs; rw [if_neg h]

/-- No more lines stand in both in order. -/
theorem lcs_max : ∀ (n : Nat) (a b s : List α), a.length + b.length ≤ n → s.Sublist a → s.Sublist b → s.length ≤ lcs a b
  | 0, a, b, s, hn, h1, h2 => by
    have := h1.length_le
    omega
  | n + 1, [], b, s, hn, h1, h2 => by
    have := h1.length_le
    rw [List.length_nil] at this; omega
  | n + 1, x :: a, [], s, hn, h1, h2 => by
    have := h2.length_le
    rw [List.length_nil] at this; omega
  | n + 1, x :: a, y :: b, s, hn, h1, h2 => by
    simp only [List.length_cons] at hn
    cases s with
    | nil => simp
    | cons z t =>
      by_cases e : x = y
      · subst e
        rw [lcs_same]
        have t1 : t.Sublist a := by
          rcases List.sublist_cons_iff.1 h1 with h | ⟨r, hr, h⟩
          · exact (List.sublist_cons_self z t).trans h
          · cases hr; exact h
        have t2 : t.Sublist b := by
          rcases List.sublist_cons_iff.1 h2 with h | ⟨r, hr, h⟩
          · exact (List.sublist_cons_self z t).trans h
          · cases hr; exact h
        have := lcs_max n a b t (by omega) t1 t2
        simp only [List.length_cons]; omega
      · rw [lcs_ne a b e]
        have : (z :: t).length ≤ lcs a (y :: b) ∨ (z :: t).length ≤ lcs (x :: a) b := by
          rcases List.sublist_cons_iff.1 h1 with h | ⟨r, hr, h⟩
          · exact .inl (lcs_max n a (y :: b) _ (by simp only [List.length_cons]; omega) h h2)
          · cases hr
            rcases List.sublist_cons_iff.1 h2 with h' | ⟨r, hr, h'⟩
            · exact .inr (lcs_max n (x :: a) b _ (by simp only [List.length_cons]; omega) h1 h')
            · cases hr; exact absurd rfl e
        split <;> omega
theorem le_lcs {a b s : List α} (h1 : s.Sublist a) (h2 : s.Sublist b) : s.length ≤ lcs a b := lcs_max _ a b s (Nat.le_refl _) h1 h2

/-- So many do. -/
theorem lcs_has : ∀ (n : Nat) (a b : List α), a.length + b.length ≤ n → ∃ s : List α, s.Sublist a ∧ s.Sublist b ∧ s.length = lcs a b
  | _, [], b, _ => ⟨[], List.nil_sublist _, List.nil_sublist _, by rw [lcs_nil_left]; rfl⟩
  | _, x :: a, [], _ => ⟨[], List.nil_sublist _, List.nil_sublist _, by rw [lcs_nil_right]; rfl⟩
  | 0, x :: a, y :: b, hn => by simp at hn
  | n + 1, x :: a, y :: b, hn => by
    simp only [List.length_cons] at hn
    by_cases e : x = y
    · subst e
      obtain ⟨s, h1, h2, h3⟩ := lcs_has n a b (by omega)
      exact ⟨x :: s, h1.cons_cons x, h2.cons_cons x, by rw [lcs_same, ← h3]; rfl⟩
    · rw [lcs_ne a b e]
      split
      · obtain ⟨s, h1, h2, h3⟩ := lcs_has n a (y :: b) (by simp only [List.length_cons]; omega)
        exact ⟨s, h1.cons x, h2, h3⟩
      · obtain ⟨s, h1, h2, h3⟩ := lcs_has n (x :: a) b (by simp only [List.length_cons]; omega)
        exact ⟨s, h1, h2.cons y, h3⟩
theorem lcs_some (a b : List α) : ∃ s : List α, s.Sublist a ∧ s.Sublist b ∧ s.length = lcs a b := lcs_has _ a b (Nat.le_refl _)
/-- It is the one number that is so. -/
theorem lcs_eq {a b : List α} {n : Nat} (h1 : ∃ s : List α, s.Sublist a ∧ s.Sublist b ∧ s.length = n) (h2 : ∀ s : List α, s.Sublist a → s.Sublist b → s.length ≤ n) : lcs a b = n := by
  obtain ⟨s, s1, s2, s3⟩ := h1
  obtain ⟨t, t1, t2, t3⟩ := lcs_some a b
  have u1 := le_lcs s1 s2
  have u2 := h2 t t1 t2
  omega

theorem lcs_comm (a b : List α) : lcs a b = lcs b a := by
  obtain ⟨t, t1, t2, t3⟩ := lcs_some b a
  exact lcs_eq ⟨t, t2, t1, t3⟩ fun s s1 s2 => le_lcs s2 s1
theorem lcs_le (a b : List α) : lcs a b ≤ a.length ∧ lcs a b ≤ b.length := by
  obtain ⟨t, t1, t2, t3⟩ := lcs_some a b
  have := t1.length_le
  have := t2.length_le
  omega
theorem lcs_part {a b : List α} (h : a.Sublist b) : lcs a b = a.length := lcs_eq ⟨a, List.Sublist.refl _, h, rfl⟩ fun _ s1 _ => s1.length_le
theorem lcs_self (a : List α) : lcs a a = a.length := lcs_part (List.Sublist.refl _)
theorem lcs_mid (a b c : List α) : lcs a (b ++ a ++ c) = a.length :=
  lcs_part ((List.sublist_append_right b a).trans (List.sublist_append_left _ c))
theorem lcs_reverse (a b : List α) : lcs a.reverse b.reverse = lcs a b := by
  obtain ⟨t, t1, t2, t3⟩ := lcs_some a b
  refine lcs_eq ⟨t.reverse, t1.reverse, t2.reverse, by simpa using t3⟩ fun s s1 s2 => ?_
  have := le_lcs (by simpa using s1.reverse : s.reverse.Sublist a) (by simpa using s2.reverse : s.reverse.Sublist b)
  simpa using this
theorem lcs_front (p a b : List α) : lcs (p ++ a) (p ++ b) = p.length + lcs a b := by
  induction p with
  | nil => simp
  | cons x p ih => rw [List.cons_append, List.cons_append, lcs_same, ih]; simp only [List.length_cons]; omega
theorem lcs_behind (a b q : List α) : lcs (a ++ q) (b ++ q) = lcs a b + q.length := by
  rw [← lcs_reverse, List.reverse_append, List.reverse_append, lcs_front, lcs_reverse]; simp; omega
/-- One line more at the end of both, and of one. -/
theorem lcs_snoc (a b : List α) (s : α) : lcs (a ++ [s]) (b ++ [s]) = lcs a b + 1 := lcs_behind a b [s]
theorem lcs_mono {a a' : List α} (b : List α) (h : a.Sublist a') : lcs a b ≤ lcs a' b := by
  obtain ⟨t, t1, t2, t3⟩ := lcs_some a b
  have := le_lcs (t1.trans h) t2
  omega
theorem lcs_one (a b : List α) (s : α) : lcs (a ++ [s]) b = lcs a b ∨ lcs (a ++ [s]) b = lcs a b + 1 := by
  have h1 := lcs_mono b (List.sublist_append_left a [s])
  have h2 : lcs (a ++ [s]) b ≤ lcs (a ++ [s]) (b ++ [s]) := by
    rw [lcs_comm, lcs_comm (a ++ [s]) (b ++ [s])]
    exact lcs_mono _ (List.sublist_append_left b [s])
  rw [lcs_snoc] at h2
  omega

/-- The pairs, from place i of a and place j of b on. -/
def prs : Nat → Nat → List α → List α → List (Nat × Nat)
  | i, j, x :: a, y :: b => if x = y then (i, j) :: prs (i + 1) (j + 1) a b else if lcs (x :: a) b ≤ lcs a (y :: b) then prs (i + 1) j a (y :: b) else prs i (j + 1) (x :: a) b
  | _, _, _, _ => []
  termination_by _ _ a b => a.length + b.length
def pairs (a b : List α) : List (Nat × Nat) := prs 0 0 a b

theorem prs_nil_left (i j : Nat) (b : List α) : prs i j [] b = [] := by unfold prs; rfl
theorem prs_nil_right (i j : Nat) (a : List α) : prs i j a [] = [] := by cases a <;> (unfold prs; rfl)
theorem prs_same (i j : Nat) (x : α) (a b : List α) : prs i j (x :: a) (x :: b) = (i, j) :: prs (i + 1) (j + 1) a b := by conv => lhs; unfold prs; rw [if_pos rfl]
theorem prs_ne {x y : α} (i j : Nat) (a b : List α) (h : x ≠ y) : prs i j (x :: a) (y :: b) = if lcs (x :: a) b ≤ lcs a (y :: b) then prs (i + 1) j a (y :: b) else prs i (j + 1) (x :: a) b := by
  conv => lhs; unfold prs; rw [if_neg h]

theorem prs_len : ∀ (n i j : Nat) (a b : List α), a.length + b.length ≤ n → (prs i j a b).length = lcs a b
  | _, i, j, [], b, _ => by rw [prs_nil_left, lcs_nil_left]; rfl
  | _, i, j, x :: a, [], _ => by rw [prs_nil_right, lcs_nil_right]; rfl
  | 0, i, j, x :: a, y :: b, hn => by simp at hn
  | n + 1, i, j, x :: a, y :: b, hn => by
    simp only [List.length_cons] at hn
    by_cases e : x = y
    · subst e
      rw [prs_same, lcs_same, List.length_cons, prs_len n _ _ a b (by omega)]
    · rw [prs_ne i j a b e, lcs_ne a b e]
      split
      · exact prs_len n _ _ a (y :: b) (by simp only [List.length_cons]; omega)
      · exact prs_len n _ _ (x :: a) b (by simp only [List.length_cons]; omega)
theorem pairs_len (a b : List α) : (pairs a b).length = lcs a b := prs_len _ 0 0 a b (Nat.le_refl _)

/-- Each pair is of lines that are the same, behind the places i and j; and they rise in both. -/
theorem prs_ok : ∀ (n i j : Nat) (a b : List α), a.length + b.length ≤ n →
    (∀ p ∈ prs i j a b, i ≤ p.1 ∧ j ≤ p.2 ∧ p.1 < i + a.length ∧ p.2 < j + b.length ∧ a[p.1 - i]? = b[p.2 - j]?) ∧ (prs i j a b).Pairwise (fun p q => p.1 < q.1 ∧ p.2 < q.2)
  | _, i, j, [], b, _ => by rw [prs_nil_left]; simp
  | _, i, j, x :: a, [], _ => by rw [prs_nil_right]; simp
  | 0, i, j, x :: a, y :: b, hn => by simp at hn
  | n + 1, i, j, x :: a, y :: b, hn => by
    simp only [List.length_cons] at hn
    by_cases e : x = y
    · subst e
      rw [prs_same]
      obtain ⟨h1, h2⟩ := prs_ok n (i + 1) (j + 1) a b (by omega)
      refine ⟨fun p hp => ?_, List.pairwise_cons.2 ⟨fun q hq => ?_, h2⟩⟩
      · rcases List.mem_cons.1 hp with rfl | hp
        · simp
        · obtain ⟨k1, k2, k3, k4, k5⟩ := h1 p hp
          refine ⟨by omega, by omega, by simp only [List.length_cons]; omega, by simp only [List.length_cons]; omega, ?_⟩
          rw [show p.1 - i = (p.1 - (i + 1)) + 1 by omega, show p.2 - j = (p.2 - (j + 1)) + 1 by omega, List.getElem?_cons_succ, List.getElem?_cons_succ]
          exact k5
      · obtain ⟨k1, k2, _⟩ := h1 q hq
        exact ⟨by show i < q.1; omega, by show j < q.2; omega⟩
    · rw [prs_ne i j a b e]
      split
      · obtain ⟨h1, h2⟩ := prs_ok n (i + 1) j a (y :: b) (by simp only [List.length_cons]; omega)
        refine ⟨fun p hp => ?_, h2⟩
        obtain ⟨k1, k2, k3, k4, k5⟩ := h1 p hp
        refine ⟨by omega, k2, by simp only [List.length_cons]; omega, k4, ?_⟩
        rw [show p.1 - i = (p.1 - (i + 1)) + 1 by omega, List.getElem?_cons_succ]
        exact k5
      · obtain ⟨h1, h2⟩ := prs_ok n i (j + 1) (x :: a) b (by simp only [List.length_cons]; omega)
        refine ⟨fun p hp => ?_, h2⟩
        obtain ⟨k1, k2, k3, k4, k5⟩ := h1 p hp
        refine ⟨k1, by omega, k3, by simp only [List.length_cons]; omega, ?_⟩
        rw [show p.2 - j = (p.2 - (j + 1)) + 1 by omega, List.getElem?_cons_succ]
        exact k5

/-- The table: what is had from places i and j on. -/
def tab (a b : List α) (i j : Nat) : Nat := lcs (a.drop i) (b.drop j)
theorem tab_end_left {a b : List α} {i : Nat} (j : Nat) (h : a.length ≤ i) : tab a b i j = 0 := by unfold tab; rw [List.drop_of_length_le h, lcs_nil_left]
theorem tab_end_right {a b : List α} {j : Nat} (i : Nat) (h : b.length ≤ j) : tab a b i j = 0 := by unfold tab; rw [List.drop_of_length_le h, lcs_nil_right]
theorem tab_same {a b : List α} {i j : Nat} (hi : i < a.length) (hj : j < b.length) (e : a[i] = b[j]) : tab a b i j = tab a b (i + 1) (j + 1) + 1 := by
  unfold tab; rw [List.drop_eq_getElem_cons hi, List.drop_eq_getElem_cons hj, e, lcs_same]
theorem tab_ne {a b : List α} {i j : Nat} (hi : i < a.length) (hj : j < b.length) (e : a[i] ≠ b[j]) : tab a b i j = if tab a b i (j + 1) ≤ tab a b (i + 1) j then tab a b (i + 1) j else tab a b i (j + 1) := by
  unfold tab
  conv => lhs; rw [List.drop_eq_getElem_cons hi, List.drop_eq_getElem_cons hj, lcs_ne _ _ e]
  rw [List.drop_eq_getElem_cons hi, List.drop_eq_getElem_cons hj]
theorem tab_le (a b : List α) (i j : Nat) : tab a b i j ≤ a.length - i ∧ tab a b i j ≤ b.length - j := by
  have := lcs_le (a.drop i) (b.drop j)
  simpa [tab] using this
theorem tab_zero (a b : List α) : tab a b 0 0 = lcs a b := by simp [tab]

/-- The rest of the pairs, from places i and j on. -/
def rest (a b : List α) (i j : Nat) : List (Nat × Nat) := prs i j (a.drop i) (b.drop j)
theorem rest_end_left {a b : List α} {i : Nat} (j : Nat) (h : a.length ≤ i) : rest a b i j = [] := by unfold rest; rw [List.drop_of_length_le h, prs_nil_left]
theorem rest_end_right {a b : List α} {j : Nat} (i : Nat) (h : b.length ≤ j) : rest a b i j = [] := by unfold rest; rw [List.drop_of_length_le h, prs_nil_right]
theorem rest_same {a b : List α} {i j : Nat} (hi : i < a.length) (hj : j < b.length) (e : a[i] = b[j]) : rest a b i j = (i, j) :: rest a b (i + 1) (j + 1) := by
  unfold rest; rw [List.drop_eq_getElem_cons hi, List.drop_eq_getElem_cons hj, e, prs_same]
theorem rest_ne {a b : List α} {i j : Nat} (hi : i < a.length) (hj : j < b.length) (e : a[i] ≠ b[j]) : rest a b i j = if tab a b i (j + 1) ≤ tab a b (i + 1) j then rest a b (i + 1) j else rest a b i (j + 1) := by
  unfold rest tab
  conv => lhs; rw [List.drop_eq_getElem_cons hi, List.drop_eq_getElem_cons hj, prs_ne _ _ _ _ e]
  rw [List.drop_eq_getElem_cons hi, List.drop_eq_getElem_cons hj]
theorem rest_zero (a b : List α) : rest a b 0 0 = pairs a b := by simp [rest, pairs]

/-- Lines that are picked of a, as they come in b: how many of those of s are found, one by one, from the rest b on. -/
def greedy : List α → List α → Nat
  | [], _ => 0
  | x :: s, b => match b.dropWhile (fun y => y != x) with
    | [] => greedy s b
    | _ :: r => greedy s r + 1
theorem greedy_le : ∀ (s b : List α), ∃ t : List α, t.Sublist s ∧ t.Sublist b ∧ t.length = greedy s b
  | [], b => ⟨[], List.nil_sublist _, List.nil_sublist _, rfl⟩
  | x :: s, b => by
    unfold greedy
    split
    · obtain ⟨t, h1, h2, h3⟩ := greedy_le s b
      exact ⟨t, h1.cons x, h2, h3⟩
    · rename_i y r hd
      obtain ⟨t, h1, h2, h3⟩ := greedy_le s r
      have hy : y = x := by
        have := List.head?_dropWhile_not (fun y => y != x) b
        rw [hd] at this
        simpa using this
      subst hy
      refine ⟨y :: t, h1.cons_cons y, (h2.cons_cons y).trans (hd ▸ List.dropWhile_sublist _), by rw [← h3]; rfl⟩

end
end Lc
end Go.Proofs.Ytbiiabfhngdeiaa

namespace Go.Proofs.Ytbiiabfhngdeiaa
namespace Sq

section
variable {α : Type}
/-- l with 'now' in the place of what stands at i and is n long. -/
def swp (l : List α) (i n : Nat) (now : List α) : List α := l.take i ++ (now ++ l.drop (i + n))
theorem swp_parts (p s t now : List α) : swp (p ++ (s ++ t)) p.length s.length now = p ++ (now ++ t) := by
  simp [swp, ← List.drop_drop]
theorem swp_none {l : List α} {i : Nat} : swp l i 0 [] = l := by simp [swp]
theorem swp_all (l m : List α) : swp l 0 l.length m = m := by simp [swp]
theorem drop_step {a b : List α} {k : Nat} (ha : k < a.length) (hb : k < b.length) (h : a.drop (a.length - k) = b.drop (b.length - k)) (e : a[a.length - 1 - k]'(by omega) = b[b.length - 1 - k]'(by omega)) :
    a.drop (a.length - (k + 1)) = b.drop (b.length - (k + 1)) := by
  have ia : a.length - (k + 1) = a.length - 1 - k := by omega
  have ib : b.length - (k + 1) = b.length - 1 - k := by omega
  rw [ia, ib, List.drop_eq_getElem_cons (by omega), List.drop_eq_getElem_cons (i := b.length - 1 - k) (by omega), e, show a.length - 1 - k + 1 = a.length - k by omega, show b.length - 1 - k + 1 = b.length - k by omega, h]

end

section
variable {α : Type} [DecidableEq α]

/-- Do 'some' stand in l from 'at' on? -/
def has (l : List α) (i : Int) (s : List α) : Bool := decide (0 ≤ i ∧ i ≤ l.length ∧ (l.drop i.toNat).take s.length = s)
def front : List α → List α → Nat
  | x :: a, y :: b => if x = y then front a b + 1 else 0
  | _, _ => 0
def back (a b : List α) : Nat := front (a.drop (front a b)).reverse (b.drop (front a b)).reverse

theorem has_len {l s : List α} {i : Int} (h : has l i s = true) : 0 ≤ i ∧ i.toNat + s.length ≤ l.length := by
  simp only [has, decide_eq_true_eq] at h
  obtain ⟨h1, h2, h3⟩ := h
  have h4 := congrArg List.length h3
  simp at h4
  omega
theorem has_split {l s : List α} {i : Int} (h : has l i s = true) : l = l.take i.toNat ++ (s ++ l.drop (i.toNat + s.length)) := by
  have hl := has_len h
  simp only [has, decide_eq_true_eq] at h
  obtain ⟨h1, h2, h3⟩ := h
  conv => lhs; rw [← List.take_append_drop i.toNat l]
  congr 1
  conv => lhs; rw [← List.take_append_drop s.length (l.drop i.toNat), h3, List.drop_drop]
theorem has_of_split (p s t : List α) : has (p ++ (s ++ t)) p.length s = true := by
  simp only [has, decide_eq_true_eq]
  refine ⟨by omega, by simp; omega, by simp⟩
theorem has_parts {l s : List α} {i : Int} (h : has l i s = true) : ∃ p t, l = p ++ (s ++ t) ∧ (p.length : Int) = i := by
  have hl := has_len h
  refine ⟨_, _, has_split h, ?_⟩
  rw [List.length_take]; omega
theorem has_false {l s : List α} {i : Int} (h : i < 0 ∨ (l.length : Int) < i ∨ (l.length : Int) < i + s.length) : has l i s = false := by
  cases hb : has l i s with
  | false => rfl
  | true => have := has_len hb; omega
theorem has_at {l s : List α} {i : Nat} (h : i + s.length ≤ l.length) : has l i s = decide ((l.drop i).take s.length = s) := by
  unfold has
  refine decide_eq_decide.2 ⟨fun h => h.2.2, fun hh => ⟨by omega, by omega, hh⟩⟩

/-- Swapped, and swapped back. -/
theorem back_again {l old now : List α} {i : Int} (h : has l i old = true) :
    has (swp l i.toNat old.length now) i now = true ∧ swp (swp l i.toNat old.length now) i.toNat now.length old = l ∧ ((swp l i.toNat old.length now).length : Int) = l.length - old.length + now.length := by
  obtain ⟨p, t, rfl, rfl⟩ := has_parts h
  simp only [Int.toNat_natCast]
  rw [swp_parts, swp_parts]
  exact ⟨has_of_split _ _ _, rfl, by simp; omega⟩

theorem has_none (l : List α) (i : Int) : has l i [] = decide (0 ≤ i ∧ i ≤ l.length) := by simp [has]
theorem has_all (l : List α) : has l 0 l = true := by simpa using has_of_split [] l []

/-- Two swaps apart. -/
theorem apart {l old now other thn : List α} {i g : Nat} (h1 : has l i old = true) (h2 : has l ((i + old.length + g : Nat) : Int) other = true) :
    has (swp l i old.length now) ((i + now.length + g : Nat) : Int) other = true ∧ has (swp l (i + old.length + g) other.length thn) i old = true ∧
    swp (swp l i old.length now) (i + now.length + g) other.length thn = swp (swp l (i + old.length + g) other.length thn) i old.length now := by
  obtain ⟨p, t, rfl, hp⟩ := has_parts h1
  obtain rfl : p.length = i := by omega
  obtain ⟨q, r, hq, hl⟩ := has_parts h2
  have hql : q.length = p.length + old.length + g := by omega
  have e1 : q = p ++ (old ++ (t.take g)) := by
    have := congrArg (List.take q.length) hq
    rw [List.take_left] at this
    rw [← this, hql]
    simp [List.take_append]
    rw [List.take_of_length_le (by omega), List.take_of_length_le (by omega), show p.length + old.length + g - p.length - old.length = g by omega]
  have hg : g ≤ t.length := by
    have := congrArg List.length e1
    simp at this; omega
  have e2 : t = t.take g ++ (other ++ r) := by
    rw [e1] at hq
    have h3 : p ++ (old ++ t) = p ++ (old ++ (t.take g ++ (other ++ r))) := by rw [hq]; simp
    exact List.append_cancel_left (List.append_cancel_left h3)
  generalize hu : t.take g = u at e2
  have hul : u.length = g := by rw [← hu, List.length_take]; omega
  clear hu e1 hg hq hl hql h1 h2 hp
  subst e2
  subst hul
  have w1 : swp (p ++ (old ++ (u ++ (other ++ r)))) p.length old.length now = p ++ (now ++ (u ++ (other ++ r))) := swp_parts _ _ _ _
  have w2 : swp (p ++ (old ++ (u ++ (other ++ r)))) (p.length + old.length + u.length) other.length thn = p ++ (old ++ (u ++ (thn ++ r))) := by
    have := swp_parts (p ++ (old ++ u)) other r thn
    simpa [Nat.add_assoc] using this
  rw [w1, w2, swp_parts]
  have a1 := has_of_split (p ++ (now ++ u)) other r
  have a2 := swp_parts (p ++ (now ++ u)) other r thn
  refine ⟨by simpa [Nat.add_assoc] using a1, has_of_split _ _ _, by simpa [Nat.add_assoc] using a2⟩

theorem front_le : ∀ (a b : List α), front a b ≤ a.length ∧ front a b ≤ b.length
  | [], _ => by simp [front]
  | _ :: _, [] => by simp [front]
  | x :: a, y :: b => by
    have := front_le a b
    unfold front
    split <;> simp <;> omega
theorem front_take : ∀ (a b : List α), a.take (front a b) = b.take (front a b)
  | [], _ => by simp [front]
  | _ :: _, [] => by simp [front]
  | x :: a, y :: b => by
    unfold front
    split
    · rename_i e; subst e; simp [front_take a b]
    · simp
theorem front_comm : ∀ (a b : List α), front a b = front b a
  | [], [] => rfl
  | [], _ :: _ => by simp [front]
  | _ :: _, [] => by simp [front]
  | x :: a, y :: b => by
    unfold front
    by_cases e : x = y
    · subst e; simp [front_comm a b]
    · have : ¬ y = x := fun h => e h.symm
      simp [e, this]
theorem front_ne : ∀ (a b : List α) (h1 : front a b < a.length) (h2 : front a b < b.length), a[front a b] ≠ b[front a b]
  | [], _, h, _ => by simp at h
  | _ :: _, [], _, h => by simp at h
  | x :: a, y :: b, h1, h2 => by
    by_cases e : x = y
    · subst e
      have hf : front (x :: a) (x :: b) = front a b + 1 := by simp [front]
      simp only [hf, List.getElem_cons_succ]
      rw [hf] at h1 h2
      exact front_ne a b (by simpa using h1) (by simpa using h2)
    · have hf : front (x :: a) (y :: b) = 0 := by simp [front, e]
      simp only [hf, List.getElem_cons_zero]
      exact e
/-- What a loop finds: k are the same, and then not. -/
theorem front_is {a b : List α} {k : Nat} (h : a.take k = b.take k) (ha : k ≤ a.length) (hb : k ≤ b.length) (hne : k = a.length ∨ k = b.length ∨ ∃ (h1 : k < a.length) (h2 : k < b.length), a[k] ≠ b[k]) : front a b = k := by
  have hl := front_le a b
  have ht := front_take a b
  rcases Nat.lt_trichotomy (front a b) k with hlt | he | hgt
  · exfalso
    refine front_ne a b (by omega) (by omega) ?_
    have := congrArg (fun l => l[front a b]?) h
    simp only [List.getElem?_take, hlt, if_true] at this
    rw [List.getElem?_eq_getElem (by omega), List.getElem?_eq_getElem (by omega)] at this
    exact Option.some.inj this
  · exact he
  · rcases hne with h1 | h1 | ⟨h1, h2, h3⟩
    · omega
    · omega
    · exfalso; apply h3
      have := congrArg (fun l => l[k]?) ht
      simp only [List.getElem?_take, hgt, if_true] at this
      rw [List.getElem?_eq_getElem h1, List.getElem?_eq_getElem h2] at this
      exact Option.some.inj this

theorem back_comm (a b : List α) : back a b = back b a := by
  unfold back
  rw [front_comm a b, front_comm]
theorem back_le (a b : List α) : front a b + back a b ≤ a.length ∧ front a b + back a b ≤ b.length := by
  have h1 := front_le a b
  have h2 := front_le (a.drop (front a b)).reverse (b.drop (front a b)).reverse
  simp only [List.length_reverse, List.length_drop] at h2
  unfold back
  omega
theorem back_same (a b : List α) : a.drop (a.length - back a b) = b.drop (b.length - back a b) := by
  have h := back_le a b
  have ht := front_take (a.drop (front a b)).reverse (b.drop (front a b)).reverse
  change List.take (back a b) _ = List.take (back a b) _ at ht
  rw [List.take_reverse, List.take_reverse] at ht
  have ht := List.reverse_inj.1 ht
  rw [List.length_drop, List.length_drop, List.drop_drop, List.drop_drop, show front a b + (a.length - front a b - back a b) = a.length - back a b by omega, show front a b + (b.length - front a b - back a b) = b.length - back a b by omega] at ht
  exact ht
/-- The last k lines behind f, one by one. -/
theorem back_is {a b : List α} {k : Nat} (ha : front a b + k ≤ a.length) (hb : front a b + k ≤ b.length) (h : a.drop (a.length - k) = b.drop (b.length - k))
    (hne : front a b + k = a.length ∨ front a b + k = b.length ∨ ∃ (h1 : a.length - 1 - k < a.length) (h2 : b.length - 1 - k < b.length), a[a.length - 1 - k] ≠ b[b.length - 1 - k]) : back a b = k := by
  unfold back
  generalize front a b = f at *
  refine front_is ?_ (by simp; omega) (by simp; omega) ?_
  · rw [List.take_reverse, List.take_reverse, List.length_drop, List.length_drop, List.drop_drop, List.drop_drop, show f + (a.length - f - k) = a.length - k by omega, show f + (b.length - f - k) = b.length - k by omega, h]
  · rcases hne with h1 | h1 | ⟨h1, h2, h3⟩
    · exact .inl (by simp; omega)
    · exact .inr (.inl (by simp; omega))
    · by_cases e1 : f + k = a.length
      · exact .inl (by simp; omega)
      · by_cases e2 : f + k = b.length
        · exact .inr (.inl (by simp; omega))
        · refine .inr (.inr ⟨by simp; omega, by simp; omega, ?_⟩)
          simp only [List.getElem_reverse, List.getElem_drop, List.length_drop]
          have i1 : f + (a.length - f - 1 - k) = a.length - 1 - k := by omega
          have i2 : f + (b.length - f - 1 - k) = b.length - 1 - k := by omega
          simp only [i1, i2]
          exact h3
/-- The last k lines, one by one. -/
theorem tail_is {a b : List α} {k : Nat} (ha : k ≤ a.length) (hb : k ≤ b.length) (h : a.drop (a.length - k) = b.drop (b.length - k))
    (hne : k = a.length ∨ k = b.length ∨ ∃ (h1 : a.length - 1 - k < a.length) (h2 : b.length - 1 - k < b.length), a[a.length - 1 - k] ≠ b[b.length - 1 - k]) : front a.reverse b.reverse = k := by
  refine front_is ?_ (by simp; omega) (by simp; omega) ?_
  · rw [List.take_reverse, List.take_reverse, h]
  · rcases hne with h1 | h1 | ⟨h1, h2, h3⟩
    · exact .inl (by simp; omega)
    · exact .inr (.inl (by simp; omega))
    · by_cases e1 : k = a.length
      · exact .inl (by simp; omega)
      · by_cases e2 : k = b.length
        · exact .inr (.inl (by simp; omega))
        · refine .inr (.inr ⟨by simp; omega, by simp; omega, ?_⟩)
          simp only [List.getElem_reverse]
          exact h3

/-- What two lists have in common stands in both. -/
theorem has_front (a b : List α) : has a 0 (b.take (front a b)) = true := by
  have hl := front_le a b
  have := has_at (l := a) (s := b.take (front a b)) (i := 0) (by simp; omega)
  rw [show ((0 : Nat) : Int) = 0 from rfl] at this
  rw [this]
  have hm : (b.take (front a b)).length = front a b := by rw [List.length_take]; omega
  rw [hm, List.drop_zero]
  exact decide_eq_true (front_take a b)
theorem has_back (a b : List α) : has a ((a.length - back a b : Nat) : Int) (b.drop (b.length - back a b)) = true := by
  have hl := back_le a b
  have hm : (b.drop (b.length - back a b)).length = back a b := by rw [List.length_drop]; omega
  rw [has_at (by rw [hm]; omega)]
  rw [hm, back_same, List.take_of_length_le (by rw [hm]; omega)]
  exact decide_eq_true rfl

end
end Sq
end Go.Proofs.Ytbiiabfhngdeiaa

namespace Go.Proofs.Ytbiiabfhngdeiaa
namespace Df
open Lc

/-- An edit: a place, how many lines are gone there, and which ones stand there. -/
structure Ed (α : Type) where
  pos : Int
  old : Int
  new : List α

section
variable {α : Type}

/-- What all edits cost (not wrapped around). -/
def cost : List (Ed α) → Int
  | [] => 0
  | x :: l => x.old + x.new.length + cost l

/-- The lines of a list from place i up to place j. -/
def mid (a : List α) (i j : Nat) : List α := (a.drop i).take (j - i)

theorem mid_len {a : List α} {i j : Nat} (h : j ≤ a.length) : (mid a i j).length = j - i := by
  unfold mid; rw [List.length_take, List.length_drop]; omega
theorem mid_self (a : List α) (i : Nat) : mid a i i = [] := by unfold mid; rw [Nat.sub_self, List.take_zero]
theorem mid_drop {a : List α} {i j : Nat} (h : i ≤ j) : mid a i j ++ a.drop j = a.drop i := by
  unfold mid
  have := List.take_append_drop (j - i) (a.drop i)
  rw [List.drop_drop, show i + (j - i) = j by omega] at this
  exact this
theorem mid_all {a : List α} (i : Nat) {j : Nat} (h : a.length ≤ j) : mid a i j = a.drop i := by
  unfold mid; rw [List.take_of_length_le]; rw [List.length_drop]; omega
theorem mid_snoc {a : List α} {i j : Nat} {x : α} (h : i ≤ j) (hx : a[j]? = some x) : mid a i (j + 1) = mid a i j ++ [x] := by
  unfold mid
  rw [show j + 1 - i = (j - i) + 1 by omega, List.take_add_one, List.getElem?_drop, show i + (j - i) = j by omega, hx]
  rfl
theorem drop_cons {a : List α} {j : Nat} {x : α} (hx : a[j]? = some x) : a.drop j = x :: a.drop (j + 1) := by
  obtain ⟨h, rfl⟩ := List.getElem?_eq_some_iff.1 hx
  exact List.drop_eq_getElem_cons h
theorem mid_one {a : List α} {j : Nat} {x : α} (hx : a[j]? = some x) : mid a j (j + 1) = [x] := by
  rw [mid_snoc (Nat.le_refl _) hx, mid_self]; rfl
theorem mid_mid {a : List α} {i j k : Nat} (h : i ≤ j) (h' : j ≤ k) : mid a i j ++ mid a j k = mid a i k := by
  unfold mid
  rw [show k - i = (j - i) + (k - j) by omega, List.take_add, List.drop_drop, show i + (j - i) = j by omega]
theorem mid_sub (a : List α) (i j : Nat) : (mid a i j).Sublist (a.drop i) := List.take_sublist _ _

/-- Does an edit fit, at a list of n lines of which 'at' lines are done (f: none was ahead)? -/
def fits (n k : Nat) (f : Bool) (x : Ed α) : Prop := (k : Int) ≤ x.pos ∧ (f = false → (k : Int) < x.pos) ∧ x.pos ≤ n ∧ 0 ≤ x.old ∧ x.old ≤ n - x.pos
instance (n k : Nat) (f : Bool) (x : Ed α) : Decidable (fits n k f x) := by unfold fits; exact inferInstance

/-- What edits make of a list, from its place k on (f: no edit is done as yet). -/
def apl (a : List α) : Nat → Bool → List (Ed α) → Option (List α)
  | k, _, [] => some (a.drop k)
  | k, f, x :: l => if fits a.length k f x then (apl a (x.pos + x.old).toNat false l).map (fun r => mid a k x.pos.toNat ++ x.new ++ r) else none

def appl (a : List α) (l : List (Ed α)) : Option (List α) := apl a 0 true l

theorem apl_nil (a : List α) (k : Nat) (f : Bool) : apl a k f [] = some (a.drop k) := rfl
theorem apl_yes {a : List α} {k : Nat} {f : Bool} {x : Ed α} (l : List (Ed α)) (h : fits a.length k f x) : apl a k f (x :: l) = (apl a (x.pos + x.old).toNat false l).map (fun r => mid a k x.pos.toNat ++ x.new ++ r) := by
  rw [apl, if_pos h]
theorem apl_no {a : List α} {k : Nat} {f : Bool} {x : Ed α} (l : List (Ed α)) (h : ¬ fits a.length k f x) : apl a k f (x :: l) = none := by
  rw [apl, if_neg h]
theorem apl_some {a : List α} {k : Nat} {f : Bool} {x : Ed α} {l : List (Ed α)} {c : List α} (h : apl a k f (x :: l) = some c) :
    fits a.length k f x ∧ ∃ r, apl a (x.pos + x.old).toNat false l = some r ∧ c = mid a k x.pos.toNat ++ x.new ++ r := by
  by_cases hf : fits a.length k f x
  · rw [apl_yes l hf, Option.map_eq_some_iff] at h
    obtain ⟨r, h1, rfl⟩ := h
    exact ⟨hf, r, h1, rfl⟩
  · rw [apl_no l hf] at h; cases h

/-- Do edits rise, from the place m on, in a list of n lines? -/
def risB (n : Nat) : Int → List (Ed α) → Bool
  | _, [] => true
  | m, x :: l => decide (m ≤ x.pos ∧ 0 ≤ x.old ∧ x.old ≤ (n : Int) - x.pos) && risB n (x.pos + x.old + 1) l
theorem risB_yes {n : Nat} {m : Int} {x : Ed α} (l : List (Ed α)) (h1 : m ≤ x.pos) (h2 : 0 ≤ x.old) (h3 : x.old ≤ (n : Int) - x.pos) : risB n m (x :: l) = risB n (x.pos + x.old + 1) l := by
  rw [risB, decide_eq_true ⟨h1, h2, h3⟩, Bool.true_and]
theorem risB_no {n : Nat} {m : Int} {x : Ed α} (l : List (Ed α)) (h : ¬ (m ≤ x.pos ∧ 0 ≤ x.old ∧ x.old ≤ (n : Int) - x.pos)) : risB n m (x :: l) = false := by
  rw [risB, decide_eq_false h, Bool.false_and]
theorem apl_risB (a : List α) : ∀ (l : List (Ed α)) (k : Nat) (f : Bool), (apl a k f l).isSome = risB a.length (if f then (k : Int) else k + 1) l
  | [], k, f => by rw [apl_nil]; rfl
  | x :: l, k, f => by
    by_cases h : fits a.length k f x
    · rw [apl_yes l h, Option.isSome_map, apl_risB a l]
      obtain ⟨h1, h2, h3, h4, h5⟩ := h
      rw [risB_yes l (by cases f <;> simp at h2 ⊢ <;> omega) h4 h5]
      congr 1
      simp; omega
    · rw [apl_no l h, risB_no]
      · rfl
      · rintro ⟨g1, g2, g3⟩
        refine h ⟨?_, fun e => ?_, by omega, g2, g3⟩
        · cases f <;> simp at g1 <;> omega
        · subst e; simp at g1; omega
theorem appl_risB (a : List α) (l : List (Ed α)) : (appl a l).isSome = risB a.length 0 l := by
  rw [appl, apl_risB]; rfl
/-- All lines that edits put there, together. -/
def news : List (Ed α) → Nat
  | [] => 0
  | x :: l => x.new.length + news l
theorem apl_len (a : List α) : ∀ (l : List (Ed α)) (k : Nat) (f : Bool) (c : List α), apl a k f l = some c → k ≤ a.length → c.length ≤ (a.length - k) + news l
  | [], k, f, c, h, hk => by rw [apl_nil] at h; cases h; rw [List.length_drop]; exact Nat.le_add_right _ _
  | x :: l, k, f, c, h, hk => by
    obtain ⟨⟨h1, h2, h3, h4, h5⟩, r, hr, rfl⟩ := apl_some h
    have := apl_len a l _ false r hr (by omega)
    simp only [List.length_append, news]
    rw [mid_len (by omega)]
    omega
theorem news_le : ∀ (l : List (Ed α)) (m : Nat), (∀ x ∈ l, x.new.length ≤ m) → news l ≤ l.length * m
  | [], m, _ => Nat.zero_le _
  | x :: l, m, h => by
    have h1 := h x List.mem_cons_self
    have h2 := news_le l m fun y hy => h y (List.mem_cons_of_mem _ hy)
    rw [news, List.length_cons, Nat.add_one_mul]; omega

/-- What edits make keeps some lines: as many as are neither gone nor put there. -/
theorem apl_keeps (a : List α) : ∀ (l : List (Ed α)) (k : Nat) (f : Bool) (c : List α), k ≤ a.length → apl a k f l = some c →
    ∃ s : List α, s.Sublist (a.drop k) ∧ s.Sublist c ∧ ((a.length : Int) - k) + c.length = 2 * s.length + cost l
  | [], k, f, c, hk, h => by
    rw [apl_nil] at h; cases h
    refine ⟨a.drop k, List.Sublist.refl _, List.Sublist.refl _, ?_⟩
    rw [List.length_drop, cost]; omega
  | x :: l, k, f, c, hk, h => by
    obtain ⟨⟨h1, h2, h3, h4, h5⟩, r, hr, rfl⟩ := apl_some h
    obtain ⟨p, hp⟩ : ∃ p : Nat, x.pos = p := ⟨x.pos.toNat, by omega⟩
    obtain ⟨q, hq⟩ : ∃ q : Nat, x.old = q := ⟨x.old.toNat, by omega⟩
    rw [hp, hq, show ((p : Int) + (q : Int)).toNat = p + q by omega] at hr
    rw [hp] at h1 h3 h5
    rw [hq] at h4 h5
    obtain ⟨s, s1, s2, s3⟩ := apl_keeps a l (p + q) false r (by omega) hr
    rw [hp, show (p : Int).toNat = p by omega]
    refine ⟨mid a k p ++ s, ?_, ?_, ?_⟩
    · rw [← mid_drop (a := a) (i := k) (j := p) (by omega)]
      refine List.Sublist.append (List.Sublist.refl _) (s1.trans ?_)
      rw [← mid_drop (a := a) (i := p) (j := p + q) (by omega)]
      exact List.sublist_append_right _ _
    · rw [List.append_assoc]
      exact List.Sublist.append (List.Sublist.refl _) (s2.trans (List.sublist_append_right _ _))
    · rw [cost, hq]
      simp only [List.length_append]
      rw [mid_len (a := a) (i := k) (j := p) (by omega)]
      omega

/-- No edits cost less than what the lists do not have in common. -/
theorem appl_least [DecidableEq α] {a b : List α} {l : List (Ed α)} (h : appl a l = some b) : (a.length : Int) + b.length - 2 * lcs a b ≤ cost l := by
  obtain ⟨s, s1, s2, s3⟩ := apl_keeps a l 0 true b (Nat.zero_le _) h
  rw [List.drop_zero] at s1
  have := le_lcs s1 s2
  omega

/-- Where edits fit, each lies within the list, and begins behind the end of the one ahead. -/
theorem apl_apart (a : List α) : ∀ (l : List (Ed α)) (k : Nat) (f : Bool) (c : List α), apl a k f l = some c →
    ∀ (i : Nat) (x : Ed α), l[i]? = some x → 0 ≤ x.old ∧ x.pos + x.old ≤ a.length ∧ (k : Int) ≤ x.pos ∧ (f = false → (k : Int) < x.pos) ∧ (∀ y : Ed α, 0 < i → l[i - 1]? = some y → y.pos + y.old < x.pos)
  | [], k, f, c, h => by intro i x hx; simp at hx
  | y :: l, k, f, c, h => by
    obtain ⟨⟨h1, h2, h3, h4, h5⟩, r, hr, rfl⟩ := apl_some h
    intro i x hx
    match i, hx with
    | 0, hx =>
      cases hx
      exact ⟨h4, by omega, h1, h2, fun _ h => absurd h (Nat.lt_irrefl 0)⟩
    | i + 1, hx =>
      rw [List.getElem?_cons_succ] at hx
      obtain ⟨k1, k2, k3, k4, k5⟩ := apl_apart a l _ false r hr i x hx
      have k4 := k4 rfl
      refine ⟨k1, k2, by omega, fun _ => by omega, fun z _ hz => ?_⟩
      match i, hx, hz with
      | 0, hx, hz => cases hz; omega
      | i + 1, hx, hz => exact k5 z (by omega) hz

/-- What turns edits back, if all places ahead have moved by 'by'. -/
def bks (a : List α) : Int → List (Ed α) → List (Ed α)
  | _, [] => []
  | m, x :: l => ⟨x.pos + m, x.new.length, mid a x.pos.toNat (x.pos + x.old).toNat⟩ :: bks a (m + x.new.length - x.old) l

theorem bks_apl (a : List α) : ∀ (l : List (Ed α)) (k k' : Nat) (m : Int) (f : Bool) (r u : List α), k ≤ a.length → apl a k f l = some r → (u.length : Int) = k + m → k' = u.length →
    apl (u ++ r) k' f (bks a m l) = some (a.drop k)
  | [], k, k', m, f, r, u, hk, h, hu, hk' => by
    rw [apl_nil] at h; cases h; subst hk'
    rw [bks, apl_nil, List.drop_left]
  | x :: l, k, k', m, f, r, u, hk, h, hu, hk' => by
    obtain ⟨⟨h1, h2, h3, h4, h5⟩, r, hr, rfl⟩ := apl_some h
    obtain ⟨p, hp⟩ : ∃ p : Nat, x.pos = p := ⟨x.pos.toNat, by omega⟩
    obtain ⟨q, hq⟩ : ∃ q : Nat, x.old = q := ⟨x.old.toNat, by omega⟩
    rw [hp, hq, show ((p : Int) + (q : Int)).toNat = p + q by omega] at hr
    rw [hp] at h1 h2 h3 h5
    rw [hq] at h4 h5
    rw [bks, hp, hq, show (p : Int).toNat = p by omega, show ((p : Int) + (q : Int)).toNat = p + q by omega]
    have lm := mid_len (a := a) (i := k) (j := p) (by omega)
    have ih := bks_apl a l (p + q) (u.length + (p - k) + x.new.length) (m + x.new.length - q) false r (u ++ mid a k p ++ x.new) (by omega) hr
      (by simp only [List.length_append]; rw [lm]; omega) (by simp only [List.length_append]; rw [lm])
    have e : u ++ (mid a k p ++ x.new ++ r) = u ++ mid a k p ++ x.new ++ r := by simp only [List.append_assoc]
    rw [e]
    have hlen : (u ++ mid a k p ++ x.new ++ r).length = u.length + (p - k) + x.new.length + r.length := by simp only [List.length_append]; rw [lm]
    rw [apl_yes _ (by
      unfold fits
      rw [hlen, hk']
      simp only
      refine ⟨by omega, fun hf => ?_, by omega, by omega, by omega⟩
      have := h2 hf; omega)]
    simp only
    rw [show ((p : Int) + m + (x.new.length : Int)).toNat = u.length + (p - k) + x.new.length by omega, ih, show ((p : Int) + m).toNat = u.length + (p - k) by omega, Option.map_some]
    congr 1
    have e2 : mid (u ++ mid a k p ++ x.new ++ r) k' (u.length + (p - k)) = mid a k p := by
      unfold mid
      rw [hk', List.append_assoc, List.append_assoc, List.drop_left, show u.length + (p - k) - u.length = (List.take (p - k) (List.drop k a)).length by unfold mid at lm; omega, List.take_left]
    rw [e2, List.append_assoc, mid_drop (by omega), mid_drop (by omega)]

theorem appl_back {a b : List α} {l : List (Ed α)} (h : appl a l = some b) : appl b (bks a 0 l) = some a := by
  have := bks_apl a l 0 0 0 true b [] (Nat.zero_le _) h rfl rfl
  rw [List.drop_zero, List.nil_append] at this
  exact this

theorem bks_cost (a : List α) : ∀ (l : List (Ed α)) (k : Nat) (m : Int) (f : Bool) (c : List α), apl a k f l = some c → cost (bks a m l) = cost l
  | [], k, m, f, c, h => rfl
  | x :: l, k, m, f, c, h => by
    obtain ⟨⟨h1, h2, h3, h4, h5⟩, r, hr, rfl⟩ := apl_some h
    rw [bks, cost, cost, bks_cost a l _ _ false r hr]
    simp only
    rw [mid_len (by omega)]
    omega
theorem bks_len (a : List α) : ∀ (l : List (Ed α)) (m : Int), (bks a m l).length = l.length
  | [], m => rfl
  | x :: l, m => by rw [bks, List.length_cons, List.length_cons, bks_len a l]

/-- Pairs of lines that are the same rise, from the places i and j on. -/
def Ris (a b : List α) : Nat → Nat → List (Nat × Nat) → Prop
  | _, _, [] => True
  | i, j, p :: l => i ≤ p.1 ∧ j ≤ p.2 ∧ (∃ x, a[p.1]? = some x ∧ b[p.2]? = some x) ∧ Ris a b (p.1 + 1) (p.2 + 1) l

theorem ris_of (a b : List α) : ∀ (l : List (Nat × Nat)) (i j : Nat), (∀ p ∈ l, i ≤ p.1 ∧ j ≤ p.2 ∧ p.1 < a.length ∧ a[p.1]? = b[p.2]?) → l.Pairwise (fun p q => p.1 < q.1 ∧ p.2 < q.2) → Ris a b i j l
  | [], i, j, _, _ => trivial
  | p :: l, i, j, h, hp => by
    obtain ⟨h1, h2, h3, h4⟩ := h p List.mem_cons_self
    obtain ⟨p1, p2⟩ := List.pairwise_cons.1 hp
    refine ⟨h1, h2, ⟨a[p.1], List.getElem?_eq_getElem h3, by rw [← h4]; exact List.getElem?_eq_getElem h3⟩, ris_of a b l _ _ (fun q hq => ?_) p2⟩
    obtain ⟨k1, k2, k3, k4⟩ := h q (List.mem_cons_of_mem _ hq)
    have := p1 q hq
    exact ⟨by omega, by omega, k3, k4⟩
theorem pairs_ris [DecidableEq α] (a b : List α) : Ris a b 0 0 (pairs a b) := by
  obtain ⟨h1, h2⟩ := prs_ok _ 0 0 a b (Nat.le_refl _)
  refine ris_of a b _ 0 0 (fun p hp => ?_) h2
  obtain ⟨k1, k2, k3, k4, k5⟩ := h1 p hp
  exact ⟨k1, k2, by omega, by simpa using k5⟩

/-- The edit of the stretch from the places i and j up to the places p and q, if it has a line. -/
def one (b : List α) (i j p q : Nat) : List (Ed α) := if i < p ∨ j < q then [⟨i, (p : Int) - i, mid b j q⟩] else []

/-- The edits of the stretches ahead of each pair, from the places i and j on. -/
def eds (b : List α) : Nat → Nat → List (Nat × Nat) → List (Ed α)
  | _, _, [] => []
  | i, j, p :: l => one b i j p.1 p.2 ++ eds b (p.1 + 1) (p.2 + 1) l

def ends [DecidableEq α] (a b : List α) : List (Nat × Nat) := pairs a b ++ [(a.length, b.length)]
def edits [DecidableEq α] (a b : List α) : List (Ed α) := eds b 0 0 (ends a b)

theorem eds_snoc (b : List α) : ∀ (l : List (Nat × Nat)) (i j i' j' p q : Nat), (l = [] → i' = i ∧ j' = j) → (∀ r, l.getLast? = some r → i' = r.1 + 1 ∧ j' = r.2 + 1) →
    eds b i j (l ++ [(p, q)]) = eds b i j l ++ one b i' j' p q
  | [], i, j, i', j', p, q, h, _ => by
    obtain ⟨rfl, rfl⟩ := h rfl
    simp [eds]
  | r :: l, i, j, i', j', p, q, _, h => by
    rw [List.cons_append, eds, eds, List.append_assoc]
    congr 1
    refine eds_snoc b l _ _ i' j' p q (fun e => ?_) (fun s hs => ?_)
    · subst e; exact h r rfl
    · refine h s ?_
      cases l with
      | nil => cases hs
      | cons t l => rw [List.getLast?_cons_cons]; exact hs

theorem cost_append : ∀ (l m : List (Ed α)), cost (l ++ m) = cost l + cost m
  | [], m => by simp [cost]
  | x :: l, m => by rw [List.cons_append, cost, cost, cost_append l m]; omega

theorem one_cost {b : List α} {i j p q : Nat} (h1 : i ≤ p) (h2 : j ≤ q) (h3 : q ≤ b.length) : cost (one b i j p q) = (p - i : Int) + (q - j) := by
  unfold one
  split
  · simp only [cost, mid_len h3]; omega
  · simp only [cost]; omega

theorem ris_le {a b : List α} : ∀ {l : List (Nat × Nat)} {i j : Nat} {p : Nat × Nat}, Ris a b i j (p :: l) → p.1 < a.length ∧ p.2 < b.length := by
  intro l i j p h
  obtain ⟨_, _, ⟨x, h1, h2⟩, _⟩ := h
  exact ⟨(List.getElem?_eq_some_iff.1 h1).1, (List.getElem?_eq_some_iff.1 h2).1⟩

theorem eds_cost (a b : List α) : ∀ (l : List (Nat × Nat)) (i j : Nat), Ris a b i j l → i ≤ a.length → j ≤ b.length →
    cost (eds b i j (l ++ [(a.length, b.length)])) + 2 * l.length = (a.length - i : Int) + (b.length - j)
  | [], i, j, _, hi, hj => by
    simp only [List.nil_append, eds, List.append_nil, List.length_nil]
    rw [one_cost hi hj (Nat.le_refl _)]; omega
  | p :: l, i, j, h, hi, hj => by
    obtain ⟨l1, l2⟩ := ris_le h
    obtain ⟨h1, h2, _, h4⟩ := h
    have := eds_cost a b l (p.1 + 1) (p.2 + 1) h4 l1 l2
    rw [List.cons_append, eds, cost_append, one_cost h1 h2 (by omega), List.length_cons]
    omega
theorem edits_cost [DecidableEq α] (a b : List α) : cost (edits a b) = (a.length : Int) + b.length - 2 * lcs a b := by
  have := eds_cost a b (pairs a b) 0 0 (pairs_ris a b) (Nat.zero_le _) (Nat.zero_le _)
  rw [pairs_len] at this
  unfold edits ends; omega

theorem one_apl {a b : List α} {k i j p q : Nat} {f : Bool} {m : List (Ed α)} (hk : k ≤ i) (hf : f = false → k < i) (h1 : i ≤ p) (h3 : p ≤ a.length) (hl : i < p ∨ j < q) :
    apl a k f (one b i j p q ++ m) = (apl a p false m).map (fun r => mid a k i ++ mid b j q ++ r) := by
  unfold one
  rw [if_pos hl, List.cons_append, List.nil_append, apl_yes]
  · simp only
    rw [show ((i : Int) + ((p : Int) - i)).toNat = p by omega, show (i : Int).toNat = i by omega]
  · unfold fits; simp only
    refine ⟨by omega, fun h => ?_, by omega, by omega, by omega⟩
    have := hf h; omega

theorem eds_apl (a b : List α) : ∀ (l : List (Nat × Nat)) (k i j : Nat) (f : Bool), Ris a b i j l → k ≤ i → (f = false → k < i) → i ≤ a.length → j ≤ b.length →
    apl a k f (eds b i j (l ++ [(a.length, b.length)])) = some (mid a k i ++ b.drop j)
  | [], k, i, j, f, _, hk, hf, hi, hj => by
    simp only [List.nil_append, eds]
    by_cases hl : i < a.length ∨ j < b.length
    · rw [one_apl hk hf hi (Nat.le_refl _) hl, apl_nil, Option.map_some, List.drop_length, List.append_nil, mid_all j (Nat.le_refl _)]
    · unfold one
      rw [if_neg hl, List.nil_append, apl_nil, show j = b.length by omega, List.drop_length, List.append_nil, mid_all k (by omega)]
  | p :: l, k, i, j, f, h, hk, hf, hi, hj => by
    obtain ⟨l1, l2⟩ := ris_le h
    obtain ⟨h1, h2, ⟨x, x1, x2⟩, h4⟩ := h
    rw [List.cons_append, eds]
    by_cases hl : i < p.1 ∨ j < p.2
    · rw [one_apl hk hf h1 (by omega) hl, eds_apl a b l p.1 (p.1 + 1) (p.2 + 1) false h4 (by omega) (fun _ => by omega) l1 l2, Option.map_some, mid_one x1]
      rw [← mid_drop (a := b) h2, drop_cons x2]
      simp only [List.append_assoc, List.cons_append, List.nil_append]
    · have e1 : p.1 = i := by omega
      have e2 : p.2 = j := by omega
      unfold one
      rw [if_neg hl, List.nil_append, eds_apl a b l k (p.1 + 1) (p.2 + 1) f h4 (by omega) (fun _ => by omega) l1 l2, mid_snoc (by omega) x1, e1]
      rw [drop_cons (a := b) (j := j) (x := x) (by rw [← e2]; exact x2), e2]
      simp only [List.append_assoc, List.cons_append, List.nil_append]
theorem edits_appl [DecidableEq α] (a b : List α) : appl a (edits a b) = some b := by
  have := eds_apl a b (pairs a b) 0 0 0 true (pairs_ris a b) (Nat.le_refl _) (fun h => by cases h) (Nat.zero_le _) (Nat.zero_le _)
  rw [mid_self, List.drop_zero, List.nil_append] at this
  exact this

/-- Each edit takes something away, or puts something there. -/
theorem eds_some (a b : List α) : ∀ (l : List (Nat × Nat)) (i j : Nat), Ris a b i j l → i ≤ a.length → j ≤ b.length →
    ∀ x ∈ eds b i j (l ++ [(a.length, b.length)]), 1 ≤ x.old + x.new.length := by
  have ho : ∀ (i j p q : Nat), i ≤ p → j ≤ q → q ≤ b.length → ∀ x ∈ one b i j p q, 1 ≤ x.old + x.new.length := by
    intro i j p q h1 h2 h3 x hx
    unfold one at hx
    split at hx
    · rw [List.mem_singleton] at hx; subst hx
      simp only [mid_len h3]; omega
    · cases hx
  intro l
  induction l with
  | nil =>
    intro i j _ hi hj x hx
    simp only [List.nil_append, eds, List.append_nil] at hx
    exact ho i j _ _ hi hj (Nat.le_refl _) x hx
  | cons p l ih =>
    intro i j h hi hj x hx
    obtain ⟨l1, l2⟩ := ris_le h
    obtain ⟨h1, h2, _, h4⟩ := h
    rw [List.cons_append, eds, List.mem_append] at hx
    rcases hx with hx | hx
    · exact ho i j _ _ h1 h2 (by omega) x hx
    · exact ih _ _ h4 l1 l2 x hx
theorem edits_some [DecidableEq α] (a b : List α) : ∀ x ∈ edits a b, 1 ≤ x.old + x.new.length :=
  eds_some a b (pairs a b) 0 0 (pairs_ris a b) (Nat.zero_le _) (Nat.zero_le _)

theorem cost_len : ∀ (l : List (Ed α)), (∀ x ∈ l, 1 ≤ x.old + x.new.length) → (l.length : Int) ≤ cost l
  | [], _ => by simp [cost]
  | x :: l, h => by
    have h1 := h x List.mem_cons_self
    have h2 := cost_len l fun y hy => h y (List.mem_cons_of_mem _ hy)
    rw [cost, List.length_cons]; omega

/-- There are no edits just if both are the same. -/
theorem edits_none [DecidableEq α] (a b : List α) : (edits a b).length = 0 ↔ a = b := by
  constructor
  · intro h
    have := edits_appl a b
    rw [List.length_eq_zero_iff.1 h, appl, apl_nil, List.drop_zero] at this
    exact Option.some.inj this
  · intro h
    subst h
    have h1 := cost_len _ (edits_some a a)
    rw [edits_cost, lcs_self] at h1
    omega
theorem edits_len_le [DecidableEq α] (a b : List α) : (edits a b).length ≤ a.length + b.length := by
  have h1 := cost_len _ (edits_some a b)
  rw [edits_cost] at h1
  omega
theorem edits_turn [DecidableEq α] (a b : List α) : cost (edits b a) = cost (edits a b) := by
  rw [edits_cost, edits_cost, lcs_comm b a]; omega

/-- There is nothing in common just if no line stands in both. -/
theorem lcs_zero [DecidableEq α] (a b : List α) : lcs a b = 0 ↔ ∀ x ∈ a, x ∉ b := by
  constructor
  · intro h x h1 h2
    have := le_lcs (List.singleton_sublist.2 h1) (List.singleton_sublist.2 h2)
    rw [h] at this; simp at this
  · intro h
    obtain ⟨s, s1, s2, s3⟩ := lcs_some a b
    cases s with
    | nil => exact s3.symm
    | cons x s => exact absurd (s2.subset List.mem_cons_self) (h x (s1.subset List.mem_cons_self))
theorem edits_bound [DecidableEq α] (a b : List α) : cost (edits a b) ≤ (a.length : Int) + b.length ∧ (cost (edits a b) = (a.length : Int) + b.length ↔ ∀ x ∈ a, x ∉ b) := by
  rw [edits_cost, ← lcs_zero]; omega

theorem two_subs : ∀ (b s t : List α), s.Sublist b → t.Sublist b → ∃ u : List α, u.Sublist s ∧ u.Sublist t ∧ s.length + t.length ≤ b.length + u.length
  | [], s, t, h1, h2 => by
    have := h1.length_le; have := h2.length_le
    exact ⟨[], List.nil_sublist _, List.nil_sublist _, by simp only [List.length_nil] at *; omega⟩
  | x :: b, s, t, h1, h2 => by
    rcases List.sublist_cons_iff.1 h1 with h1 | ⟨s', rfl, g1⟩
    · rcases List.sublist_cons_iff.1 h2 with h2 | ⟨t', rfl, g2⟩
      · obtain ⟨u, u1, u2, u3⟩ := two_subs b s t h1 h2
        exact ⟨u, u1, u2, by simp only [List.length_cons]; omega⟩
      · obtain ⟨u, u1, u2, u3⟩ := two_subs b s t' h1 g2
        exact ⟨u, u1, u2.cons x, by simp only [List.length_cons]; omega⟩
    · rcases List.sublist_cons_iff.1 h2 with h2 | ⟨t', rfl, g2⟩
      · obtain ⟨u, u1, u2, u3⟩ := two_subs b s' t g1 h2
        exact ⟨u, u1.cons x, u2, by simp only [List.length_cons]; omega⟩
      · obtain ⟨u, u1, u2, u3⟩ := two_subs b s' t' g1 g2
        exact ⟨x :: u, u1.cons_cons x, u2.cons_cons x, by simp only [List.length_cons]; omega⟩
theorem lcs_three [DecidableEq α] (a b c : List α) : lcs a b + lcs b c ≤ b.length + lcs a c := by
  obtain ⟨s, s1, s2, s3⟩ := lcs_some a b
  obtain ⟨t, t1, t2, t3⟩ := lcs_some b c
  obtain ⟨u, u1, u2, u3⟩ := two_subs b s t s2 t1
  have := le_lcs (u1.trans s1) (u2.trans t2)
  omega
/-- By way of a third list it costs no less. -/
theorem edits_three [DecidableEq α] (a b c : List α) : cost (edits a c) ≤ cost (edits a b) + cost (edits b c) := by
  have := lcs_three a b c
  rw [edits_cost, edits_cost, edits_cost]; omega

end
end Df
end Go.Proofs.Ytbiiabfhngdeiaa

namespace Go.Proofs.Ytbiiabfhngdeiaa
namespace Hk
open Lc Df Sq

/-- A hunk: a place, the lines that stand there, and those that stand there then. -/
structure Hu (α : Type) where
  pos : Int
  old : List α
  new : List α

def turn {α : Type} (h : Hu α) : Hu α := ⟨h.pos, h.new, h.old⟩
theorem turn_turn {α : Type} (h : Hu α) : turn (turn h) = h := rfl

section
variable {α : Type}

/-- The hunks of edits, if all places ahead have moved by m. -/
def hks (a : List α) : Int → List (Ed α) → List (Hu α)
  | _, [] => []
  | m, x :: l => ⟨x.pos + m, mid a x.pos.toNat (x.pos + x.old).toNat, x.new⟩ :: hks a (m + x.new.length - x.old) l

theorem hks_len (a : List α) : ∀ (l : List (Ed α)) (m : Int), (hks a m l).length = l.length
  | [], m => rfl
  | x :: l, m => by rw [hks, List.length_cons, List.length_cons, hks_len a l]

theorem mid_mem {a : List α} {i j : Nat} {x : α} (h : x ∈ mid a i j) : x ∈ a := List.mem_of_mem_drop (List.mem_of_mem_take h)
/-- Hunks stand where what turns the edits back stands. -/
theorem hks_bks (a : List α) : ∀ (l : List (Ed α)) (m : Int), (hks a m l).map (fun h => h.pos) = (bks a m l).map (fun x => x.pos)
  | [], m => rfl
  | x :: l, m => by rw [hks, bks, List.map_cons, List.map_cons, hks_bks a l]

/-- Each hunk's lines are of the lists. -/
theorem eds_mem (b : List α) : ∀ (l : List (Nat × Nat)) (i j : Nat), ∀ x ∈ eds b i j l, ∀ y ∈ x.new, y ∈ b
  | [], i, j, x, hx => by cases hx
  | p :: l, i, j, x, hx => by
    rw [eds, List.mem_append] at hx
    rcases hx with hx | hx
    · unfold one at hx
      split at hx
      · rw [List.mem_singleton] at hx; subst hx; exact fun y hy => mid_mem hy
      · cases hx
    · exact eds_mem b l _ _ x hx
theorem hks_mem (a b : List α) : ∀ (l : List (Ed α)) (m : Int), (∀ x ∈ l, ∀ y ∈ x.new, y ∈ b) → ∀ h ∈ hks a m l, (∀ y ∈ h.old, y ∈ a) ∧ ∀ y ∈ h.new, y ∈ b
  | [], m, _, h, hh => by cases hh
  | x :: l, m, hx, h, hh => by
    rw [hks] at hh
    rcases List.mem_cons.1 hh with rfl | hh
    · exact ⟨fun y hy => mid_mem hy, hx x List.mem_cons_self⟩
    · exact hks_mem a b l _ (fun z hz => hx z (List.mem_cons_of_mem _ hz)) h hh

variable [DecidableEq α]

/-- What a hunk makes of a list. -/
def done (l : List α) (h : Hu α) : Option (List α) := if has l h.pos h.old then some (swp l h.pos.toNat h.old.length h.new) else none
theorem done_yes {l : List α} {h : Hu α} (hh : has l h.pos h.old = true) : done l h = some (swp l h.pos.toNat h.old.length h.new) := by rw [done, if_pos hh]
theorem done_no {l : List α} {h : Hu α} (hh : has l h.pos h.old = false) : done l h = none := by rw [done, hh]; rfl
theorem done_some {l m : List α} {h : Hu α} (hd : done l h = some m) : has l h.pos h.old = true ∧ m = swp l h.pos.toNat h.old.length h.new := by
  cases hh : has l h.pos h.old with
  | false => rw [done_no hh] at hd; cases hd
  | true => rw [done_yes hh] at hd; injection hd with hd; exact ⟨rfl, hd.symm⟩

/-- What is changed, and turned, is as it was. -/
theorem done_back {l m : List α} {h : Hu α} (hd : done l h = some m) : done m (turn h) = some l := by
  obtain ⟨hh, rfl⟩ := done_some hd
  obtain ⟨h1, h2, _⟩ := back_again (now := h.new) hh
  rw [done_yes (h := turn h) h1]
  exact congrArg some h2
/-- Behind a hunk its New lines stand there, and there are as many lines more. -/
theorem done_len {l m : List α} {h : Hu α} (hd : done l h = some m) : has m h.pos h.new = true ∧ (m.length : Int) = l.length + h.new.length - h.old.length := by
  obtain ⟨hh, rfl⟩ := done_some hd
  obtain ⟨h1, _, h3⟩ := back_again (now := h.new) hh
  exact ⟨h1, by omega⟩

/-- Hunks, one behind the other. -/
def run : List α → List (Hu α) → Option (List α)
  | l, [] => some l
  | l, h :: hs => (done l h).bind fun m => run m hs

theorem run_hks (a : List α) : ∀ (l : List (Ed α)) (k : Nat) (m : Int) (f : Bool) (r u : List α), k ≤ a.length → apl a k f l = some r → (u.length : Int) = k + m → run (u ++ a.drop k) (hks a m l) = some (u ++ r)
  | [], k, m, f, r, u, hk, h, hu => by rw [apl_nil] at h; cases h; rfl
  | x :: l, k, m, f, r, u, hk, h, hu => by
    obtain ⟨⟨h1, h2, h3, h4, h5⟩, r, hr, rfl⟩ := apl_some h
    obtain ⟨p, hp⟩ : ∃ p : Nat, x.pos = p := ⟨x.pos.toNat, by omega⟩
    obtain ⟨q, hq⟩ : ∃ q : Nat, x.old = q := ⟨x.old.toNat, by omega⟩
    rw [hp, hq, show ((p : Int) + (q : Int)).toNat = p + q by omega] at hr
    rw [hp] at h1 h3 h5
    rw [hq] at h4 h5
    rw [hks, hp, hq, show (p : Int).toNat = p by omega, show ((p : Int) + (q : Int)).toNat = p + q by omega]
    have lm := mid_len (a := a) (i := k) (j := p) (by omega)
    have lq := mid_len (a := a) (i := p) (j := p + q) (by omega)
    have e : u ++ a.drop k = (u ++ mid a k p) ++ (mid a p (p + q) ++ a.drop (p + q)) := by
      rw [mid_drop (by omega), List.append_assoc, mid_drop (by omega)]
    have ep : ((u ++ mid a k p).length : Int) = (p : Int) + m := by rw [List.length_append, lm]; omega
    have hh := has_of_split (u ++ mid a k p) (mid a p (p + q)) (a.drop (p + q))
    rw [e, run, ← ep, done_yes hh, Option.bind_some]
    simp only [Int.toNat_natCast]
    rw [swp_parts]
    have ih := run_hks a l (p + q) (m + x.new.length - q) false r (u ++ mid a k p ++ x.new) (by omega) hr (by rw [List.length_append, List.length_append, lm]; omega)
    rw [List.append_assoc (u ++ mid a k p)] at ih
    rw [ih]
    simp only [List.append_assoc]

/-- The lists on the way, and how long they are. -/
theorem trace_hks (a : List α) : ∀ (l : List (Ed α)) (k : Nat) (m : Int) (f : Bool) (r u : List α), k ≤ a.length → apl a k f l = some r → (u.length : Int) = k + m →
    ∃ L : Nat → List α, L 0 = u ++ a.drop k ∧ L l.length = u ++ r ∧ (∀ i, i ≤ l.length → (L i).length ≤ (u ++ r).length + a.length) ∧ ∀ (i : Nat) h, (hks a m l)[i]? = some h → done (L i) h = some (L (i + 1))
  | [], k, m, f, r, u, hk, h, hu => by
    rw [apl_nil] at h; cases h
    exact ⟨fun _ => u ++ a.drop k, rfl, rfl, fun i _ => Nat.le_add_right _ _, fun i h hi => by rw [hks] at hi; simp at hi⟩
  | x :: l, k, m, f, r, u, hk, h, hu => by
    obtain ⟨⟨h1, h2, h3, h4, h5⟩, r, hr, rfl⟩ := apl_some h
    obtain ⟨p, hp⟩ : ∃ p : Nat, x.pos = p := ⟨x.pos.toNat, by omega⟩
    obtain ⟨q, hq⟩ : ∃ q : Nat, x.old = q := ⟨x.old.toNat, by omega⟩
    rw [hp, hq, show ((p : Int) + (q : Int)).toNat = p + q by omega] at hr
    rw [hp] at h1 h3 h5
    rw [hq] at h4 h5
    rw [hks, hp, hq, show (p : Int).toNat = p by omega, show ((p : Int) + (q : Int)).toNat = p + q by omega]
    have lm := mid_len (a := a) (i := k) (j := p) (by omega)
    have e : u ++ a.drop k = (u ++ mid a k p) ++ (mid a p (p + q) ++ a.drop (p + q)) := by
      rw [mid_drop (by omega), List.append_assoc, mid_drop (by omega)]
    have ep : ((u ++ mid a k p).length : Int) = (p : Int) + m := by rw [List.length_append, lm]; omega
    have hh := has_of_split (u ++ mid a k p) (mid a p (p + q)) (a.drop (p + q))
    obtain ⟨L, k1, k2, k3, k4⟩ := trace_hks a l (p + q) (m + x.new.length - q) false r (u ++ mid a k p ++ x.new) (by omega) hr (by rw [List.length_append, List.length_append, lm]; omega)
    refine ⟨fun i => match i with | 0 => u ++ a.drop k | i + 1 => L i, rfl, ?_, ?_, fun i g hi => ?_⟩
    · show L l.length = _
      rw [k2]; simp only [List.append_assoc]
    · intro i hi
      match i, hi with
      | 0, _ => show (u ++ a.drop k).length ≤ _; simp only [List.length_append, List.length_drop]; omega
      | i + 1, hi =>
        have := k3 i (by simpa using hi)
        show (L i).length ≤ _
        simp only [List.length_append] at this ⊢
        omega
    · match i, hi with
      | 0, hi =>
        cases hi
        show done (u ++ a.drop k) _ = some (L 0)
        rw [k1, e, ← ep, done_yes hh]
        simp only [Int.toNat_natCast]
        rw [swp_parts]
        simp only [List.append_assoc]
      | i + 1, hi => exact k4 i g (by simpa using hi)

theorem trace_edits (a b : List α) : ∃ L : Nat → List α, L 0 = a ∧ L (hks a 0 (edits a b)).length = b ∧ (∀ i, i ≤ (hks a 0 (edits a b)).length → (L i).length ≤ b.length + a.length) ∧ ∀ (i : Nat) h, (hks a 0 (edits a b))[i]? = some h → done (L i) h = some (L (i + 1)) := by
  have := trace_hks a (edits a b) 0 0 true b [] (Nat.zero_le _) (edits_appl a b) rfl
  rw [List.drop_zero, List.nil_append, List.nil_append, ← hks_len a (edits a b) 0] at this
  exact this

/-- Hunks of two lists change the first one into the second one. -/
theorem run_edits (a b : List α) : run a (hks a 0 (edits a b)) = some b := by
  have := run_hks a (edits a b) 0 0 true b [] (Nat.zero_le _) (edits_appl a b) rfl
  rw [List.drop_zero, List.nil_append, List.nil_append] at this
  exact this

/-- The lists on the way. -/
theorem run_trace : ∀ (hs : List (Hu α)) (l r : List α), run l hs = some r → ∃ L : Nat → List α, L 0 = l ∧ L hs.length = r ∧ ∀ (i : Nat) h, hs[i]? = some h → done (L i) h = some (L (i + 1))
  | [], l, r, h => by rw [run] at h; cases h; exact ⟨fun _ => l, rfl, rfl, fun i h hi => by simp at hi⟩
  | h :: hs, l, r, hr => by
    rw [run, Option.bind_eq_some_iff] at hr
    obtain ⟨m, h1, h2⟩ := hr
    obtain ⟨L, k1, k2, k3⟩ := run_trace hs m r h2
    refine ⟨fun i => match i with | 0 => l | i + 1 => L i, rfl, k2, fun i g hi => ?_⟩
    match i, hi with
    | 0, hi => cases hi; show done l h = some (L 0); rw [k1]; exact h1
    | i + 1, hi => exact k3 i g (by simpa using hi)

theorem edits_mem (a b : List α) : ∀ h ∈ hks a 0 (edits a b), (∀ y ∈ h.old, y ∈ a) ∧ ∀ y ∈ h.new, y ∈ b :=
  hks_mem a b _ 0 (eds_mem b _ 0 0)
theorem done_pos {l m : List α} {h : Hu α} (hd : done l h = some m) : 0 ≤ h.pos ∧ h.pos + h.old.length ≤ l.length := by
  have := has_len (done_some hd).1
  omega

end
end Hk
end Go.Proofs.Ytbiiabfhngdeiaa

namespace Go.Proofs.Ytbiiabfhngdeiaa
namespace Sw
open Sq Hk

section
variable {α : Type}

/-- A hunk at another place. -/
def at_ (h : Hu α) (i : Int) : Hu α := ⟨i, h.old, h.new⟩
/-- Behind one that is not behind it: the second one's lines stand behind the first one's. -/
def ahead (p q : Hu α) : Option (Hu α × Hu α) := if p.pos + p.new.length < q.pos then some (at_ q (q.pos - p.new.length + p.old.length), p) else none
def behind (p q : Hu α) : Option (Hu α × Hu α) := if q.pos + q.old.length < p.pos then some (q, at_ p (p.pos - q.old.length + q.new.length)) else none
/-- What two hunks are when the second one is ahead. -/
def pass (p q : Hu α) : Option (Hu α × Hu α) := (ahead p q).or (behind p q)

theorem hu_ext {g h : Hu α} (h1 : g.pos = h.pos) (h2 : g.old = h.old) (h3 : g.new = h.new) : g = h := by
  cases g; cases h; simp only at h1 h2 h3; subst h1 h2 h3; rfl

/-- The two ways to pass. -/
theorem pass_cases {p q x y : Hu α} (h : pass p q = some (x, y)) :
    (p.pos + p.new.length < q.pos ∧ x = at_ q (q.pos - p.new.length + p.old.length) ∧ y = p) ∨ (q.pos + q.old.length < p.pos ∧ x = q ∧ y = at_ p (p.pos - q.old.length + q.new.length)) := by
  unfold pass ahead behind at h
  split at h
  · rw [Option.some_or] at h
    injection h with h; injection h with h1 h2
    exact .inl ⟨by assumption, h1.symm, h2.symm⟩
  · rw [Option.none_or] at h
    split at h
    · injection h with h; injection h with h1 h2
      exact .inr ⟨by assumption, h1.symm, h2.symm⟩
    · cases h
theorem pass_ahead {p q : Hu α} (h : p.pos + p.new.length < q.pos) : pass p q = some (at_ q (q.pos - p.new.length + p.old.length), p) := by
  unfold pass ahead; rw [if_pos h]; rfl
theorem pass_behind {p q : Hu α} (h : q.pos + q.old.length < p.pos) : pass p q = some (q, at_ p (p.pos - q.old.length + q.new.length)) := by
  unfold pass ahead behind; rw [if_neg (by omega), if_pos h]; rfl
theorem pass_none {p q : Hu α} (h1 : ¬ p.pos + p.new.length < q.pos) (h2 : ¬ q.pos + q.old.length < p.pos) : pass p q = none := by
  unfold pass ahead behind; rw [if_neg h1, if_neg h2]; rfl

/-- Those that passed one another pass back to what they were. -/
theorem pass_back {p q x y : Hu α} (h : pass p q = some (x, y)) : pass x y = some (p, q) := by
  rcases pass_cases h with ⟨h1, rfl, rfl⟩ | ⟨h1, rfl, rfl⟩
  · rw [pass_behind (by simp only [at_]; omega)]
    exact congrArg some (Prod.ext rfl (hu_ext (by simp only [at_]; omega) rfl rfl))
  · rw [pass_ahead (by simp only [at_]; omega)]
    exact congrArg some (Prod.ext (hu_ext (by simp only [at_]; omega) rfl rfl) rfl)

/-- Turned they pass in the other order. -/
theorem pass_turn {p q x y : Hu α} (h : pass p q = some (x, y)) : pass (turn q) (turn p) = some (turn y, turn x) := by
  rcases pass_cases h with ⟨h1, rfl, rfl⟩ | ⟨h1, rfl, rfl⟩
  · rw [pass_behind (by simp only [turn]; omega)]; rfl
  · rw [pass_ahead (by simp only [turn]; omega)]; rfl
theorem pass_turn_none {p q : Hu α} (h : pass p q = none) : pass (turn q) (turn p) = none := by
  cases hb : pass (turn q) (turn p) with
  | none => rfl
  | some z =>
    have := pass_turn (x := z.1) (y := z.2) (p := turn q) (q := turn p) hb
    rw [turn_turn, turn_turn, h] at this
    cases this

/-- Just one moves, and the lines stay. -/
theorem pass_moves {p q x y : Hu α} (h : pass p q = some (x, y)) :
    ((y.pos = p.pos ∧ x.pos = q.pos - p.new.length + p.old.length) ∨ (x.pos = q.pos ∧ y.pos = p.pos - q.old.length + q.new.length)) ∧ x.old = q.old ∧ x.new = q.new ∧ y.old = p.old ∧ y.new = p.new := by
  rcases pass_cases h with ⟨_, rfl, rfl⟩ | ⟨_, rfl, rfl⟩
  · exact ⟨.inl ⟨rfl, rfl⟩, rfl, rfl, rfl, rfl⟩
  · exact ⟨.inr ⟨rfl, rfl⟩, rfl, rfl, rfl, rfl⟩
/-- Where they stand then is not below nought. -/
theorem pass_pos {p q x y : Hu α} (h : pass p q = some (x, y)) (hp : 0 ≤ p.pos) (hq : 0 ≤ q.pos) : 0 ≤ x.pos ∧ 0 ≤ y.pos := by
  rcases pass_cases h with ⟨h1, rfl, rfl⟩ | ⟨h1, rfl, rfl⟩
  · exact ⟨by simp only [at_]; omega, hp⟩
  · exact ⟨hq, by simp only [at_]; omega⟩
/-- Two that touch do not pass. -/
theorem pass_touch {p q : Hu α} (h1 : p.pos ≤ q.pos) (h2 : q.pos ≤ p.pos + p.new.length) : pass p q = none := pass_none (by omega) (by omega)

/-- Three of which each two pass one another come to the same by either way. -/
theorem pass_three {p q r q1 p1 r1 p2 r2 q2 r3 q3 r4 p3 q4 p4 : Hu α} (i : pass p q = some (q1, p1)) (j : pass p1 r = some (r1, p2)) (k : pass q1 r1 = some (r2, q2))
    (l : pass q r = some (r3, q3)) (m : pass p r3 = some (r4, p3)) (n : pass p3 q3 = some (q4, p4)) : r2 = r4 ∧ q2 = q4 ∧ p2 = p4 := by
  rcases pass_cases i with ⟨i1, rfl, rfl⟩ | ⟨i1, rfl, rfl⟩ <;> rcases pass_cases j with ⟨j1, rfl, rfl⟩ | ⟨j1, rfl, rfl⟩ <;> rcases pass_cases k with ⟨k1, rfl, rfl⟩ | ⟨k1, rfl, rfl⟩ <;>
    rcases pass_cases l with ⟨l1, rfl, rfl⟩ | ⟨l1, rfl, rfl⟩ <;> rcases pass_cases m with ⟨m1, rfl, rfl⟩ | ⟨m1, rfl, rfl⟩ <;> rcases pass_cases n with ⟨n1, rfl, rfl⟩ | ⟨n1, rfl, rfl⟩ <;>
    simp only [at_] at i1 j1 k1 l1 m1 n1 <;>
    first
      | (exfalso; omega)
      | exact ⟨hu_ext (by simp only [at_] <;> omega) rfl rfl, hu_ext (by simp only [at_] <;> omega) rfl rfl, hu_ext (by simp only [at_] <;> omega) rfl rfl⟩

variable [DecidableEq α]

/-- Where two change a list, one behind the other, those that are told do so, to the same. -/
theorem pass_same {l m n : List α} {p q x y : Hu α} (h : pass p q = some (x, y)) (h1 : done l p = some m) (h2 : done m q = some n) : ∃ k, done l x = some k ∧ done k y = some n := by
  obtain ⟨hp, rfl⟩ := done_some h1
  obtain ⟨hq, rfl⟩ := done_some h2
  obtain ⟨b1, b2, _⟩ := back_again (now := p.new) hp
  have z1 := (has_len hp).1
  have z2 := (has_len hq).1
  rcases pass_cases h with ⟨c, rfl, rfl⟩ | ⟨c, rfl, rfl⟩
  · obtain ⟨i, hi⟩ : ∃ i : Nat, y.pos = i := ⟨y.pos.toNat, by omega⟩
    obtain ⟨g, hg⟩ : ∃ g : Nat, q.pos = ((i + y.new.length + g : Nat) : Int) := ⟨(q.pos - i - y.new.length).toNat, by omega⟩
    rw [hi, Int.toNat_natCast] at b1 b2
    rw [hi, Int.toNat_natCast, hg] at hq
    obtain ⟨a1, a2, a3⟩ := apart (now := y.old) (thn := q.new) b1 hq
    rw [b2] at a1 a3
    obtain ⟨e1, e2, _⟩ := back_again (now := y.old) a2
    rw [Int.toNat_natCast] at e1 e2
    rw [← a3] at e1 e2
    have hx : (at_ q (q.pos - y.new.length + y.old.length)).pos = ((i + y.old.length + g : Nat) : Int) := by simp only [at_]; omega
    refine ⟨swp l (i + y.old.length + g) q.old.length q.new, ?_, ?_⟩
    · rw [done_yes (by rw [hx]; exact a1), hx, Int.toNat_natCast]; rfl
    · rw [done_yes (by rw [hi]; exact e1), hi, hg, Int.toNat_natCast, Int.toNat_natCast, e2]
  · obtain ⟨i, hi⟩ : ∃ i : Nat, x.pos = i := ⟨x.pos.toNat, by omega⟩
    obtain ⟨g, hg⟩ : ∃ g : Nat, p.pos = ((i + x.old.length + g : Nat) : Int) := ⟨(p.pos - i - x.old.length).toNat, by omega⟩
    rw [hg, Int.toNat_natCast] at b1 b2 hq
    rw [hi] at hq
    obtain ⟨a1, a2, a3⟩ := apart (now := x.new) (thn := p.old) hq b1
    rw [b2] at a2 a3
    obtain ⟨e1, e2, _⟩ := back_again (now := p.old) a1
    rw [Int.toNat_natCast] at e1 e2
    rw [a3] at e1 e2
    have hx : (at_ p (p.pos - x.old.length + x.new.length)).pos = ((i + x.new.length + g : Nat) : Int) := by simp only [at_]; omega
    refine ⟨swp l i x.old.length x.new, ?_, ?_⟩
    · rw [done_yes (by rw [hi]; exact a2), hi, Int.toNat_natCast]
    · rw [done_yes (by rw [hx]; exact e1), hx, Int.toNat_natCast, hi, hg, Int.toNat_natCast, Int.toNat_natCast]
      exact congrArg some e2

end
end Sw
end Go.Proofs.Ytbiiabfhngdeiaa

namespace Go.Proofs.Ytbiiabfhngdeiaa
namespace Tr

/-- An order of names: of two that are not the same just one is less; of three that go on so the first one is. -/
structure Lin {κ : Type} (lt : κ → κ → Bool) : Prop where
  irr : ∀ a, lt a a = false
  tr : ∀ {a b c}, lt a b = true → lt b c = true → lt a c = true
  tri : ∀ {a b}, a ≠ b → lt a b = true ∨ lt b a = true
theorem Lin.asym {κ : Type} {lt : κ → κ → Bool} (h : Lin lt) {a b : κ} (hab : lt a b = true) : lt b a = false := by
  cases hb : lt b a with
  | false => rfl
  | true => have := h.tr hab hb; rw [h.irr] at this; cases this
theorem Lin.ne {κ : Type} {lt : κ → κ → Bool} (h : Lin lt) {a b : κ} (hab : lt a b = true) : a ≠ b := fun e => by subst e; rw [h.irr] at hab; cases hab

section
variable {κ β : Type}

/-- The names rise. -/
def Up (lt : κ → κ → Bool) (t : List (κ × β)) : Prop := t.Pairwise fun f g => lt f.1 g.1 = true

theorem up_keys {lt : κ → κ → Bool} {t : List (κ × β)} : Up lt t ↔ (t.map (·.1)).Pairwise fun a b => lt a b = true := by
  unfold Up; rw [List.pairwise_map]
/-- A file ahead of the first one of a greater name. -/
def ins (lt : κ → κ → Bool) : List (κ × β) → κ → β → List (κ × β)
  | [], n, l => [(n, l)]
  | f :: t, n, l => if lt n f.1 then (n, l) :: f :: t else f :: ins lt t n l

theorem ins_mem (lt : κ → κ → Bool) : ∀ (t : List (κ × β)) (n : κ) (l : β) (g : κ × β), g ∈ ins lt t n l ↔ g = (n, l) ∨ g ∈ t
  | [], n, l, g => by simp [ins]
  | f :: t, n, l, g => by
    unfold ins
    split
    · simp
    · rw [List.mem_cons, ins_mem lt t, List.mem_cons]
      constructor
      · rintro (h | h | h)
        · exact .inr (.inl h)
        · exact .inl h
        · exact .inr (.inr h)
      · rintro (h | h | h)
        · exact .inr (.inl h)
        · exact .inl h
        · exact .inr (.inr h)
theorem ins_len (lt : κ → κ → Bool) : ∀ (t : List (κ × β)) (n : κ) (l : β), (ins lt t n l).length = t.length + 1
  | [], n, l => rfl
  | f :: t, n, l => by
    unfold ins
    split
    · rfl
    · rw [List.length_cons, ins_len lt t, List.length_cons]

variable [DecidableEq κ]

/-- The lines of the first file of a name. -/
def get : List (κ × β) → κ → Option β
  | [], _ => none
  | f :: t, n => if f.1 = n then some f.2 else get t n
/-- The first file of a name has other lines. -/
def upd : List (κ × β) → κ → β → List (κ × β)
  | [], _, _ => []
  | f :: t, n, l => if f.1 = n then (n, l) :: t else f :: upd t n l
def put (lt : κ → κ → Bool) (t : List (κ × β)) (n : κ) (l : β) : List (κ × β) := if (get t n).isSome then upd t n l else ins lt t n l
/-- Without the first file of a name. -/
def del : List (κ × β) → κ → List (κ × β)
  | [], _ => []
  | f :: t, n => if f.1 = n then t else f :: del t n

theorem get_cons (f : κ × β) (t : List (κ × β)) (n : κ) : get (f :: t) n = if f.1 = n then some f.2 else get t n := rfl
theorem get_none : ∀ {t : List (κ × β)} {n : κ}, get t n = none ↔ ∀ f ∈ t, f.1 ≠ n
  | [], n => by simp [get]
  | f :: t, n => by
    rw [get_cons]
    split
    · rename_i h; simp [h]
    · rename_i h; rw [get_none]; simp [h]
theorem get_mem : ∀ {t : List (κ × β)} {n : κ} {l : β}, get t n = some l → (n, l) ∈ t
  | [], n, l, h => by cases h
  | f :: t, n, l, h => by
    rw [get_cons] at h
    split at h
    · rename_i e; injection h with h; subst e; subst h; exact List.mem_cons_self
    · exact List.mem_cons_of_mem _ (get_mem h)
theorem get_of_mem {lt : κ → κ → Bool} (hl : Lin lt) : ∀ {t : List (κ × β)} {f : κ × β}, Up lt t → f ∈ t → get t f.1 = some f.2
  | g :: t, f, hu, hf => by
    obtain ⟨h1, h2⟩ := List.pairwise_cons.1 hu
    rw [get_cons]
    rcases List.mem_cons.1 hf with rfl | hf
    · rw [if_pos rfl]
    · rw [if_neg (hl.ne (h1 f hf)), get_of_mem hl h2 hf]

/-- What a rising tree is its files tell. -/
theorem up_ext {lt : κ → κ → Bool} (hl : Lin lt) : ∀ {t u : List (κ × β)}, Up lt t → Up lt u → (∀ n, get t n = get u n) → t = u
  | [], [], _, _, _ => rfl
  | [], g :: u, _, _, h => by have := h g.1; rw [get_cons, if_pos rfl] at this; cases this
  | f :: t, [], _, _, h => by have := h f.1; rw [get_cons, if_pos rfl] at this; cases this
  | f :: t, g :: u, ht, hu, h => by
    obtain ⟨t1, t2⟩ := List.pairwise_cons.1 ht
    obtain ⟨u1, u2⟩ := List.pairwise_cons.1 hu
    have e : f.1 = g.1 := by
      refine Classical.byContradiction fun hne => ?_
      rcases hl.tri hne with hlt | hlt
      · have hf := h f.1
        rw [get_cons, if_pos rfl, get_cons, if_neg (Ne.symm hne)] at hf
        have := get_mem hf.symm
        have := hl.asym (u1 _ this)
        rw [hlt] at this; cases this
      · have hg := h g.1
        rw [get_cons, if_neg hne, get_cons, if_pos rfl] at hg
        have := get_mem hg
        have := hl.asym (t1 _ this)
        rw [hlt] at this; cases this
    have e2 : f = g := by
      have := h f.1
      rw [get_cons, if_pos rfl, get_cons, if_pos e.symm] at this
      injection this with this
      exact Prod.ext e this
    subst e2
    refine congrArg (f :: ·) (up_ext hl t2 u2 fun n => ?_)
    by_cases hn : f.1 = n
    · subst hn
      have ht0 : get t f.1 = none := get_none.2 fun x hx => Ne.symm (hl.ne (t1 x hx))
      have hu0 : get u f.1 = none := get_none.2 fun x hx => Ne.symm (hl.ne (u1 x hx))
      rw [ht0, hu0]
    · have := h n
      rwa [get_cons, if_neg hn, get_cons, if_neg hn] at this

theorem get_upd : ∀ (t : List (κ × β)) (n o : κ) (l : β), get (upd t n l) o = if n = o then (get t n).map (fun _ => l) else get t o
  | [], n, o, l => by simp [upd, get]
  | f :: t, n, o, l => by
    unfold upd
    by_cases h : f.1 = n
    · rw [if_pos h, get_cons, get_cons, get_cons, h]
      by_cases ho : n = o
      · rw [if_pos ho, if_pos ho, if_pos rfl]; rfl
      · rw [if_neg ho, if_neg ho, if_neg ho]
    · rw [if_neg h, get_cons, get_cons, get_cons, get_upd t, if_neg h]
      by_cases ho : n = o
      · rw [if_pos ho, if_pos ho, if_neg (by rw [← ho]; exact h)]
      · rw [if_neg ho, if_neg ho]
theorem get_ins (lt : κ → κ → Bool) : ∀ (t : List (κ × β)) (n o : κ) (l : β), get t n = none → get (ins lt t n l) o = if n = o then some l else get t o
  | [], n, o, l, _ => by simp [ins, get]
  | f :: t, n, o, l, h => by
    rw [get_cons] at h
    split at h
    · cases h
    · rename_i hf
      unfold ins
      split
      · rw [get_cons]
      · rw [get_cons, get_ins lt t n o l h, get_cons]
        by_cases ho : n = o
        · subst ho; rw [if_neg hf, if_pos rfl, if_pos rfl]
        · rw [if_neg ho, if_neg ho]
/-- What is put is got, and changes no other file. -/
theorem get_put (lt : κ → κ → Bool) (t : List (κ × β)) (n o : κ) (l : β) : get (put lt t n l) o = if n = o then some l else get t o := by
  unfold put
  cases h : get t n with
  | none => exact get_ins lt t n o l h
  | some x =>
    rw [Option.isSome_some, if_pos rfl, get_upd, h]
    rfl
theorem get_del {lt : κ → κ → Bool} (hl : Lin lt) : ∀ {t : List (κ × β)}, Up lt t → ∀ (n o : κ), get (del t n) o = if n = o then none else get t o
  | [], _, n, o => by simp [del, get]
  | f :: t, hu, n, o => by
    obtain ⟨h1, h2⟩ := List.pairwise_cons.1 hu
    unfold del
    by_cases h : f.1 = n
    · subst h
      rw [if_pos rfl]
      by_cases ho : f.1 = o
      · subst ho
        rw [if_pos rfl]
        exact get_none.2 fun x hx => Ne.symm (hl.ne (h1 x hx))
      · rw [if_neg ho, get_cons, if_neg ho]
    · rw [if_neg h, get_cons, get_del hl h2, get_cons]
      by_cases ho : n = o
      · rw [if_pos ho, if_neg (by rw [← ho]; exact h), if_pos ho]
      · rw [if_neg ho, if_neg ho]

theorem upd_keys : ∀ (t : List (κ × β)) (n : κ) (l : β), (upd t n l).map (·.1) = t.map (·.1)
  | [], _, _ => rfl
  | f :: t, n, l => by
    unfold upd
    split
    · rename_i h; rw [List.map_cons, List.map_cons, h]
    · rw [List.map_cons, List.map_cons, upd_keys t]
theorem upd_len (t : List (κ × β)) (n : κ) (l : β) : (upd t n l).length = t.length := by
  have := congrArg List.length (upd_keys t n l)
  simpa using this
theorem up_ins {lt : κ → κ → Bool} (hl : Lin lt) : ∀ {t : List (κ × β)} {n : κ} {l : β}, Up lt t → get t n = none → Up lt (ins lt t n l)
  | [], n, l, _, _ => List.pairwise_singleton _ _
  | f :: t, n, l, hu, h => by
    obtain ⟨h1, h2⟩ := List.pairwise_cons.1 hu
    have hf : f.1 ≠ n := fun e => by rw [get_cons, if_pos e] at h; cases h
    rw [get_cons, if_neg hf] at h
    unfold ins
    split
    · rename_i hn
      refine List.pairwise_cons.2 ⟨fun g hg => ?_, hu⟩
      rcases List.mem_cons.1 hg with rfl | hg
      · exact hn
      · exact hl.tr hn (h1 g hg)
    · rename_i hn
      refine List.pairwise_cons.2 ⟨fun g hg => ?_, up_ins hl h2 h⟩
      rcases (ins_mem lt t n l g).1 hg with rfl | hg
      · rcases hl.tri hf with h' | h'
        · exact h'
        · exact absurd h' hn
      · exact h1 g hg
/-- A tree that rises does so with a file, and without one. -/
theorem up_put {lt : κ → κ → Bool} (hl : Lin lt) {t : List (κ × β)} (hu : Up lt t) (n : κ) (l : β) : Up lt (put lt t n l) := by
  unfold put
  cases h : get t n with
  | none => exact up_ins hl hu h
  | some x =>
    rw [Option.isSome_some, if_pos rfl]
    rw [up_keys, upd_keys, ← up_keys]
    exact hu
theorem del_sub : ∀ (t : List (κ × β)) (n : κ), (del t n).Sublist t
  | [], _ => .slnil
  | f :: t, n => by
    unfold del
    split
    · exact List.sublist_cons_self f t
    · exact (del_sub t n).cons_cons f
theorem up_del {lt : κ → κ → Bool} {t : List (κ × β)} (hu : Up lt t) (n : κ) : Up lt (del t n) := List.Pairwise.sublist (del_sub t n) hu
theorem put_len (lt : κ → κ → Bool) (t : List (κ × β)) (n : κ) (l : β) : (put lt t n l).length = if (get t n).isSome then t.length else t.length + 1 := by
  unfold put
  split
  · exact upd_len t n l
  · exact ins_len lt t n l
/-- Put, and taken away, it is as it was. -/
theorem del_put (lt : κ → κ → Bool) {t : List (κ × β)} {n : κ} (h : get t n = none) (l : β) : del (put lt t n l) n = t := by
  unfold put
  rw [h, Option.isSome_none, if_neg (by decide)]
  induction t with
  | nil => simp [ins, del]
  | cons f t ih =>
    have hf : f.1 ≠ n := fun e => by rw [get_cons, if_pos e] at h; cases h
    rw [get_cons, if_neg hf] at h
    unfold ins
    split
    · unfold del; rw [if_pos rfl]
    · unfold del; rw [if_neg hf, ih h]
/-- Two files that are put in either order are the same tree; so without them. -/
theorem put_put {lt : κ → κ → Bool} (hl : Lin lt) {t : List (κ × β)} (hu : Up lt t) {a b : κ} (hab : a ≠ b) (l m : β) : put lt (put lt t a l) b m = put lt (put lt t b m) a l := by
  refine up_ext hl (up_put hl (up_put hl hu _ _) _ _) (up_put hl (up_put hl hu _ _) _ _) fun n => ?_
  rw [get_put, get_put, get_put, get_put]
  by_cases h1 : a = n
  · subst h1; rw [if_neg (Ne.symm hab), if_pos rfl, if_pos rfl]
  · by_cases h2 : b = n
    · rw [if_pos h2, if_neg h1, if_pos h2]
    · rw [if_neg h2, if_neg h1, if_neg h1, if_neg h2]
theorem put_del {lt : κ → κ → Bool} (hl : Lin lt) {t : List (κ × β)} (hu : Up lt t) (a b : κ) (l m : β) : del (del (put lt (put lt t a l) b m) a) b = del (del t a) b := by
  have hp := up_put hl (up_put hl hu a l) b m
  refine up_ext hl (up_del (up_del hp _) _) (up_del (up_del hu _) _) fun n => ?_
  rw [get_del hl (up_del hp _), get_del hl hp, get_del hl (up_del hu _), get_del hl hu, get_put, get_put]
  by_cases h2 : b = n
  · rw [if_pos h2, if_pos h2]
  · by_cases h1 : a = n
    · rw [if_neg h2, if_pos h1, if_neg h2, if_pos h1]
    · rw [if_neg h2, if_neg h1, if_neg h2, if_neg h1, if_neg h2, if_neg h1]
end

section
variable {κ : Type} [DecidableEq κ]
/-- A rising list of names is told by what is in it. -/
theorem rise_ext {lt : κ → κ → Bool} (hl : Lin lt) : ∀ {a b : List κ}, (a.Pairwise fun x y => lt x y = true) → (b.Pairwise fun x y => lt x y = true) → (∀ x, x ∈ a ↔ x ∈ b) → a = b := fun {a b} ha hb h => by
  have e : ∀ {l : List κ}, (l.Pairwise fun x y => lt x y = true) → Up lt (l.map fun x => (x, ())) := fun {l} h => by
    rw [up_keys, List.map_map]
    exact (List.map_id l).symm ▸ h
  have g : ∀ {l : List κ} {n : κ}, get (l.map fun x => (x, ())) n = if n ∈ l then some () else none := fun {l n} => by
    induction l with
    | nil => simp [get]
    | cons x l ih =>
      rw [List.map_cons, get_cons, ih]
      by_cases hx : x = n
      · subst hx; simp
      · rw [if_neg hx]
        have : (n ∈ x :: l) ↔ n ∈ l := by simp [Ne.symm hx]
        simp only [this]
  have := up_ext hl (e ha) (e hb) fun n => by rw [g, g]; simp only [h n]
  have h2 := congrArg (List.map (·.1)) this
  rw [List.map_map, List.map_map] at h2
  exact (List.map_id a).symm.trans (h2.trans (List.map_id b))
end

end Tr
end Go.Proofs.Ytbiiabfhngdeiaa

namespace Go.Proofs.Ytbiiabfhngdeiaa
namespace Tr
open Tx

theorem bl_irr : ∀ a : List UInt8, Op.bytesLess a a = false
  | [] => rfl
  | a :: x => by rw [Op.bytesLess, bl_irr x]; simp
theorem bl_tr : ∀ {a b c : List UInt8}, Op.bytesLess a b = true → Op.bytesLess b c = true → Op.bytesLess a c = true
  | _, [], _, h, _ => by simp [Op.bytesLess] at h
  | [], _ :: _, [], _, h => by simp [Op.bytesLess] at h
  | [], _ :: _, _ :: _, _, _ => rfl
  | _ :: _, _ :: _, [], _, h => by simp [Op.bytesLess] at h
  | a :: x, b :: y, c :: z, h, h' => by
    simp only [Op.bytesLess, Bool.or_eq_true, Bool.and_eq_true, decide_eq_true_eq, beq_iff_eq] at h h' ⊢
    rcases h with h | ⟨rfl, h⟩ <;> rcases h' with h' | ⟨rfl, h'⟩
    · exact .inl (UInt8.lt_trans h h')
    · exact .inl h
    · exact .inl h'
    · exact .inr ⟨rfl, bl_tr h h'⟩
theorem bl_tri : ∀ {a b : List UInt8}, a ≠ b → Op.bytesLess a b = true ∨ Op.bytesLess b a = true
  | [], [], h => absurd rfl h
  | [], _ :: _, _ => .inl rfl
  | _ :: _, [], _ => .inr rfl
  | a :: x, b :: y, h => by
    simp only [Op.bytesLess, Bool.or_eq_true, Bool.and_eq_true, decide_eq_true_eq, beq_iff_eq]
    by_cases e : a = b
    · subst e
      rcases bl_tri (a := x) (b := y) (fun e => h (by rw [e])) with h1 | h1
      · exact .inl (.inr ⟨rfl, h1⟩)
      · exact .inr (.inr ⟨rfl, h1⟩)
    · have : a < b ∨ b < a := by
        have h1 : a.toNat ≠ b.toNat := fun h1 => e (UInt8.toNat_inj.1 h1)
        rcases Nat.lt_or_gt_of_ne h1 with h2 | h2
        · exact .inl (UInt8.lt_iff_toNat_lt.2 h2)
        · exact .inr (UInt8.lt_iff_toNat_lt.2 h2)
      rcases this with h1 | h1
      · exact .inl (.inl h1)
      · exact .inr (.inl h1)
/-- Names, byte by byte. -/
theorem lin : Lin Op.bytesLess := ⟨bl_irr, bl_tr, bl_tri⟩

theorem gt_eq (s n : List UInt8) : (!Op.bytesLess s n && !(s == n)) = Op.bytesLess n s := by
  by_cases e : s = n
  · subst e; rw [lin.irr]; simp
  · rcases lin.tri e with h | h
    · rw [h, lin.asym h]; rfl
    · rw [h, lin.asym h]; simp [e]

abbrev FL : Type := List UInt8 × List (List UInt8)
abbrev TR : Type := List FL

section
variable {κ β : Type} {lt : κ → κ → Bool}

/-- Names rise, each against the one ahead of it. -/
def upB (lt : κ → κ → Bool) : List κ → Bool
  | [] => true
  | [_] => true
  | a :: b :: t => lt a b && upB lt (b :: t)
theorem upB_iff (hl : Lin lt) : ∀ {l : List κ}, upB lt l = true ↔ l.Pairwise fun a b => lt a b = true
  | [] => by simp [upB]
  | [a] => by simp [upB]
  | a :: b :: t => by
    rw [upB, Bool.and_eq_true, upB_iff hl, List.pairwise_cons (a := a)]
    constructor
    · rintro ⟨h1, h2⟩
      refine ⟨fun c hc => ?_, h2⟩
      rcases List.mem_cons.1 hc with rfl | hc
      · exact h1
      · exact hl.tr h1 ((List.pairwise_cons.1 h2).1 c hc)
    · rintro ⟨h1, h2⟩
      exact ⟨h1 b (by simp), h2⟩
/-- Names rise as far as they have been gone through. -/
theorem upB_take {l : List κ} : ∀ {k : Nat} (hk : k + 1 < l.length), upB lt (l.take (k + 2)) = (upB lt (l.take (k + 1)) && lt (l[k]'(by omega)) l[k + 1]) := by
  induction l with
  | nil => intro k hk; simp at hk
  | cons a l ih =>
    intro k hk
    cases l with
    | nil => simp at hk
    | cons b t =>
      cases k with
      | zero => simp [upB]
      | succ k =>
        have := ih (k := k) (by simpa using hk)
        simp only [List.take_succ_cons, upB, List.getElem_cons_succ] at this ⊢
        rw [this, Bool.and_assoc]
end

/-- A tree may be. -/
def mayT (t : TR) : Bool := decide (t.length ≤ 30) && ((t.all fun f => name f.1 && allMay f.2) && upB Op.bytesLess (t.map (·.1)))
theorem mayT_iff {t : TR} : mayT t = true ↔ t.length ≤ 30 ∧ (∀ f ∈ t, name f.1 = true ∧ allMay f.2 = true) ∧ Up Op.bytesLess t := by
  unfold mayT
  rw [Bool.and_eq_true, Bool.and_eq_true, upB_iff lin, ← up_keys, decide_eq_true_eq, List.all_eq_true]
  simp only [Bool.and_eq_true]
theorem mayT_up {t : TR} (h : mayT t = true) : Up Op.bytesLess t := (mayT_iff.1 h).2.2
theorem mayT_del {t : TR} (h : mayT t = true) (n : List UInt8) : mayT (del t n) = true := by
  obtain ⟨h1, h2, h3⟩ := mayT_iff.1 h
  have hs := del_sub t n
  exact mayT_iff.2 ⟨Nat.le_trans hs.length_le h1, fun f hf => h2 f (hs.subset hf), up_del h3 n⟩
section
variable {κ β : Type} [DecidableEq κ] {lt : κ → κ → Bool}
theorem upd_mem : ∀ {t : List (κ × β)} {n : κ} {l : β} {g : κ × β}, g ∈ upd t n l → g = (n, l) ∨ g ∈ t
  | [], _, _, _, h => by cases h
  | f :: t, n, l, g, h => by
    unfold upd at h
    split at h
    · rcases List.mem_cons.1 h with h | h
      · exact .inl h
      · exact .inr (List.mem_cons_of_mem _ h)
    · rcases List.mem_cons.1 h with h | h
      · exact .inr (by rw [h]; exact List.mem_cons_self ..)
      · rcases upd_mem h with h | h
        · exact .inl h
        · exact .inr (List.mem_cons_of_mem _ h)
theorem put_mem {t : List (κ × β)} {n : κ} {l : β} {g : κ × β} (h : g ∈ put lt t n l) : g = (n, l) ∨ g ∈ t := by
  unfold put at h
  split at h
  · exact upd_mem h
  · exact (ins_mem lt t n l g).1 h
end
theorem mayT_put {t : TR} (h : mayT t = true) {n : List UInt8} {l : List (List UInt8)} (hn : name n = true) (hl : allMay l = true) : mayT (put Op.bytesLess t n l) = ((get t n).isSome || decide (t.length < 30)) := by
  obtain ⟨h1, h2, h3⟩ := mayT_iff.1 h
  have hlen := put_len Op.bytesLess t n l
  have key : mayT (put Op.bytesLess t n l) = true ↔ (put Op.bytesLess t n l).length ≤ 30 := by
    rw [mayT_iff]
    refine ⟨fun h => h.1, fun h => ⟨h, fun f hf => ?_, up_put lin h3 n l⟩⟩
    rcases put_mem hf with rfl | hf
    · exact ⟨hn, hl⟩
    · exact h2 f hf
  rw [Bool.eq_iff_iff, key, hlen, Bool.or_eq_true, decide_eq_true_eq]
  cases hg : (get t n).isSome with
  | true => simp; exact h1
  | false => simp; omega

section
variable {κ : Type} {lt : κ → κ → Bool}
/-- A name ahead of the first greater one. -/
def insN (lt : κ → κ → Bool) : List κ → κ → List κ
  | [], n => [n]
  | a :: t, n => if lt n a then n :: a :: t else a :: insN lt t n
theorem insN_mem : ∀ {o : List κ} {n x : κ}, x ∈ insN lt o n ↔ x = n ∨ x ∈ o
  | [], n, x => by simp [insN]
  | a :: t, n, x => by
    unfold insN
    split
    · simp
    · rw [List.mem_cons, insN_mem, List.mem_cons]
      constructor
      · rintro (h | h | h)
        · exact .inr (.inl h)
        · exact .inl h
        · exact .inr (.inr h)
      · rintro (h | h | h)
        · exact .inr (.inl h)
        · exact .inl h
        · exact .inr (.inr h)
theorem insN_rise (hl : Lin lt) : ∀ {o : List κ} {n : κ}, (o.Pairwise fun a b => lt a b = true) → n ∉ o → (insN lt o n).Pairwise fun a b => lt a b = true
  | [], n, _, _ => by simp [insN]
  | a :: t, n, h, hn => by
    unfold insN
    rw [List.pairwise_cons] at h
    split
    · rename_i hlt
      rw [List.pairwise_cons, List.pairwise_cons]
      refine ⟨fun c hc => ?_, h⟩
      rcases List.mem_cons.1 hc with rfl | hc
      · exact hlt
      · exact hl.tr hlt (h.1 c hc)
    · rename_i hlt
      rw [List.pairwise_cons]
      refine ⟨fun c hc => ?_, insN_rise hl h.2 (fun hc => hn (List.mem_cons_of_mem _ hc))⟩
      rcases insN_mem.1 hc with rfl | hc
      · rcases hl.tri (a := c) (b := a) (fun e => hn (by rw [e]; exact List.mem_cons_self ..)) with h1 | h1
        · exact absurd h1 hlt
        · exact h1
      · exact h.1 c hc
/-- Where it goes: the first greater one's number. -/
def nat (lt : κ → κ → Bool) : List κ → κ → Nat
  | [], _ => 0
  | a :: t, n => if lt n a then 0 else nat lt t n + 1
theorem nat_le : ∀ (o : List κ) (n : κ), nat lt o n ≤ o.length
  | [], _ => Nat.le_refl _
  | a :: t, n => by
    unfold nat
    have := nat_le t n
    split <;> simp <;> omega
theorem insN_at : ∀ (o : List κ) (n : κ), insN lt o n = o.take (nat lt o n) ++ n :: o.drop (nat lt o n)
  | [], n => rfl
  | a :: t, n => by
    unfold insN nat
    split
    · rfl
    · rw [insN_at t n]; rfl
/-- Gone through from the end on. -/
theorem nat_drop {o : List κ} {n : κ} {k : Nat} (hk : k < o.length) : nat lt (o.drop k) n = if lt n o[k] then 0 else nat lt (o.drop (k + 1)) n + 1 := by
  rw [List.drop_eq_getElem_cons hk, nat]

theorem insN_len : ∀ {o : List κ} {n : κ}, (insN lt o n).length = o.length + 1
  | [], _ => rfl
  | a :: t, n => by
    unfold insN
    split
    · rfl
    · rw [List.length_cons, insN_len, List.length_cons]

variable [DecidableEq κ]
def nin (lt : κ → κ → Bool) (o : List κ) (n : κ) : List κ := if n ∈ o then o else insN lt o n
/-- Names, each once, rising. -/
def names (lt : κ → κ → Bool) (l : List κ) : List κ := l.foldl (nin lt) []
theorem nin_mem {o : List κ} {n x : κ} : x ∈ nin lt o n ↔ x ∈ o ∨ x = n := by
  unfold nin
  split
  · rename_i h
    constructor
    · exact .inl
    · rintro (h1 | rfl)
      · exact h1
      · exact h
  · rw [insN_mem]; exact or_comm
theorem nin_rise (hl : Lin lt) {o : List κ} {n : κ} (h : o.Pairwise fun a b => lt a b = true) : (nin lt o n).Pairwise fun a b => lt a b = true := by
  unfold nin
  split
  · exact h
  · rename_i hn; exact insN_rise hl h hn
theorem fold_mem : ∀ {l o : List κ} {x : κ}, x ∈ l.foldl (nin lt) o ↔ x ∈ o ∨ x ∈ l
  | [], o, x => by simp
  | a :: l, o, x => by
    rw [List.foldl_cons, fold_mem, nin_mem, List.mem_cons, or_assoc]
theorem fold_rise (hl : Lin lt) : ∀ {l o : List κ}, (o.Pairwise fun a b => lt a b = true) → (l.foldl (nin lt) o).Pairwise fun a b => lt a b = true
  | [], o, h => h
  | a :: l, o, h => by rw [List.foldl_cons]; exact fold_rise hl (nin_rise hl h)
theorem names_mem {l : List κ} {x : κ} : x ∈ names lt l ↔ x ∈ l := by unfold names; rw [fold_mem]; simp
theorem names_rise (hl : Lin lt) (l : List κ) : (names lt l).Pairwise fun a b => lt a b = true := fold_rise hl List.Pairwise.nil
/-- Just one rising list has just these names. -/
theorem names_uniq (hl : Lin lt) {l r : List κ} (hr : r.Pairwise fun a b => lt a b = true) (hm : ∀ x, x ∈ r ↔ x ∈ l) : r = names lt l :=
  rise_ext hl hr (names_rise hl l) fun x => (hm x).trans names_mem.symm
theorem names_snoc (l : List κ) (n : κ) : names lt (l ++ [n]) = nin lt (names lt l) n := by unfold names; rw [List.foldl_append]; rfl
theorem nin_len {o : List κ} {n : κ} : (nin lt o n).length ≤ o.length + 1 := by
  unfold nin
  split
  · omega
  · rw [insN_len]; exact Nat.le_refl _
theorem fold_len : ∀ {l o : List κ}, (l.foldl (nin lt) o).length ≤ o.length + l.length
  | [], o => by simp
  | a :: l, o => by
    rw [List.foldl_cons]
    have h1 := fold_len (l := l) (o := nin lt o a)
    have h2 := nin_len (lt := lt) (o := o) (n := a)
    simp only [List.length_cons]
    omega
theorem names_len (l : List κ) : (names lt l).length ≤ l.length := by
  have := fold_len (lt := lt) (l := l) (o := [])
  unfold names
  simpa using this
end

section
variable {κ β : Type} [DecidableEq κ]

/-! What is known of a tree that is gone through for a name. -/
theorem get_at : ∀ {t : List (κ × β)} {n : κ} {i : Nat} (hi : i < t.length), t[i].1 = n → (∀ j (hj : j < i), (t[j]'(by omega)).1 ≠ n) → get t n = some t[i].2
  | [], _, _, hi, _, _ => by simp at hi
  | f :: t, n, 0, _, h, _ => by rw [get_cons, if_pos (show f.1 = n from h)]; rfl
  | f :: t, n, i + 1, hi, h, hb => by
    rw [get_cons, if_neg (show ¬ f.1 = n from hb 0 (by omega))]
    exact get_at (by simpa using hi) h fun j hj => hb (j + 1) (by omega)
theorem upd_at : ∀ {t : List (κ × β)} {n : κ} {l : β} {i : Nat} (hi : i < t.length), t[i].1 = n → (∀ j (hj : j < i), (t[j]'(by omega)).1 ≠ n) → upd t n l = t.take i ++ (n, l) :: t.drop (i + 1)
  | [], _, _, _, hi, _, _ => by simp at hi
  | f :: t, n, l, 0, _, h, _ => by unfold upd; rw [if_pos (show f.1 = n from h)]; rfl
  | f :: t, n, l, i + 1, hi, h, hb => by
    unfold upd
    rw [if_neg (show ¬ f.1 = n from hb 0 (by omega)), upd_at (t := t) (n := n) (l := l) (i := i) (by simpa using hi) h fun j hj => hb (j + 1) (by omega)]
    rfl
theorem del_at : ∀ {t : List (κ × β)} {n : κ} {i : Nat} (hi : i < t.length), t[i].1 = n → (∀ j (hj : j < i), (t[j]'(by omega)).1 ≠ n) → del t n = t.take i ++ t.drop (i + 1)
  | [], _, _, hi, _, _ => by simp at hi
  | f :: t, n, 0, _, h, _ => by unfold del; rw [if_pos (show f.1 = n from h)]; rfl
  | f :: t, n, i + 1, hi, h, hb => by
    unfold del
    rw [if_neg (show ¬ f.1 = n from hb 0 (by omega)), del_at (t := t) (n := n) (i := i) (by simpa using hi) h fun j hj => hb (j + 1) (by omega)]
    rfl
theorem get_no {t : List (κ × β)} {n : κ} (hb : ∀ j (hj : j < t.length), t[j].1 ≠ n) : get t n = none := by
  rw [get_none]
  intro f hf
  obtain ⟨j, hj, rfl⟩ := List.mem_iff_getElem.1 hf
  exact hb j hj
theorem del_no : ∀ {t : List (κ × β)} {n : κ}, get t n = none → del t n = t
  | [], _, _ => rfl
  | f :: t, n, h => by
    rw [get_cons] at h
    unfold del
    split at h
    · cases h
    · rename_i hf; rw [if_neg hf, del_no h]

end

section
variable {κ β : Type}

/-! A file among files, gone through from the first one on. -/
theorem ins_none {lt : κ → κ → Bool} : ∀ {p : List (κ × β)} {n : κ} {l : β}, (∀ f ∈ p, lt n f.1 = false) → ins lt p n l = p ++ [(n, l)]
  | [], _, _, _ => rfl
  | f :: p, n, l, h => by
    unfold ins
    rw [if_neg (by rw [h f (List.mem_cons_self ..)]; simp), ins_none fun g hg => h g (List.mem_cons_of_mem _ hg)]
    rfl
theorem ins_here {lt : κ → κ → Bool} : ∀ {p : List (κ × β)} {n : κ} {l : β} {f : κ × β}, (∀ f ∈ p, lt n f.1 = false) → lt n f.1 = true → ins lt (p ++ [f]) n l = p ++ [(n, l), f]
  | [], n, l, f, _, hf => by show ins lt [f] n l = _; unfold ins; rw [if_pos hf]; rfl
  | g :: p, n, l, f, h, hf => by
    rw [List.cons_append]
    unfold ins
    rw [if_neg (by rw [h g (List.mem_cons_self ..)]; simp), ins_here (fun g hg => h g (List.mem_cons_of_mem _ hg)) hf]
    rfl
theorem ins_past {lt : κ → κ → Bool} : ∀ {p : List (κ × β)} {n : κ} {l : β} {f : κ × β}, (∃ g ∈ p, lt n g.1 = true) → ins lt (p ++ [f]) n l = ins lt p n l ++ [f]
  | [], _, _, _, h => by obtain ⟨g, hg, _⟩ := h; cases hg
  | g :: p, n, l, f, h => by
    rw [List.cons_append]
    unfold ins
    split
    · rfl
    · rename_i hg
      rw [ins_past (p := p)]
      · rfl
      · obtain ⟨x, hx, hlt⟩ := h
        rcases List.mem_cons.1 hx with rfl | hx
        · exact absurd hlt hg
        · exact ⟨x, hx, hlt⟩
end

end Tr
end Go.Proofs.Ytbiiabfhngdeiaa
