/-
  Plain functions on lists for layer 4 (edits), and their laws. No program is imported.
-/
import Derived.Test.YtdbhfohilfcgfaaLcPlain
namespace Go.Proofs.Ytdbhfohilfcgfaa
namespace Df
open Lc

/-- An edit: a place, how many lines are gone there, and which ones stand there. -/
structure Ed (α : Type) where
  pos : Int
  old : Int
  new : List α

section
variable {α : Type}

/-- What all edits cost (not wrapped around). -/
def cost : List (Ed α) → Int
  | [] => 0
  | x :: l => x.old + x.new.length + cost l

/-- The lines of a list from place i up to place j. -/
def mid (a : List α) (i j : Nat) : List α := (a.drop i).take (j - i)

theorem mid_len {a : List α} {i j : Nat} (h : j ≤ a.length) : (mid a i j).length = j - i := by
  unfold mid; rw [List.length_take, List.length_drop]; omega
theorem mid_self (a : List α) (i : Nat) : mid a i i = [] := by unfold mid; rw [Nat.sub_self, List.take_zero]
theorem mid_drop {a : List α} {i j : Nat} (h : i ≤ j) : mid a i j ++ a.drop j = a.drop i := by
  unfold mid
  have := List.take_append_drop (j - i) (a.drop i)
  rw [List.drop_drop, show i + (j - i) = j by omega] at this
  exact this
theorem mid_all {a : List α} (i : Nat) {j : Nat} (h : a.length ≤ j) : mid a i j = a.drop i := by
  unfold mid; rw [List.take_of_length_le]; rw [List.length_drop]; omega
theorem mid_snoc {a : List α} {i j : Nat} {x : α} (h : i ≤ j) (hx : a[j]? = some x) : mid a i (j + 1) = mid a i j ++ [x] := by
  unfold mid
  rw [show j + 1 - i = (j - i) + 1 by omega, List.take_add_one, List.getElem?_drop, show i + (j - i) = j by omega, hx]
  rfl
theorem drop_cons {a : List α} {j : Nat} {x : α} (hx : a[j]? = some x) : a.drop j = x :: a.drop (j + 1) := by
  obtain ⟨h, rfl⟩ := List.getElem?_eq_some_iff.1 hx
  exact List.drop_eq_getElem_cons h
theorem mid_one {a : List α} {j : Nat} {x : α} (hx : a[j]? = some x) : mid a j (j + 1) = [x] := by
  rw [mid_snoc (Nat.le_refl _) hx, mid_self]; rfl
theorem mid_mid {a : List α} {i j k : Nat} (h : i ≤ j) (h' : j ≤ k) : mid a i j ++ mid a j k = mid a i k := by
  unfold mid
  rw [show k - i = (j - i) + (k - j) by omega, List.take_add, List.drop_drop, show i + (j - i) = j by omega]
theorem mid_sub (a : List α) (i j : Nat) : (mid a i j).Sublist (a.drop i) := List.take_sublist _ _

/-- Does an edit fit, at a list of n lines of which 'at' lines are done (f: none was ahead)? -/
def fits (n k : Nat) (f : Bool) (x : Ed α) : Prop := (k : Int) ≤ x.pos ∧ (f = false → (k : Int) < x.pos) ∧ x.pos ≤ n ∧ 0 ≤ x.old ∧ x.old ≤ n - x.pos
instance (n k : Nat) (f : Bool) (x : Ed α) : Decidable (fits n k f x) := by unfold fits; exact inferInstance

/-- What edits make of a list, from its place k on (f: no edit is done as yet). -/
def apl (a : List α) : Nat → Bool → List (Ed α) → Option (List α)
  | k, _, [] => some (a.drop k)
  | k, f, x :: l => if fits a.length k f x then (apl a (x.pos + x.old).toNat false l).map (fun r => mid a k x.pos.toNat ++ x.new ++ r) else none

def appl (a : List α) (l : List (Ed α)) : Option (List α) := apl a 0 true l

theorem apl_nil (a : List α) (k : Nat) (f : Bool) : apl a k f [] = some (a.drop k) := rfl
theorem apl_yes {a : List α} {k : Nat} {f : Bool} {x : Ed α} (l : List (Ed α)) (h : fits a.length k f x) : apl a k f (x :: l) = (apl a (x.pos + x.old).toNat false l).map (fun r => mid a k x.pos.toNat ++ x.new ++ r) := by
  rw [apl, if_pos h]
theorem apl_no {a : List α} {k : Nat} {f : Bool} {x : Ed α} (l : List (Ed α)) (h : ¬ fits a.length k f x) : apl a k f (x :: l) = none := by
  rw [apl, if_neg h]
theorem apl_some {a : List α} {k : Nat} {f : Bool} {x : Ed α} {l : List (Ed α)} {c : List α} (h : apl a k f (x :: l) = some c) :
    fits a.length k f x ∧ ∃ r, apl a (x.pos + x.old).toNat false l = some r ∧ c = mid a k x.pos.toNat ++ x.new ++ r := by
  by_cases hf : fits a.length k f x
  · rw [apl_yes l hf, Option.map_eq_some_iff] at h
    obtain ⟨r, h1, rfl⟩ := h
    exact ⟨hf, r, h1, rfl⟩
  · rw [apl_no l hf] at h; cases h

/-- Do edits rise, from the place m on, in a list of n lines? -/
def risB (n : Nat) : Int → List (Ed α) → Bool
  | _, [] => true
  | m, x :: l => decide (m ≤ x.pos ∧ 0 ≤ x.old ∧ x.old ≤ (n : Int) - x.pos) && risB n (x.pos + x.old + 1) l
theorem risB_yes {n : Nat} {m : Int} {x : Ed α} (l : List (Ed α)) (h1 : m ≤ x.pos) (h2 : 0 ≤ x.old) (h3 : x.old ≤ (n : Int) - x.pos) : risB n m (x :: l) = risB n (x.pos + x.old + 1) l := by
  rw [risB, decide_eq_true ⟨h1, h2, h3⟩, Bool.true_and]
theorem risB_no {n : Nat} {m : Int} {x : Ed α} (l : List (Ed α)) (h : ¬ (m ≤ x.pos ∧ 0 ≤ x.old ∧ x.old ≤ (n : Int) - x.pos)) : risB n m (x :: l) = false := by
  rw [risB, decide_eq_false h, Bool.false_and]
theorem apl_risB (a : List α) : ∀ (l : List (Ed α)) (k : Nat) (f : Bool), (apl a k f l).isSome = risB a.length (if f then (k : Int) else k + 1) l
  | [], k, f => by rw [apl_nil]; rfl
  | x :: l, k, f => by
    by_cases h : fits a.length k f x
    · rw [apl_yes l h, Option.isSome_map, apl_risB a l]
      obtain ⟨h1, h2, h3, h4, h5⟩ := h
      rw [risB_yes l (by cases f <;> simp at h2 ⊢ <;> omega) h4 h5]
      congr 1
      simp; omega
    · rw [apl_no l h, risB_no]
      · rfl
      · rintro ⟨g1, g2, g3⟩
        refine h ⟨?_, fun e => ?_, by omega, g2, g3⟩
        · cases f <;> simp at g1 <;> omega
        · subst e; simp at g1; omega
theorem appl_risB (a : List α) (l : List (Ed α)) : (appl a l).isSome = risB a.length 0 l := by
  rw [appl, apl_risB]; rfl
/-- All lines that edits put there, together. -/
def news : List (Ed α) → Nat
  | [] => 0
  | x :: l => x.new.length + news l
theorem apl_len (a : List α) : ∀ (l : List (Ed α)) (k : Nat) (f : Bool) (c : List α), apl a k f l = some c → k ≤ a.length → c.length ≤ (a.length - k) + news l
  | [], k, f, c, h, hk => by rw [apl_nil] at h; cases h; rw [List.length_drop]; exact Nat.le_add_right _ _
  | x :: l, k, f, c, h, hk => by
    obtain ⟨⟨h1, h2, h3, h4, h5⟩, r, hr, rfl⟩ := apl_some h
    have := apl_len a l _ false r hr (by omega)
    simp only [List.length_append, news]
    rw [mid_len (by omega)]
    omega
theorem news_le : ∀ (l : List (Ed α)) (m : Nat), (∀ x ∈ l, x.new.length ≤ m) → news l ≤ l.length * m
  | [], m, _ => Nat.zero_le _
  | x :: l, m, h => by
    have h1 := h x List.mem_cons_self
    have h2 := news_le l m fun y hy => h y (List.mem_cons_of_mem _ hy)
    rw [news, List.length_cons, Nat.add_one_mul]; omega

/-- What edits make keeps some lines: as many as are neither gone nor put there. -/
theorem apl_keeps (a : List α) : ∀ (l : List (Ed α)) (k : Nat) (f : Bool) (c : List α), k ≤ a.length → apl a k f l = some c →
    ∃ s : List α, s.Sublist (a.drop k) ∧ s.Sublist c ∧ ((a.length : Int) - k) + c.length = 2 * s.length + cost l
  | [], k, f, c, hk, h => by
    rw [apl_nil] at h; cases h
    refine ⟨a.drop k, List.Sublist.refl _, List.Sublist.refl _, ?_⟩
    rw [List.length_drop, cost]; omega
  | x :: l, k, f, c, hk, h => by
    obtain ⟨⟨h1, h2, h3, h4, h5⟩, r, hr, rfl⟩ := apl_some h
    obtain ⟨p, hp⟩ : ∃ p : Nat, x.pos = p := ⟨x.pos.toNat, by omega⟩
    obtain ⟨q, hq⟩ : ∃ q : Nat, x.old = q := ⟨x.old.toNat, by omega⟩
    rw [hp, hq, show ((p : Int) + (q : Int)).toNat = p + q by omega] at hr
    rw [hp] at h1 h3 h5
    rw [hq] at h4 h5
    obtain ⟨s, s1, s2, s3⟩ := apl_keeps a l (p + q) false r (by omega) hr
    rw [hp, show (p : Int).toNat = p by omega]
    refine ⟨mid a k p ++ s, ?_, ?_, ?_⟩
    · rw [← mid_drop (a := a) (i := k) (j := p) (by omega)]
      refine List.Sublist.append (List.Sublist.refl _) (s1.trans ?_)
      rw [← mid_drop (a := a) (i := p) (j := p + q) (by omega)]
      exact List.sublist_append_right _ _
    · rw [List.append_assoc]
      exact List.Sublist.append (List.Sublist.refl _) (s2.trans (List.sublist_append_right _ _))
    · rw [cost, hq]
      simp only [List.length_append]
      rw [mid_len (a := a) (i := k) (j := p) (by omega)]
      omega

/-- No edits cost less than what the lists do not have in common. -/
theorem appl_least [DecidableEq α] {a b : List α} {l : List (Ed α)} (h : appl a l = some b) : (a.length : Int) + b.length - 2 * lcs a b ≤ cost l := by
  obtain ⟨s, s1, s2, s3⟩ := apl_keeps a l 0 true b (Nat.zero_le _) h
  rw [List.drop_zero] at s1
  have := le_lcs s1 s2
  omega

/-- Where edits fit, each lies within the list, and begins behind the end of the one ahead. -/
theorem apl_apart (a : List α) : ∀ (l : List (Ed α)) (k : Nat) (f : Bool) (c : List α), apl a k f l = some c →
    ∀ (i : Nat) (x : Ed α), l[i]? = some x → 0 ≤ x.old ∧ x.pos + x.old ≤ a.length ∧ (k : Int) ≤ x.pos ∧ (f = false → (k : Int) < x.pos) ∧ (∀ y : Ed α, 0 < i → l[i - 1]? = some y → y.pos + y.old < x.pos)
  | [], k, f, c, h => by intro i x hx; simp at hx
  | y :: l, k, f, c, h => by
    obtain ⟨⟨h1, h2, h3, h4, h5⟩, r, hr, rfl⟩ := apl_some h
    intro i x hx
    match i, hx with
    | 0, hx =>
      cases hx
      exact ⟨h4, by omega, h1, h2, fun _ h => absurd h (Nat.lt_irrefl 0)⟩
    | i + 1, hx =>
      rw [List.getElem?_cons_succ] at hx
      obtain ⟨k1, k2, k3, k4, k5⟩ := apl_apart a l _ false r hr i x hx
      have k4 := k4 rfl
      refine ⟨k1, k2, by omega, fun _ => by omega, fun z _ hz => ?_⟩
      match i, hx, hz with
      | 0, hx, hz => cases hz; omega
      | i + 1, hx, hz => exact k5 z (by omega) hz

/-- What turns edits back, if all places ahead have moved by 'by'. -/
def bks (a : List α) : Int → List (Ed α) → List (Ed α)
  | _, [] => []
  | m, x :: l => ⟨x.pos + m, x.new.length, mid a x.pos.toNat (x.pos + x.old).toNat⟩ :: bks a (m + x.new.length - x.old) l

theorem bks_apl (a : List α) : ∀ (l : List (Ed α)) (k k' : Nat) (m : Int) (f : Bool) (r u : List α), k ≤ a.length → apl a k f l = some r → (u.length : Int) = k + m → k' = u.length →
    apl (u ++ r) k' f (bks a m l) = some (a.drop k)
  | [], k, k', m, f, r, u, hk, h, hu, hk' => by
    rw [apl_nil] at h; cases h; subst hk'
    rw [bks, apl_nil, List.drop_left]
  | x :: l, k, k', m, f, r, u, hk, h, hu, hk' => by
    obtain ⟨⟨h1, h2, h3, h4, h5⟩, r, hr, rfl⟩ := apl_some h
    obtain ⟨p, hp⟩ : ∃ p : Nat, x.pos = p := ⟨x.pos.toNat, by omega⟩
    obtain ⟨q, hq⟩ : ∃ q : Nat, x.old = q := ⟨x.old.toNat, by omega⟩
    rw [hp, hq, show ((p : Int) + (q : Int)).toNat = p + q by omega] at hr
    rw [hp] at h1 h2 h3 h5
    rw [hq] at h4 h5
    rw [bks, hp, hq, show (p : Int).toNat = p by omega, show ((p : Int) + (q : Int)).toNat = p + q by omega]
    have lm := mid_len (a := a) (i := k) (j := p) (by omega)
    have ih := bks_apl a l (p + q) (u.length + (p - k) + x.new.length) (m + x.new.length - q) false r (u ++ mid a k p ++ x.new) (by omega) hr
      (by simp only [List.length_append]; rw [lm]; omega) (by simp only [List.length_append]; rw [lm])
    have e : u ++ (mid a k p ++ x.new ++ r) = u ++ mid a k p ++ x.new ++ r := by simp only [List.append_assoc]
    rw [e]
    have hlen : (u ++ mid a k p ++ x.new ++ r).length = u.length + (p - k) + x.new.length + r.length := by simp only [List.length_append]; rw [lm]
    rw [apl_yes _ (by
      unfold fits
      rw [hlen, hk']
      simp only
      refine ⟨by omega, fun hf => ?_, by omega, by omega, by omega⟩
      have := h2 hf; omega)]
    simp only
    rw [show ((p : Int) + m + (x.new.length : Int)).toNat = u.length + (p - k) + x.new.length by omega, ih, show ((p : Int) + m).toNat = u.length + (p - k) by omega, Option.map_some]
    congr 1
    have e2 : mid (u ++ mid a k p ++ x.new ++ r) k' (u.length + (p - k)) = mid a k p := by
      unfold mid
      rw [hk', List.append_assoc, List.append_assoc, List.drop_left, show u.length + (p - k) - u.length = (List.take (p - k) (List.drop k a)).length by unfold mid at lm; omega, List.take_left]
    rw [e2, List.append_assoc, mid_drop (by omega), mid_drop (by omega)]

theorem appl_back {a b : List α} {l : List (Ed α)} (h : appl a l = some b) : appl b (bks a 0 l) = some a := by
  have := bks_apl a l 0 0 0 true b [] (Nat.zero_le _) h rfl rfl
  rw [List.drop_zero, List.nil_append] at this
  exact this

theorem bks_cost (a : List α) : ∀ (l : List (Ed α)) (k : Nat) (m : Int) (f : Bool) (c : List α), apl a k f l = some c → cost (bks a m l) = cost l
  | [], k, m, f, c, h => rfl
  | x :: l, k, m, f, c, h => by
    obtain ⟨⟨h1, h2, h3, h4, h5⟩, r, hr, rfl⟩ := apl_some h
    rw [bks, cost, cost, bks_cost a l _ _ false r hr]
    simp only
    rw [mid_len (by omega)]
    omega
theorem bks_len (a : List α) : ∀ (l : List (Ed α)) (m : Int), (bks a m l).length = l.length
  | [], m => rfl
  | x :: l, m => by rw [bks, List.length_cons, List.length_cons, bks_len a l]

/-- Pairs of lines that are the same rise, from the places i and j on. -/
def Ris (a b : List α) : Nat → Nat → List (Nat × Nat) → Prop
  | _, _, [] => True
  | i, j, p :: l => i ≤ p.1 ∧ j ≤ p.2 ∧ (∃ x, a[p.1]? = some x ∧ b[p.2]? = some x) ∧ Ris a b (p.1 + 1) (p.2 + 1) l

theorem ris_of (a b : List α) : ∀ (l : List (Nat × Nat)) (i j : Nat), (∀ p ∈ l, i ≤ p.1 ∧ j ≤ p.2 ∧ p.1 < a.length ∧ a[p.1]? = b[p.2]?) → l.Pairwise (fun p q => p.1 < q.1 ∧ p.2 < q.2) → Ris a b i j l
  | [], i, j, _, _ => trivial
  | p :: l, i, j, h, hp => by
    obtain ⟨h1, h2, h3, h4⟩ := h p List.mem_cons_self
    obtain ⟨p1, p2⟩ := List.pairwise_cons.1 hp
    refine ⟨h1, h2, ⟨a[p.1], List.getElem?_eq_getElem h3, by rw [← h4]; exact List.getElem?_eq_getElem h3⟩, ris_of a b l _ _ (fun q hq => ?_) p2⟩
    obtain ⟨k1, k2, k3, k4⟩ := h q (List.mem_cons_of_mem _ hq)
    have := p1 q hq
    exact ⟨by omega, by omega, k3, k4⟩
theorem pairs_ris [DecidableEq α] (a b : List α) : Ris a b 0 0 (pairs a b) := by
  obtain ⟨h1, h2⟩ := prs_ok _ 0 0 a b (Nat.le_refl _)
  refine ris_of a b _ 0 0 (fun p hp => ?_) h2
  obtain ⟨k1, k2, k3, k4, k5⟩ := h1 p hp
  exact ⟨k1, k2, by omega, by simpa using k5⟩

/-- The edit of the stretch from the places i and j up to the places p and q, if it has a line. -/
def one (b : List α) (i j p q : Nat) : List (Ed α) := if i < p ∨ j < q then [⟨i, (p : Int) - i, mid b j q⟩] else []

/-- The edits of the stretches ahead of each pair, from the places i and j on. -/
def eds (b : List α) : Nat → Nat → List (Nat × Nat) → List (Ed α)
  | _, _, [] => []
  | i, j, p :: l => one b i j p.1 p.2 ++ eds b (p.1 + 1) (p.2 + 1) l

def ends [DecidableEq α] (a b : List α) : List (Nat × Nat) := pairs a b ++ [(a.length, b.length)]
def edits [DecidableEq α] (a b : List α) : List (Ed α) := eds b 0 0 (ends a b)

theorem eds_snoc (b : List α) : ∀ (l : List (Nat × Nat)) (i j i' j' p q : Nat), (l = [] → i' = i ∧ j' = j) → (∀ r, l.getLast? = some r → i' = r.1 + 1 ∧ j' = r.2 + 1) →
    eds b i j (l ++ [(p, q)]) = eds b i j l ++ one b i' j' p q
  | [], i, j, i', j', p, q, h, _ => by
    obtain ⟨rfl, rfl⟩ := h rfl
    simp [eds]
  | r :: l, i, j, i', j', p, q, _, h => by
    rw [List.cons_append, eds, eds, List.append_assoc]
    congr 1
    refine eds_snoc b l _ _ i' j' p q (fun e => ?_) (fun s hs => ?_)
    · subst e; exact h r rfl
    · refine h s ?_
      cases l with
      | nil => cases hs
      | cons t l => rw [List.getLast?_cons_cons]; exact hs

theorem cost_append : ∀ (l m : List (Ed α)), cost (l ++ m) = cost l + cost m
  | [], m => by simp [cost]
  | x :: l, m => by rw [List.cons_append, cost, cost, cost_append l m]; omega

theorem one_cost {b : List α} {i j p q : Nat} (h1 : i ≤ p) (h2 : j ≤ q) (h3 : q ≤ b.length) : cost (one b i j p q) = (p - i : Int) + (q - j) := by
  unfold one
  split
  · simp only [cost, mid_len h3]; omega
  · simp only [cost]; omega

theorem ris_le {a b : List α} : ∀ {l : List (Nat × Nat)} {i j : Nat} {p : Nat × Nat}, Ris a b i j (p :: l) → p.1 < a.length ∧ p.2 < b.length := by
  intro l i j p h
  obtain ⟨_, _, ⟨x, h1, h2⟩, _⟩ := h
  exact ⟨(List.getElem?_eq_some_iff.1 h1).1, (List.getElem?_eq_some_iff.1 h2).1⟩

theorem eds_cost (a b : List α) : ∀ (l : List (Nat × Nat)) (i j : Nat), Ris a b i j l → i ≤ a.length → j ≤ b.length →
    cost (eds b i j (l ++ [(a.length, b.length)])) + 2 * l.length = (a.length - i : Int) + (b.length - j)
  | [], i, j, _, hi, hj => by
    simp only [List.nil_append, eds, List.append_nil, List.length_nil]
    rw [one_cost hi hj (Nat.le_refl _)]; omega
  | p :: l, i, j, h, hi, hj => by
    obtain ⟨l1, l2⟩ := ris_le h
    obtain ⟨h1, h2, _, h4⟩ := h
    have := eds_cost a b l (p.1 + 1) (p.2 + 1) h4 l1 l2
    rw [List.cons_append, eds, cost_append, one_cost h1 h2 (by omega), List.length_cons]
    omega
theorem edits_cost [DecidableEq α] (a b : List α) : cost (edits a b) = (a.length : Int) + b.length - 2 * lcs a b := by
  have := eds_cost a b (pairs a b) 0 0 (pairs_ris a b) (Nat.zero_le _) (Nat.zero_le _)
  rw [pairs_len] at this
  unfold edits ends; omega

theorem one_apl {a b : List α} {k i j p q : Nat} {f : Bool} {m : List (Ed α)} (hk : k ≤ i) (hf : f = false → k < i) (h1 : i ≤ p) (h3 : p ≤ a.length) (hl : i < p ∨ j < q) :
    apl a k f (one b i j p q ++ m) = (apl a p false m).map (fun r => mid a k i ++ mid b j q ++ r) := by
  unfold one
  rw [if_pos hl, List.cons_append, List.nil_append, apl_yes]
  · simp only
    rw [show ((i : Int) + ((p : Int) - i)).toNat = p by omega, show (i : Int).toNat = i by omega]
  · unfold fits; simp only
    refine ⟨by omega, fun h => ?_, by omega, by omega, by omega⟩
    have := hf h; omega

theorem eds_apl (a b : List α) : ∀ (l : List (Nat × Nat)) (k i j : Nat) (f : Bool), Ris a b i j l → k ≤ i → (f = false → k < i) → i ≤ a.length → j ≤ b.length →
    apl a k f (eds b i j (l ++ [(a.length, b.length)])) = some (mid a k i ++ b.drop j)
  | [], k, i, j, f, _, hk, hf, hi, hj => by
    simp only [List.nil_append, eds]
    by_cases hl : i < a.length ∨ j < b.length
    · rw [one_apl hk hf hi (Nat.le_refl _) hl, apl_nil, Option.map_some, List.drop_length, List.append_nil, mid_all j (Nat.le_refl _)]
    · unfold one
      rw [if_neg hl, List.nil_append, apl_nil, show j = b.length by omega, List.drop_length, List.append_nil, mid_all k (by omega)]
  | p :: l, k, i, j, f, h, hk, hf, hi, hj => by
    obtain ⟨l1, l2⟩ := ris_le h
    obtain ⟨h1, h2, ⟨x, x1, x2⟩, h4⟩ := h
    rw [List.cons_append, eds]
    by_cases hl : i < p.1 ∨ j < p.2
    · rw [one_apl hk hf h1 (by omega) hl, eds_apl a b l p.1 (p.1 + 1) (p.2 + 1) false h4 (by omega) (fun _ => by omega) l1 l2, Option.map_some, mid_one x1]
      rw [← mid_drop (a := b) h2, drop_cons x2]
      simp only [List.append_assoc, List.cons_append, List.nil_append]
    · have e1 : p.1 = i := by omega
      have e2 : p.2 = j := by omega
      unfold one
      rw [if_neg hl, List.nil_append, eds_apl a b l k (p.1 + 1) (p.2 + 1) f h4 (by omega) (fun _ => by omega) l1 l2, mid_snoc (by omega) x1, e1]
      rw [drop_cons (a := b) (j := j) (x := x) (by rw [← e2]; exact x2), e2]
      simp only [List.append_assoc, List.cons_append, List.nil_append]
theorem edits_appl [DecidableEq α] (a b : List α) : appl a (edits a b) = some b := by
  have := eds_apl a b (pairs a b) 0 0 0 true (pairs_ris a b) (Nat.le_refl _) (fun h => by cases h) (Nat.zero_le _) (Nat.zero_le _)
  rw [mid_self, List.drop_zero, List.nil_append] at this
  exact this

/-- Each edit takes something away, or puts something there. -/
theorem eds_some (a b : List α) : ∀ (l : List (Nat × Nat)) (i j : Nat), Ris a b i j l → i ≤ a.length → j ≤ b.length →
    ∀ x ∈ eds b i j (l ++ [(a.length, b.length)]), 1 ≤ x.old + x.new.length := by
  have ho : ∀ (i j p q : Nat), i ≤ p → j ≤ q → q ≤ b.length → ∀ x ∈ one b i j p q, 1 ≤ x.old + x.new.length := by
    intro i j p q h1 h2 h3 x hx
    unfold one at hx
    split at hx
    · rw [List.mem_singleton] at hx; subst hx
      simp only [mid_len h3]; omega
    · cases hx
  intro l
  induction l with
  | nil =>
    intro i j _ hi hj x hx
    simp only [List.nil_append, eds, List.append_nil] at hx
    exact ho i j _ _ hi hj (Nat.le_refl _) x hx
  | cons p l ih =>
    intro i j h hi hj x hx
    obtain ⟨l1, l2⟩ := ris_le h
    obtain ⟨h1, h2, _, h4⟩ := h
    rw [List.cons_append, eds, List.mem_append] at hx
    rcases hx with hx | hx
    · exact ho i j _ _ h1 h2 (by omega) x hx
    · exact ih _ _ h4 l1 l2 x hx
theorem edits_some [DecidableEq α] (a b : List α) : ∀ x ∈ edits a b, 1 ≤ x.old + x.new.length :=
  eds_some a b (pairs a b) 0 0 (pairs_ris a b) (Nat.zero_le _) (Nat.zero_le _)

theorem cost_len : ∀ (l : List (Ed α)), (∀ x ∈ l, 1 ≤ x.old + x.new.length) → (l.length : Int) ≤ cost l
  | [], _ => by simp [cost]
  | x :: l, h => by
    have h1 := h x List.mem_cons_self
    have h2 := cost_len l fun y hy => h y (List.mem_cons_of_mem _ hy)
    rw [cost, List.length_cons]; omega

/-- There are no edits just if both are the same. -/
theorem edits_none [DecidableEq α] (a b : List α) : (edits a b).length = 0 ↔ a = b := by
  constructor
  · intro h
    have := edits_appl a b
    rw [List.length_eq_zero_iff.1 h, appl, apl_nil, List.drop_zero] at this
    exact Option.some.inj this
  · intro h
    subst h
    have h1 := cost_len _ (edits_some a a)
    rw [edits_cost, lcs_self] at h1
    omega
theorem edits_len_le [DecidableEq α] (a b : List α) : (edits a b).length ≤ a.length + b.length := by
  have h1 := cost_len _ (edits_some a b)
  rw [edits_cost] at h1
  omega
theorem edits_turn [DecidableEq α] (a b : List α) : cost (edits b a) = cost (edits a b) := by
  rw [edits_cost, edits_cost, lcs_comm b a]; omega

/-- There is nothing in common just if no line stands in both. -/
theorem lcs_zero [DecidableEq α] (a b : List α) : lcs a b = 0 ↔ ∀ x ∈ a, x ∉ b := by
  constructor
  · intro h x h1 h2
    have := le_lcs (List.singleton_sublist.2 h1) (List.singleton_sublist.2 h2)
    rw [h] at this; simp at this
  · intro h
    obtain ⟨s, s1, s2, s3⟩ := lcs_some a b
    cases s with
    | nil => exact s3.symm
    | cons x s => exact absurd (s2.subset List.mem_cons_self) (h x (s1.subset List.mem_cons_self))
theorem edits_bound [DecidableEq α] (a b : List α) : cost (edits a b) ≤ (a.length : Int) + b.length ∧ (cost (edits a b) = (a.length : Int) + b.length ↔ ∀ x ∈ a, x ∉ b) := by
  rw [edits_cost, ← lcs_zero]; omega

theorem two_subs : ∀ (b s t : List α), s.Sublist b → t.Sublist b → ∃ u : List α, u.Sublist s ∧ u.Sublist t ∧ s.length + t.length ≤ b.length + u.length
  | [], s, t, h1, h2 => by
    have := h1.length_le; have := h2.length_le
    exact ⟨[], List.nil_sublist _, List.nil_sublist _, by simp only [List.length_nil] at *; omega⟩
  | x :: b, s, t, h1, h2 => by
    rcases List.sublist_cons_iff.1 h1 with h1 | ⟨s', rfl, g1⟩
    · rcases List.sublist_cons_iff.1 h2 with h2 | ⟨t', rfl, g2⟩
      · obtain ⟨u, u1, u2, u3⟩ := two_subs b s t h1 h2
        exact ⟨u, u1, u2, by simp only [List.length_cons]; omega⟩
      · obtain ⟨u, u1, u2, u3⟩ := two_subs b s t' h1 g2
        exact ⟨u, u1, u2.cons x, by simp only [List.length_cons]; omega⟩
    · rcases List.sublist_cons_iff.1 h2 with h2 | ⟨t', rfl, g2⟩
      · obtain ⟨u, u1, u2, u3⟩ := two_subs b s' t g1 h2
        exact ⟨u, u1.cons x, u2, by simp only [List.length_cons]; omega⟩
      · obtain ⟨u, u1, u2, u3⟩ := two_subs b s' t' g1 g2
        exact ⟨x :: u, u1.cons_cons x, u2.cons_cons x, by simp only [List.length_cons]; omega⟩
theorem lcs_three [DecidableEq α] (a b c : List α) : lcs a b + lcs b c ≤ b.length + lcs a c := by
  obtain ⟨s, s1, s2, s3⟩ := lcs_some a b
  obtain ⟨t, t1, t2, t3⟩ := lcs_some b c
  obtain ⟨u, u1, u2, u3⟩ := two_subs b s t s2 t1
  have := le_lcs (u1.trans s1) (u2.trans t2)
  omega
/-- By way of a third list it costs no less. -/
theorem edits_three [DecidableEq α] (a b c : List α) : cost (edits a c) ≤ cost (edits a b) + cost (edits b c) := by
  have := lcs_three a b c
  rw [edits_cost, edits_cost, edits_cost]; omega

end
end Df
end Go.Proofs.Ytdbhfohilfcgfaa
