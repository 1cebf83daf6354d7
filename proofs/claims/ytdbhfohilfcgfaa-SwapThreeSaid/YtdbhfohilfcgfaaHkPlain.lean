/-
  Plain functions on lists for layer 5 (hunks), and their laws. No program is imported.
-/
import Derived.Test.YtdbhfohilfcgfaaDfPlain
import Derived.Test.YtdbhfohilfcgfaaSqPlain
namespace Go.Proofs.Ytdbhfohilfcgfaa
namespace Hk
open Lc Df Sq

/-- A hunk: a place, the lines that stand there, and those that stand there then. -/
structure Hu (α : Type) where
  pos : Int
  old : List α
  new : List α

def turn {α : Type} (h : Hu α) : Hu α := ⟨h.pos, h.new, h.old⟩
theorem turn_turn {α : Type} (h : Hu α) : turn (turn h) = h := rfl

section
variable {α : Type}

/-- The hunks of edits, if all places ahead have moved by m. -/
def hks (a : List α) : Int → List (Ed α) → List (Hu α)
  | _, [] => []
  | m, x :: l => ⟨x.pos + m, mid a x.pos.toNat (x.pos + x.old).toNat, x.new⟩ :: hks a (m + x.new.length - x.old) l

theorem hks_len (a : List α) : ∀ (l : List (Ed α)) (m : Int), (hks a m l).length = l.length
  | [], m => rfl
  | x :: l, m => by rw [hks, List.length_cons, List.length_cons, hks_len a l]

theorem mid_mem {a : List α} {i j : Nat} {x : α} (h : x ∈ mid a i j) : x ∈ a := List.mem_of_mem_drop (List.mem_of_mem_take h)
/-- Hunks stand where what turns the edits back stands. -/
theorem hks_bks (a : List α) : ∀ (l : List (Ed α)) (m : Int), (hks a m l).map (fun h => h.pos) = (bks a m l).map (fun x => x.pos)
  | [], m => rfl
  | x :: l, m => by rw [hks, bks, List.map_cons, List.map_cons, hks_bks a l]

/-- Each hunk's lines are of the lists. -/
theorem eds_mem (b : List α) : ∀ (l : List (Nat × Nat)) (i j : Nat), ∀ x ∈ eds b i j l, ∀ y ∈ x.new, y ∈ b
  | [], i, j, x, hx => by cases hx
  | p :: l, i, j, x, hx => by
    rw [eds, List.mem_append] at hx
    rcases hx with hx | hx
    · unfold one at hx
      split at hx
      · rw [List.mem_singleton] at hx; subst hx; exact fun y hy => mid_mem hy
      · cases hx
    · exact eds_mem b l _ _ x hx
theorem hks_mem (a b : List α) : ∀ (l : List (Ed α)) (m : Int), (∀ x ∈ l, ∀ y ∈ x.new, y ∈ b) → ∀ h ∈ hks a m l, (∀ y ∈ h.old, y ∈ a) ∧ ∀ y ∈ h.new, y ∈ b
  | [], m, _, h, hh => by cases hh
  | x :: l, m, hx, h, hh => by
    rw [hks] at hh
    rcases List.mem_cons.1 hh with rfl | hh
    · exact ⟨fun y hy => mid_mem hy, hx x List.mem_cons_self⟩
    · exact hks_mem a b l _ (fun z hz => hx z (List.mem_cons_of_mem _ hz)) h hh

variable [DecidableEq α]

/-- What a hunk makes of a list. -/
def done (l : List α) (h : Hu α) : Option (List α) := if has l h.pos h.old then some (swp l h.pos.toNat h.old.length h.new) else none
theorem done_yes {l : List α} {h : Hu α} (hh : has l h.pos h.old = true) : done l h = some (swp l h.pos.toNat h.old.length h.new) := by rw [done, if_pos hh]
theorem done_no {l : List α} {h : Hu α} (hh : has l h.pos h.old = false) : done l h = none := by rw [done, hh]; rfl
theorem done_some {l m : List α} {h : Hu α} (hd : done l h = some m) : has l h.pos h.old = true ∧ m = swp l h.pos.toNat h.old.length h.new := by
  cases hh : has l h.pos h.old with
  | false => rw [done_no hh] at hd; cases hd
  | true => rw [done_yes hh] at hd; injection hd with hd; exact ⟨rfl, hd.symm⟩

/-- What is changed, and turned, is as it was. -/
theorem done_back {l m : List α} {h : Hu α} (hd : done l h = some m) : done m (turn h) = some l := by
  obtain ⟨hh, rfl⟩ := done_some hd
  obtain ⟨h1, h2, _⟩ := back_again (now := h.new) hh
  rw [done_yes (h := turn h) h1]
  exact congrArg some h2
/-- Behind a hunk its New lines stand there, and there are as many lines more. -/
theorem done_len {l m : List α} {h : Hu α} (hd : done l h = some m) : has m h.pos h.new = true ∧ (m.length : Int) = l.length + h.new.length - h.old.length := by
  obtain ⟨hh, rfl⟩ := done_some hd
  obtain ⟨h1, _, h3⟩ := back_again (now := h.new) hh
  exact ⟨h1, by omega⟩

/-- Hunks, one behind the other. -/
def run : List α → List (Hu α) → Option (List α)
  | l, [] => some l
  | l, h :: hs => (done l h).bind fun m => run m hs

theorem run_hks (a : List α) : ∀ (l : List (Ed α)) (k : Nat) (m : Int) (f : Bool) (r u : List α), k ≤ a.length → apl a k f l = some r → (u.length : Int) = k + m → run (u ++ a.drop k) (hks a m l) = some (u ++ r)
  | [], k, m, f, r, u, hk, h, hu => by rw [apl_nil] at h; cases h; rfl
  | x :: l, k, m, f, r, u, hk, h, hu => by
    obtain ⟨⟨h1, h2, h3, h4, h5⟩, r, hr, rfl⟩ := apl_some h
    obtain ⟨p, hp⟩ : ∃ p : Nat, x.pos = p := ⟨x.pos.toNat, by omega⟩
    obtain ⟨q, hq⟩ : ∃ q : Nat, x.old = q := ⟨x.old.toNat, by omega⟩
    rw [hp, hq, show ((p : Int) + (q : Int)).toNat = p + q by omega] at hr
    rw [hp] at h1 h3 h5
    rw [hq] at h4 h5
    rw [hks, hp, hq, show (p : Int).toNat = p by omega, show ((p : Int) + (q : Int)).toNat = p + q by omega]
    have lm := mid_len (a := a) (i := k) (j := p) (by omega)
    have lq := mid_len (a := a) (i := p) (j := p + q) (by omega)
    have e : u ++ a.drop k = (u ++ mid a k p) ++ (mid a p (p + q) ++ a.drop (p + q)) := by
      rw [mid_drop (by omega), List.append_assoc, mid_drop (by omega)]
    have ep : ((u ++ mid a k p).length : Int) = (p : Int) + m := by rw [List.length_append, lm]; omega
    have hh := has_of_split (u ++ mid a k p) (mid a p (p + q)) (a.drop (p + q))
    rw [e, run, ← ep, done_yes hh, Option.bind_some]
    simp only [Int.toNat_natCast]
    rw [swp_parts]
    have ih := run_hks a l (p + q) (m + x.new.length - q) false r (u ++ mid a k p ++ x.new) (by omega) hr (by rw [List.length_append, List.length_append, lm]; omega)
    rw [List.append_assoc (u ++ mid a k p)] at ih
    rw [ih]
    simp only [List.append_assoc]

/-- The lists on the way, and how long they are. -/
theorem trace_hks (a : List α) : ∀ (l : List (Ed α)) (k : Nat) (m : Int) (f : Bool) (r u : List α), k ≤ a.length → apl a k f l = some r → (u.length : Int) = k + m →
    ∃ L : Nat → List α, L 0 = u ++ a.drop k ∧ L l.length = u ++ r ∧ (∀ i, i ≤ l.length → (L i).length ≤ (u ++ r).length + a.length) ∧ ∀ (i : Nat) h, (hks a m l)[i]? = some h → done (L i) h = some (L (i + 1))
  | [], k, m, f, r, u, hk, h, hu => by
    rw [apl_nil] at h; cases h
    exact ⟨fun _ => u ++ a.drop k, rfl, rfl, fun i _ => Nat.le_add_right _ _, fun i h hi => by rw [hks] at hi; simp at hi⟩
  | x :: l, k, m, f, r, u, hk, h, hu => by
    obtain ⟨⟨h1, h2, h3, h4, h5⟩, r, hr, rfl⟩ := apl_some h
    obtain ⟨p, hp⟩ : ∃ p : Nat, x.pos = p := ⟨x.pos.toNat, by omega⟩
    obtain ⟨q, hq⟩ : ∃ q : Nat, x.old = q := ⟨x.old.toNat, by omega⟩
    rw [hp, hq, show ((p : Int) + (q : Int)).toNat = p + q by omega] at hr
    rw [hp] at h1 h3 h5
    rw [hq] at h4 h5
    rw [hks, hp, hq, show (p : Int).toNat = p by omega, show ((p : Int) + (q : Int)).toNat = p + q by omega]
    have lm := mid_len (a := a) (i := k) (j := p) (by omega)
    have e : u ++ a.drop k = (u ++ mid a k p) ++ (mid a p (p + q) ++ a.drop (p + q)) := by
      rw [mid_drop (by omega), List.append_assoc, mid_drop (by omega)]
    have ep : ((u ++ mid a k p).length : Int) = (p : Int) + m := by rw [List.length_append, lm]; omega
    have hh := has_of_split (u ++ mid a k p) (mid a p (p + q)) (a.drop (p + q))
    obtain ⟨L, k1, k2, k3, k4⟩ := trace_hks a l (p + q) (m + x.new.length - q) false r (u ++ mid a k p ++ x.new) (by omega) hr (by rw [List.length_append, List.length_append, lm]; omega)
    refine ⟨fun i => match i with | 0 => u ++ a.drop k | i + 1 => L i, rfl, ?_, ?_, fun i g hi => ?_⟩
    · show L l.length = _
      rw [k2]; simp only [List.append_assoc]
    · intro i hi
      match i, hi with
      | 0, _ => show (u ++ a.drop k).length ≤ _; simp only [List.length_append, List.length_drop]; omega
      | i + 1, hi =>
        have := k3 i (by simpa using hi)
        show (L i).length ≤ _
        simp only [List.length_append] at this ⊢
        omega
    · match i, hi with
      | 0, hi =>
        cases hi
        show done (u ++ a.drop k) _ = some (L 0)
        rw [k1, e, ← ep, done_yes hh]
        simp only [Int.toNat_natCast]
        rw [swp_parts]
        simp only [List.append_assoc]
      | i + 1, hi => exact k4 i g (by simpa using hi)

theorem trace_edits (a b : List α) : ∃ L : Nat → List α, L 0 = a ∧ L (hks a 0 (edits a b)).length = b ∧ (∀ i, i ≤ (hks a 0 (edits a b)).length → (L i).length ≤ b.length + a.length) ∧ ∀ (i : Nat) h, (hks a 0 (edits a b))[i]? = some h → done (L i) h = some (L (i + 1)) := by
  have := trace_hks a (edits a b) 0 0 true b [] (Nat.zero_le _) (edits_appl a b) rfl
  rw [List.drop_zero, List.nil_append, List.nil_append, ← hks_len a (edits a b) 0] at this
  exact this

/-- Hunks of two lists change the first one into the second one. -/
theorem run_edits (a b : List α) : run a (hks a 0 (edits a b)) = some b := by
  have := run_hks a (edits a b) 0 0 true b [] (Nat.zero_le _) (edits_appl a b) rfl
  rw [List.drop_zero, List.nil_append, List.nil_append] at this
  exact this

/-- The lists on the way. -/
theorem run_trace : ∀ (hs : List (Hu α)) (l r : List α), run l hs = some r → ∃ L : Nat → List α, L 0 = l ∧ L hs.length = r ∧ ∀ (i : Nat) h, hs[i]? = some h → done (L i) h = some (L (i + 1))
  | [], l, r, h => by rw [run] at h; cases h; exact ⟨fun _ => l, rfl, rfl, fun i h hi => by simp at hi⟩
  | h :: hs, l, r, hr => by
    rw [run, Option.bind_eq_some_iff] at hr
    obtain ⟨m, h1, h2⟩ := hr
    obtain ⟨L, k1, k2, k3⟩ := run_trace hs m r h2
    refine ⟨fun i => match i with | 0 => l | i + 1 => L i, rfl, k2, fun i g hi => ?_⟩
    match i, hi with
    | 0, hi => cases hi; show done l h = some (L 0); rw [k1]; exact h1
    | i + 1, hi => exact k3 i g (by simpa using hi)

theorem edits_mem (a b : List α) : ∀ h ∈ hks a 0 (edits a b), (∀ y ∈ h.old, y ∈ a) ∧ ∀ y ∈ h.new, y ∈ b :=
  hks_mem a b _ 0 (eds_mem b _ 0 0)
theorem done_pos {l m : List α} {h : Hu α} (hd : done l h = some m) : 0 ≤ h.pos ∧ h.pos + h.old.length ≤ l.length := by
  have := has_len (done_some hd).1
  omega

end
end Hk
end Go.Proofs.Ytdbhfohilfcgfaa
