/-
  Words and contracts, joined: QMem LcPlain DfPlain SqPlain HkPlain TxPlain HkMem QLight QSame TxLeaf TxAll QApp HkLeaf QBlk SqHas QOpen QLaw DfMem DfApply HkNext HkCells DfOwn DfTell QRange LcBack LcRow LcLeft LcCut.
-/
import Derived.Test.YtkpgkbllcdpobaaRows
import Derived.WalkKit
import Derived.WalkSpells
import Derived.WalkLawsBesides
import Derived.Lib.Hide
import Derived.Deep.Draws
import Derived.Laws.OwnMore
import Derived.ArgAppend
import Derived.Below
import Derived.Lib.Bytealg
import Derived.Lib.Bytes
import Derived.Deep.QuietTactic
import Derived.BigQuiet
import Derived.RangeFuncBox
import Derived.ProofKit
import Derived.OpenShut
import Derived.ShutString
import Derived.ChangeOld
import Derived.IntWalk
import Derived.Deep.RegionHeld3
import Derived.Deep.AppendLies
import Derived.RangeFuncNested
import Derived.RangeFuncCalls
import Derived.RangeFuncLeaves
import Derived.Deep.Quiet
import Derived.StillTail
import Derived.Deep.RegionHeld
import Derived.OrdersIn
import Derived.TacticsIn
import Derived.RangeFuncBound
import Derived.Shelf.Abstract
import Derived.Shelf.RegionOpen
import Derived.OwnWalkIn
import Derived.TacticsInMore
import Derived.LoopNIn
import Derived.LoopIn
import Derived.Maps.AppendAt
import Derived.StillTailTactics
import Derived.Outline
namespace Go.Proofs.Ytkpgkbllcdpobaa
open Go.RowKit
set_option linter.unusedVariables false
namespace Tx

/-- The value of a line. -/
abbrev strV (l : List UInt8) : Value := .string ⟨l.toArray⟩
theorem size_strV (l : List UInt8) : (ByteArray.mk l.toArray).size = l.length := by simp [ByteArray.size]
theorem ret_bool {a b : Bool} (h : a = b) : Ending.returned (.bool a) = .returned (.bool b) := by rw [h]
theorem take_snoc' {α : Type} {ls : List α} {k : Nat} (h : k < ls.length) : ls.take (k + 1) = ls.take k ++ [ls[k]] := List.take_succ_eq_append_getElem h

theorem add_block (a : Addr) (n : Nat) : (a.add n).block = a.block := by unfold Addr.add; split <;> rfl
theorem add_add (a : Addr) (i j : Nat) : (a.add i).add j = a.add (i + j) := by
  unfold Addr.add
  by_cases hi : i = 0 <;> by_cases hj : j = 0 <;> simp [hi, hj, Nat.add_assoc]
theorem add_zero' (a : Addr) : a.add 0 = a := by simp [Addr.add]

/-- The address A leads, below block B, to the cells xs; or there are none. -/
def Rd (w : World) (B : Nat) (A : Option Addr) (xs : List Value) : Prop :=
  xs = [] ∨ ∃ a, A = some a ∧ a.block < B ∧ ∀ j u, xs[j]? = some u → w.cell? (a.add j) = some u
def RdS (w : World) (B : Nat) (A : Option Addr) (ls : List (List UInt8)) : Prop := Rd w B A (ls.map strV)

section
variable {w w' : World} {B B' : Nat} {A : Option Addr} {xs : List Value}
theorem Rd.below (h : Rd w B A xs) (hb : Below B w w') : Rd w' B A xs := by
  rcases h with h | ⟨a, e, hlt, hc⟩
  · exact .inl h
  · exact .inr ⟨a, e, hlt, fun j u hu => (hb.cell (p := a.add j) (by rw [add_block]; exact hlt)).trans (hc j u hu)⟩
theorem Rd.up (h : Rd w B A xs) (hB : B ≤ B') : Rd w B' A xs := by
  rcases h with h | ⟨a, e, hlt, hc⟩
  · exact .inl h
  · exact .inr ⟨a, e, by omega, hc⟩
theorem Rd.take (h : Rd w B A xs) (k : Nat) : Rd w B A (xs.take k) := by
  rcases h with rfl | ⟨a, e, hlt, hc⟩
  · exact .inl (by simp)
  · refine .inr ⟨a, e, hlt, fun j u hu => hc j u ?_⟩
    rw [List.getElem?_take] at hu
    split at hu
    · exact hu
    · cases hu
theorem Rd.drop (h : Rd w B A xs) {k cap : Nat} (hc : xs.length ≤ cap) : Rd w B (if cap = k then A else A.map (·.add k)) (xs.drop k) := by
  by_cases e : cap = k
  · subst e; exact .inl (List.drop_of_length_le hc)
  · rw [if_neg e]
    rcases h with rfl | ⟨a, rfl, hlt, hcell⟩
    · exact .inl (by simp)
    · refine .inr ⟨a.add k, rfl, by rw [add_block]; exact hlt, fun j u hu => ?_⟩
      rw [add_add]
      exact hcell _ u (by rw [← hu, List.getElem?_drop])
theorem Rd.at_ (h : Rd w B A xs) {k : Nat} (hk : k < xs.length) : ∃ a, A = some a ∧ a.block < B ∧ w.cell? (a.add k) = some xs[k] := by
  rcases h with rfl | ⟨a, e, hlt, hc⟩
  · exact absurd hk (by simp)
  · exact ⟨a, e, hlt, hc k _ (List.getElem?_eq_getElem hk)⟩
theorem Rd.drewN (h : Rd w B A xs) (d : Nat) : Rd (w.drewN d) B A xs := by
  rcases h with h | ⟨a, e, hlt, hc⟩
  · exact .inl h
  · exact .inr ⟨a, e, hlt, fun j u hu => by simpa using hc j u hu⟩
end

theorem RdS.at' {w : World} {B : Nat} {A : Option Addr} {ls : List (List UInt8)} (h : RdS w B A ls) {k : Nat} (hk : k < ls.length) : ∃ a, A = some a ∧ w.cell? (a.add k) = some (strV ls[k]) := by
  obtain ⟨a, e, _, hc⟩ := h.at_ (k := k) (by simpa using hk)
  exact ⟨a, e, by rw [hc]; simp⟩

theorem strs_one (ls : List (List UInt8)) : ∀ u ∈ ls.map strV, u.oneCell' = true := by
  intro u hu
  obtain ⟨c, _, rfl⟩ := List.mem_map.1 hu
  simp [Value.oneCell']

theorem rd_of_own {w : World} {base : Nat} {e : TypeId} {v : Value} {n : Nat} {xs : List Value} (h : w.ownsRow base e 1 v n xs) : ∃ A cap, v = .slice A n cap ∧ n ≤ cap ∧ Rd w w.heap.size A xs := by
  rcases h.2 with ⟨rfl, rfl⟩ | ⟨g, cap, cur, rfl, hb, hg, hc, _, hcs, ht⟩
  · exact ⟨none, 0, rfl, Nat.le_refl _, .inl (List.eq_nil_of_length_eq_zero (by simpa using h.1))⟩
  · refine ⟨_, cap, rfl, hc, .inr ⟨_, rfl, (Array.getElem?_eq_some_iff.1 hg).1, fun j u hu => ?_⟩⟩
    have e1 : (⟨g, 0, none⟩ : Addr).add j = ⟨g, j, none⟩ := by unfold Addr.add; split <;> simp_all
    rw [e1, cell_of_row w g j cur e (0, 0) hg]
    rw [← ht, List.getElem?_take] at hu
    split at hu
    · simpa using hu
    · cases hu

theorem own_ge {w : World} {base e size n : Nat} {v : Value} {xs : List Value} (h : w.ownsRow base e size v n xs) : ∀ k, v.ownBlock = some k → base ≤ k := by
  intro k hk
  exact (h.lt k hk).1

theorem own_mono {w : World} {base base' e size n : Nat} {v : Value} {xs : List Value} (h : w.ownsRow base e size v n xs) (hb : base' ≤ base) : w.ownsRow base' e size v n xs := by
  refine ⟨h.1, ?_⟩
  rcases h.2 with h | ⟨g, cap, cur, h1, h2, h3⟩
  · exact .inl h
  · exact .inr ⟨g, cap, cur, h1, Nat.le_trans hb h2, h3⟩

theorem below_drewN {B : Nat} {w w' : World} (h : Below B w w') (d : Nat) : Below B w (w'.drewN d) := ⟨h.os, h.tape, h.output, h.size, h.block⟩

section
variable {P : Program} {w : World}

theorem run_app_empty {n c m c' : Nat} {t ty e : TypeId} {i : TypeInfo} {A A' : Option Addr} (ht : P.underlying t = some (.slice e)) (hi : P.info? e = some i) (hsize : i.size = 1) (hnc : n ≤ c) (hm : m = 0) :
    (Builtin.append_ #[t, t] ty #[.slice A n c, .slice A' m c']).run P w = .ok (.slice A n c) w := by
  subst hm
  cases A <;> cases A' <;> simp [Builtin.append_, run_underlying ht, sizeOf, typeInfo, hi, Builtin.lenOf, Builtin.firstCells, hnc, storeCells, loadCells, loadCellsFrom]

end

theorem info_str : (Try.prog.info? 9).map (fun i => (i.zero, i.size, i.bytes)) = some (some (.string ⟨#[]⟩), 1, 16) := by kernel_rfl
/-- What an int holds. -/
def I64 (n : Int) : Prop := -9223372036854775808 ≤ n ∧ n ≤ 9223372036854775807

end Tx
end Go.Proofs.Ytkpgkbllcdpobaa

namespace Go.Proofs.Ytkpgkbllcdpobaa
namespace Lc

section
variable {α : Type} [DecidableEq α]

/-- What two lists have in common, from their first places on. -/
def lcs : List α → List α → Nat
  | x :: a, y :: b => if x = y then lcs a b + 1 else if lcs (x :: a) b ≤ lcs a (y :: b) then lcs a (y :: b) else lcs (x :: a) b
  | _, _ => 0
  termination_by a b => a.length + b.length

theorem lcs_nil_left (b : List α) : lcs [] b = 0 := by unfold lcs; rfl
theorem lcs_nil_right (a : List α) : lcs a [] = 0 := by cases a <;> (unfold lcs; rfl)
theorem lcs_same (x : α) (a b : List α) : lcs (x :: a) (x :: b) = lcs a b + 1 := by conv => lhs; unfold lcs; rw [if_pos rfl]
theorem lcs_ne {x y : α} (a b : List α) (h : x ≠ y) : lcs (x :: a) (y :: b) = if lcs (x :: a) b ≤ lcs a (y :: b) then lcs a (y :: b) else lcs (x :: a) b := by
  conv => lhs; unfold lcs; rw [if_neg h]

/-- So many do. -/
theorem lcs_has : ∀ (n : Nat) (a b : List α), a.length + b.length ≤ n → ∃ s : List α, s.Sublist a ∧ s.Sublist b ∧ s.length = lcs a b
  | _, [], b, _ => ⟨[], List.nil_sublist _, List.nil_sublist _, by rw [lcs_nil_left]; rfl⟩
  | _, x :: a, [], _ => ⟨[], List.nil_sublist _, List.nil_sublist _, by rw [lcs_nil_right]; rfl⟩
  | 0, x :: a, y :: b, hn => by simp at hn
  | n + 1, x :: a, y :: b, hn => by
    simp only [List.length_cons] at hn
    by_cases e : x = y
    · subst e
      obtain ⟨s, h1, h2, h3⟩ := lcs_has n a b (by omega)
      exact ⟨x :: s, h1.cons_cons x, h2.cons_cons x, by rw [lcs_same, ← h3]; rfl⟩
    · rw [lcs_ne a b e]
      split
      · obtain ⟨s, h1, h2, h3⟩ := lcs_has n a (y :: b) (by simp only [List.length_cons]; omega)
        exact ⟨s, h1.cons x, h2, h3⟩
      · obtain ⟨s, h1, h2, h3⟩ := lcs_has n (x :: a) b (by simp only [List.length_cons]; omega)
        exact ⟨s, h1, h2.cons y, h3⟩
theorem lcs_some (a b : List α) : ∃ s : List α, s.Sublist a ∧ s.Sublist b ∧ s.length = lcs a b := lcs_has _ a b (Nat.le_refl _)
theorem lcs_le (a b : List α) : lcs a b ≤ a.length ∧ lcs a b ≤ b.length := by
  obtain ⟨t, t1, t2, t3⟩ := lcs_some a b
  have := t1.length_le
  have := t2.length_le
  omega
/-- The pairs, from place i of a and place j of b on. -/
def prs : Nat → Nat → List α → List α → List (Nat × Nat)
  | i, j, x :: a, y :: b => if x = y then (i, j) :: prs (i + 1) (j + 1) a b else if lcs (x :: a) b ≤ lcs a (y :: b) then prs (i + 1) j a (y :: b) else prs i (j + 1) (x :: a) b
  | _, _, _, _ => []
  termination_by _ _ a b => a.length + b.length
def pairs (a b : List α) : List (Nat × Nat) := prs 0 0 a b

theorem prs_nil_left (i j : Nat) (b : List α) : prs i j [] b = [] := by unfold prs; rfl
theorem prs_nil_right (i j : Nat) (a : List α) : prs i j a [] = [] := by cases a <;> (unfold prs; rfl)
theorem prs_same (i j : Nat) (x : α) (a b : List α) : prs i j (x :: a) (x :: b) = (i, j) :: prs (i + 1) (j + 1) a b := by conv => lhs; unfold prs; rw [if_pos rfl]
theorem prs_ne {x y : α} (i j : Nat) (a b : List α) (h : x ≠ y) : prs i j (x :: a) (y :: b) = if lcs (x :: a) b ≤ lcs a (y :: b) then prs (i + 1) j a (y :: b) else prs i (j + 1) (x :: a) b := by
  conv => lhs; unfold prs; rw [if_neg h]

theorem prs_len : ∀ (n i j : Nat) (a b : List α), a.length + b.length ≤ n → (prs i j a b).length = lcs a b
  | _, i, j, [], b, _ => by rw [prs_nil_left, lcs_nil_left]; rfl
  | _, i, j, x :: a, [], _ => by rw [prs_nil_right, lcs_nil_right]; rfl
  | 0, i, j, x :: a, y :: b, hn => by simp at hn
  | n + 1, i, j, x :: a, y :: b, hn => by
    simp only [List.length_cons] at hn
    by_cases e : x = y
    · subst e
      rw [prs_same, lcs_same, List.length_cons, prs_len n _ _ a b (by omega)]
    · rw [prs_ne i j a b e, lcs_ne a b e]
      split
      · exact prs_len n _ _ a (y :: b) (by simp only [List.length_cons]; omega)
      · exact prs_len n _ _ (x :: a) b (by simp only [List.length_cons]; omega)
theorem pairs_len (a b : List α) : (pairs a b).length = lcs a b := prs_len _ 0 0 a b (Nat.le_refl _)

/-- Each pair is of lines that are the same, behind the places i and j; and they rise in both. -/
theorem prs_ok : ∀ (n i j : Nat) (a b : List α), a.length + b.length ≤ n →
    (∀ p ∈ prs i j a b, i ≤ p.1 ∧ j ≤ p.2 ∧ p.1 < i + a.length ∧ p.2 < j + b.length ∧ a[p.1 - i]? = b[p.2 - j]?) ∧ (prs i j a b).Pairwise (fun p q => p.1 < q.1 ∧ p.2 < q.2)
  | _, i, j, [], b, _ => by rw [prs_nil_left]; simp
  | _, i, j, x :: a, [], _ => by rw [prs_nil_right]; simp
  | 0, i, j, x :: a, y :: b, hn => by simp at hn
  | n + 1, i, j, x :: a, y :: b, hn => by
    simp only [List.length_cons] at hn
    by_cases e : x = y
    · subst e
      rw [prs_same]
      obtain ⟨h1, h2⟩ := prs_ok n (i + 1) (j + 1) a b (by omega)
      refine ⟨fun p hp => ?_, List.pairwise_cons.2 ⟨fun q hq => ?_, h2⟩⟩
      · rcases List.mem_cons.1 hp with rfl | hp
        · simp
        · obtain ⟨k1, k2, k3, k4, k5⟩ := h1 p hp
          refine ⟨by omega, by omega, by simp only [List.length_cons]; omega, by simp only [List.length_cons]; omega, ?_⟩
          rw [show p.1 - i = (p.1 - (i + 1)) + 1 by omega, show p.2 - j = (p.2 - (j + 1)) + 1 by omega, List.getElem?_cons_succ, List.getElem?_cons_succ]
          exact k5
      · obtain ⟨k1, k2, _⟩ := h1 q hq
        exact ⟨by show i < q.1; omega, by show j < q.2; omega⟩
    · rw [prs_ne i j a b e]
      split
      · obtain ⟨h1, h2⟩ := prs_ok n (i + 1) j a (y :: b) (by simp only [List.length_cons]; omega)
        refine ⟨fun p hp => ?_, h2⟩
        obtain ⟨k1, k2, k3, k4, k5⟩ := h1 p hp
        refine ⟨by omega, k2, by simp only [List.length_cons]; omega, k4, ?_⟩
        rw [show p.1 - i = (p.1 - (i + 1)) + 1 by omega, List.getElem?_cons_succ]
        exact k5
      · obtain ⟨h1, h2⟩ := prs_ok n i (j + 1) (x :: a) b (by simp only [List.length_cons]; omega)
        refine ⟨fun p hp => ?_, h2⟩
        obtain ⟨k1, k2, k3, k4, k5⟩ := h1 p hp
        refine ⟨k1, by omega, k3, by simp only [List.length_cons]; omega, ?_⟩
        rw [show p.2 - j = (p.2 - (j + 1)) + 1 by omega, List.getElem?_cons_succ]
        exact k5

/-- The table: what is had from places i and j on. -/
def tab (a b : List α) (i j : Nat) : Nat := lcs (a.drop i) (b.drop j)
theorem tab_end_right {a b : List α} {j : Nat} (i : Nat) (h : b.length ≤ j) : tab a b i j = 0 := by unfold tab; rw [List.drop_of_length_le h, lcs_nil_right]
theorem tab_same {a b : List α} {i j : Nat} (hi : i < a.length) (hj : j < b.length) (e : a[i] = b[j]) : tab a b i j = tab a b (i + 1) (j + 1) + 1 := by
  unfold tab; rw [List.drop_eq_getElem_cons hi, List.drop_eq_getElem_cons hj, e, lcs_same]
theorem tab_ne {a b : List α} {i j : Nat} (hi : i < a.length) (hj : j < b.length) (e : a[i] ≠ b[j]) : tab a b i j = if tab a b i (j + 1) ≤ tab a b (i + 1) j then tab a b (i + 1) j else tab a b i (j + 1) := by
  unfold tab
  conv => lhs; rw [List.drop_eq_getElem_cons hi, List.drop_eq_getElem_cons hj, lcs_ne _ _ e]
  rw [List.drop_eq_getElem_cons hi, List.drop_eq_getElem_cons hj]
theorem tab_le (a b : List α) (i j : Nat) : tab a b i j ≤ a.length - i ∧ tab a b i j ≤ b.length - j := by
  have := lcs_le (a.drop i) (b.drop j)
  simpa [tab] using this
/-- The rest of the pairs, from places i and j on. -/
def rest (a b : List α) (i j : Nat) : List (Nat × Nat) := prs i j (a.drop i) (b.drop j)
theorem rest_end_left {a b : List α} {i : Nat} (j : Nat) (h : a.length ≤ i) : rest a b i j = [] := by unfold rest; rw [List.drop_of_length_le h, prs_nil_left]
theorem rest_end_right {a b : List α} {j : Nat} (i : Nat) (h : b.length ≤ j) : rest a b i j = [] := by unfold rest; rw [List.drop_of_length_le h, prs_nil_right]
theorem rest_same {a b : List α} {i j : Nat} (hi : i < a.length) (hj : j < b.length) (e : a[i] = b[j]) : rest a b i j = (i, j) :: rest a b (i + 1) (j + 1) := by
  unfold rest; rw [List.drop_eq_getElem_cons hi, List.drop_eq_getElem_cons hj, e, prs_same]
theorem rest_ne {a b : List α} {i j : Nat} (hi : i < a.length) (hj : j < b.length) (e : a[i] ≠ b[j]) : rest a b i j = if tab a b i (j + 1) ≤ tab a b (i + 1) j then rest a b (i + 1) j else rest a b i (j + 1) := by
  unfold rest tab
  conv => lhs; rw [List.drop_eq_getElem_cons hi, List.drop_eq_getElem_cons hj, prs_ne _ _ _ _ e]
  rw [List.drop_eq_getElem_cons hi, List.drop_eq_getElem_cons hj]
theorem rest_zero (a b : List α) : rest a b 0 0 = pairs a b := by simp [rest, pairs]

end
end Lc
end Go.Proofs.Ytkpgkbllcdpobaa

namespace Go.Proofs.Ytkpgkbllcdpobaa
namespace Df
open Lc

/-- An edit: a place, how many lines are gone there, and which ones stand there. -/
structure Ed (α : Type) where
  pos : Int
  old : Int
  new : List α

section
variable {α : Type}

/-- What all edits cost (not wrapped around). -/
def cost : List (Ed α) → Int
  | [] => 0
  | x :: l => x.old + x.new.length + cost l

/-- The lines of a list from place i up to place j. -/
def mid (a : List α) (i j : Nat) : List α := (a.drop i).take (j - i)

theorem mid_len {a : List α} {i j : Nat} (h : j ≤ a.length) : (mid a i j).length = j - i := by
  unfold mid; rw [List.length_take, List.length_drop]; omega
theorem mid_self (a : List α) (i : Nat) : mid a i i = [] := by unfold mid; rw [Nat.sub_self, List.take_zero]
theorem mid_drop {a : List α} {i j : Nat} (h : i ≤ j) : mid a i j ++ a.drop j = a.drop i := by
  unfold mid
  have := List.take_append_drop (j - i) (a.drop i)
  rw [List.drop_drop, show i + (j - i) = j by omega] at this
  exact this
theorem mid_all {a : List α} (i : Nat) {j : Nat} (h : a.length ≤ j) : mid a i j = a.drop i := by
  unfold mid; rw [List.take_of_length_le]; rw [List.length_drop]; omega
theorem mid_snoc {a : List α} {i j : Nat} {x : α} (h : i ≤ j) (hx : a[j]? = some x) : mid a i (j + 1) = mid a i j ++ [x] := by
  unfold mid
  rw [show j + 1 - i = (j - i) + 1 by omega, List.take_add_one, List.getElem?_drop, show i + (j - i) = j by omega, hx]
  rfl
theorem drop_cons {a : List α} {j : Nat} {x : α} (hx : a[j]? = some x) : a.drop j = x :: a.drop (j + 1) := by
  obtain ⟨h, rfl⟩ := List.getElem?_eq_some_iff.1 hx
  exact List.drop_eq_getElem_cons h
theorem mid_one {a : List α} {j : Nat} {x : α} (hx : a[j]? = some x) : mid a j (j + 1) = [x] := by
  rw [mid_snoc (Nat.le_refl _) hx, mid_self]; rfl
/-- Does an edit fit, at a list of n lines of which 'at' lines are done (f: none was ahead)? -/
def fits (n k : Nat) (f : Bool) (x : Ed α) : Prop := (k : Int) ≤ x.pos ∧ (f = false → (k : Int) < x.pos) ∧ x.pos ≤ n ∧ 0 ≤ x.old ∧ x.old ≤ n - x.pos
instance (n k : Nat) (f : Bool) (x : Ed α) : Decidable (fits n k f x) := by unfold fits; exact inferInstance

/-- What edits make of a list, from its place k on (f: no edit is done as yet). -/
def apl (a : List α) : Nat → Bool → List (Ed α) → Option (List α)
  | k, _, [] => some (a.drop k)
  | k, f, x :: l => if fits a.length k f x then (apl a (x.pos + x.old).toNat false l).map (fun r => mid a k x.pos.toNat ++ x.new ++ r) else none

def appl (a : List α) (l : List (Ed α)) : Option (List α) := apl a 0 true l

theorem apl_nil (a : List α) (k : Nat) (f : Bool) : apl a k f [] = some (a.drop k) := rfl
theorem apl_yes {a : List α} {k : Nat} {f : Bool} {x : Ed α} (l : List (Ed α)) (h : fits a.length k f x) : apl a k f (x :: l) = (apl a (x.pos + x.old).toNat false l).map (fun r => mid a k x.pos.toNat ++ x.new ++ r) := by
  rw [apl, if_pos h]
theorem apl_no {a : List α} {k : Nat} {f : Bool} {x : Ed α} (l : List (Ed α)) (h : ¬ fits a.length k f x) : apl a k f (x :: l) = none := by
  rw [apl, if_neg h]
theorem apl_some {a : List α} {k : Nat} {f : Bool} {x : Ed α} {l : List (Ed α)} {c : List α} (h : apl a k f (x :: l) = some c) :
    fits a.length k f x ∧ ∃ r, apl a (x.pos + x.old).toNat false l = some r ∧ c = mid a k x.pos.toNat ++ x.new ++ r := by
  by_cases hf : fits a.length k f x
  · rw [apl_yes l hf, Option.map_eq_some_iff] at h
    obtain ⟨r, h1, rfl⟩ := h
    exact ⟨hf, r, h1, rfl⟩
  · rw [apl_no l hf] at h; cases h

/-- All lines that edits put there, together. -/
def news : List (Ed α) → Nat
  | [] => 0
  | x :: l => x.new.length + news l
/-- Pairs of lines that are the same rise, from the places i and j on. -/
def Ris (a b : List α) : Nat → Nat → List (Nat × Nat) → Prop
  | _, _, [] => True
  | i, j, p :: l => i ≤ p.1 ∧ j ≤ p.2 ∧ (∃ x, a[p.1]? = some x ∧ b[p.2]? = some x) ∧ Ris a b (p.1 + 1) (p.2 + 1) l

theorem ris_of (a b : List α) : ∀ (l : List (Nat × Nat)) (i j : Nat), (∀ p ∈ l, i ≤ p.1 ∧ j ≤ p.2 ∧ p.1 < a.length ∧ a[p.1]? = b[p.2]?) → l.Pairwise (fun p q => p.1 < q.1 ∧ p.2 < q.2) → Ris a b i j l
  | [], i, j, _, _ => trivial
  | p :: l, i, j, h, hp => by
    obtain ⟨h1, h2, h3, h4⟩ := h p List.mem_cons_self
    obtain ⟨p1, p2⟩ := List.pairwise_cons.1 hp
    refine ⟨h1, h2, ⟨a[p.1], List.getElem?_eq_getElem h3, by rw [← h4]; exact List.getElem?_eq_getElem h3⟩, ris_of a b l _ _ (fun q hq => ?_) p2⟩
    obtain ⟨k1, k2, k3, k4⟩ := h q (List.mem_cons_of_mem _ hq)
    have := p1 q hq
    exact ⟨by omega, by omega, k3, k4⟩
theorem pairs_ris [DecidableEq α] (a b : List α) : Ris a b 0 0 (pairs a b) := by
  obtain ⟨h1, h2⟩ := prs_ok _ 0 0 a b (Nat.le_refl _)
  refine ris_of a b _ 0 0 (fun p hp => ?_) h2
  obtain ⟨k1, k2, k3, k4, k5⟩ := h1 p hp
  exact ⟨k1, k2, by omega, by simpa using k5⟩

/-- The edit of the stretch from the places i and j up to the places p and q, if it has a line. -/
def one (b : List α) (i j p q : Nat) : List (Ed α) := if i < p ∨ j < q then [⟨i, (p : Int) - i, mid b j q⟩] else []

/-- The edits of the stretches ahead of each pair, from the places i and j on. -/
def eds (b : List α) : Nat → Nat → List (Nat × Nat) → List (Ed α)
  | _, _, [] => []
  | i, j, p :: l => one b i j p.1 p.2 ++ eds b (p.1 + 1) (p.2 + 1) l

def ends [DecidableEq α] (a b : List α) : List (Nat × Nat) := pairs a b ++ [(a.length, b.length)]
def edits [DecidableEq α] (a b : List α) : List (Ed α) := eds b 0 0 (ends a b)

theorem cost_append : ∀ (l m : List (Ed α)), cost (l ++ m) = cost l + cost m
  | [], m => by simp [cost]
  | x :: l, m => by rw [List.cons_append, cost, cost, cost_append l m]; omega

theorem one_cost {b : List α} {i j p q : Nat} (h1 : i ≤ p) (h2 : j ≤ q) (h3 : q ≤ b.length) : cost (one b i j p q) = (p - i : Int) + (q - j) := by
  unfold one
  split
  · simp only [cost, mid_len h3]; omega
  · simp only [cost]; omega

theorem ris_le {a b : List α} : ∀ {l : List (Nat × Nat)} {i j : Nat} {p : Nat × Nat}, Ris a b i j (p :: l) → p.1 < a.length ∧ p.2 < b.length := by
  intro l i j p h
  obtain ⟨_, _, ⟨x, h1, h2⟩, _⟩ := h
  exact ⟨(List.getElem?_eq_some_iff.1 h1).1, (List.getElem?_eq_some_iff.1 h2).1⟩

theorem eds_cost (a b : List α) : ∀ (l : List (Nat × Nat)) (i j : Nat), Ris a b i j l → i ≤ a.length → j ≤ b.length →
    cost (eds b i j (l ++ [(a.length, b.length)])) + 2 * l.length = (a.length - i : Int) + (b.length - j)
  | [], i, j, _, hi, hj => by
    simp only [List.nil_append, eds, List.append_nil, List.length_nil]
    rw [one_cost hi hj (Nat.le_refl _)]; omega
  | p :: l, i, j, h, hi, hj => by
    obtain ⟨l1, l2⟩ := ris_le h
    obtain ⟨h1, h2, _, h4⟩ := h
    have := eds_cost a b l (p.1 + 1) (p.2 + 1) h4 l1 l2
    rw [List.cons_append, eds, cost_append, one_cost h1 h2 (by omega), List.length_cons]
    omega
theorem edits_cost [DecidableEq α] (a b : List α) : cost (edits a b) = (a.length : Int) + b.length - 2 * lcs a b := by
  have := eds_cost a b (pairs a b) 0 0 (pairs_ris a b) (Nat.zero_le _) (Nat.zero_le _)
  rw [pairs_len] at this
  unfold edits ends; omega

theorem one_apl {a b : List α} {k i j p q : Nat} {f : Bool} {m : List (Ed α)} (hk : k ≤ i) (hf : f = false → k < i) (h1 : i ≤ p) (h3 : p ≤ a.length) (hl : i < p ∨ j < q) :
    apl a k f (one b i j p q ++ m) = (apl a p false m).map (fun r => mid a k i ++ mid b j q ++ r) := by
  unfold one
  rw [if_pos hl, List.cons_append, List.nil_append, apl_yes]
  · simp only
    rw [show ((i : Int) + ((p : Int) - i)).toNat = p by omega, show (i : Int).toNat = i by omega]
  · unfold fits; simp only
    refine ⟨by omega, fun h => ?_, by omega, by omega, by omega⟩
    have := hf h; omega

theorem eds_apl (a b : List α) : ∀ (l : List (Nat × Nat)) (k i j : Nat) (f : Bool), Ris a b i j l → k ≤ i → (f = false → k < i) → i ≤ a.length → j ≤ b.length →
    apl a k f (eds b i j (l ++ [(a.length, b.length)])) = some (mid a k i ++ b.drop j)
  | [], k, i, j, f, _, hk, hf, hi, hj => by
    simp only [List.nil_append, eds]
    by_cases hl : i < a.length ∨ j < b.length
    · rw [one_apl hk hf hi (Nat.le_refl _) hl, apl_nil, Option.map_some, List.drop_length, List.append_nil, mid_all j (Nat.le_refl _)]
    · unfold one
      rw [if_neg hl, List.nil_append, apl_nil, show j = b.length by omega, List.drop_length, List.append_nil, mid_all k (by omega)]
  | p :: l, k, i, j, f, h, hk, hf, hi, hj => by
    obtain ⟨l1, l2⟩ := ris_le h
    obtain ⟨h1, h2, ⟨x, x1, x2⟩, h4⟩ := h
    rw [List.cons_append, eds]
    by_cases hl : i < p.1 ∨ j < p.2
    · rw [one_apl hk hf h1 (by omega) hl, eds_apl a b l p.1 (p.1 + 1) (p.2 + 1) false h4 (by omega) (fun _ => by omega) l1 l2, Option.map_some, mid_one x1]
      rw [← mid_drop (a := b) h2, drop_cons x2]
      simp only [List.append_assoc, List.cons_append, List.nil_append]
    · have e1 : p.1 = i := by omega
      have e2 : p.2 = j := by omega
      unfold one
      rw [if_neg hl, List.nil_append, eds_apl a b l k (p.1 + 1) (p.2 + 1) f h4 (by omega) (fun _ => by omega) l1 l2, mid_snoc (by omega) x1, e1]
      rw [drop_cons (a := b) (j := j) (x := x) (by rw [← e2]; exact x2), e2]
      simp only [List.append_assoc, List.cons_append, List.nil_append]
theorem edits_appl [DecidableEq α] (a b : List α) : appl a (edits a b) = some b := by
  have := eds_apl a b (pairs a b) 0 0 0 true (pairs_ris a b) (Nat.le_refl _) (fun h => by cases h) (Nat.zero_le _) (Nat.zero_le _)
  rw [mid_self, List.drop_zero, List.nil_append] at this
  exact this

/-- Each edit takes something away, or puts something there. -/
theorem eds_some (a b : List α) : ∀ (l : List (Nat × Nat)) (i j : Nat), Ris a b i j l → i ≤ a.length → j ≤ b.length →
    ∀ x ∈ eds b i j (l ++ [(a.length, b.length)]), 1 ≤ x.old + x.new.length := by
  have ho : ∀ (i j p q : Nat), i ≤ p → j ≤ q → q ≤ b.length → ∀ x ∈ one b i j p q, 1 ≤ x.old + x.new.length := by
    intro i j p q h1 h2 h3 x hx
    unfold one at hx
    split at hx
    · rw [List.mem_singleton] at hx; subst hx
      simp only [mid_len h3]; omega
    · cases hx
  intro l
  induction l with
  | nil =>
    intro i j _ hi hj x hx
    simp only [List.nil_append, eds, List.append_nil] at hx
    exact ho i j _ _ hi hj (Nat.le_refl _) x hx
  | cons p l ih =>
    intro i j h hi hj x hx
    obtain ⟨l1, l2⟩ := ris_le h
    obtain ⟨h1, h2, _, h4⟩ := h
    rw [List.cons_append, eds, List.mem_append] at hx
    rcases hx with hx | hx
    · exact ho i j _ _ h1 h2 (by omega) x hx
    · exact ih _ _ h4 l1 l2 x hx
theorem edits_some [DecidableEq α] (a b : List α) : ∀ x ∈ edits a b, 1 ≤ x.old + x.new.length :=
  eds_some a b (pairs a b) 0 0 (pairs_ris a b) (Nat.zero_le _) (Nat.zero_le _)

theorem cost_len : ∀ (l : List (Ed α)), (∀ x ∈ l, 1 ≤ x.old + x.new.length) → (l.length : Int) ≤ cost l
  | [], _ => by simp [cost]
  | x :: l, h => by
    have h1 := h x List.mem_cons_self
    have h2 := cost_len l fun y hy => h y (List.mem_cons_of_mem _ hy)
    rw [cost, List.length_cons]; omega

theorem edits_len_le [DecidableEq α] (a b : List α) : (edits a b).length ≤ a.length + b.length := by
  have h1 := cost_len _ (edits_some a b)
  rw [edits_cost] at h1
  omega
end
end Df
end Go.Proofs.Ytkpgkbllcdpobaa

namespace Go.Proofs.Ytkpgkbllcdpobaa
namespace Sq

section
variable {α : Type}
/-- l with 'now' in the place of what stands at i and is n long. -/
def swp (l : List α) (i n : Nat) (now : List α) : List α := l.take i ++ (now ++ l.drop (i + n))
end

section
variable {α : Type} [DecidableEq α]

/-- Do 'some' stand in l from 'at' on? -/
def has (l : List α) (i : Int) (s : List α) : Bool := decide (0 ≤ i ∧ i ≤ l.length ∧ (l.drop i.toNat).take s.length = s)
theorem has_len {l s : List α} {i : Int} (h : has l i s = true) : 0 ≤ i ∧ i.toNat + s.length ≤ l.length := by
  simp only [has, decide_eq_true_eq] at h
  obtain ⟨h1, h2, h3⟩ := h
  have h4 := congrArg List.length h3
  simp at h4
  omega
theorem has_false {l s : List α} {i : Int} (h : i < 0 ∨ (l.length : Int) < i ∨ (l.length : Int) < i + s.length) : has l i s = false := by
  cases hb : has l i s with
  | false => rfl
  | true => have := has_len hb; omega
theorem has_at {l s : List α} {i : Nat} (h : i + s.length ≤ l.length) : has l i s = decide ((l.drop i).take s.length = s) := by
  unfold has
  refine decide_eq_decide.2 ⟨fun h => h.2.2, fun hh => ⟨by omega, by omega, hh⟩⟩

end
end Sq
end Go.Proofs.Ytkpgkbllcdpobaa

namespace Go.Proofs.Ytkpgkbllcdpobaa
namespace Hk
open Lc Df Sq

/-- A hunk: a place, the lines that stand there, and those that stand there then. -/
structure Hu (α : Type) where
  pos : Int
  old : List α
  new : List α

section
variable {α : Type}

/-- The hunks of edits, if all places ahead have moved by m. -/
def hks (a : List α) : Int → List (Ed α) → List (Hu α)
  | _, [] => []
  | m, x :: l => ⟨x.pos + m, mid a x.pos.toNat (x.pos + x.old).toNat, x.new⟩ :: hks a (m + x.new.length - x.old) l

theorem hks_len (a : List α) : ∀ (l : List (Ed α)) (m : Int), (hks a m l).length = l.length
  | [], m => rfl
  | x :: l, m => by rw [hks, List.length_cons, List.length_cons, hks_len a l]

variable [DecidableEq α]

/-- What a hunk makes of a list. -/
def done (l : List α) (h : Hu α) : Option (List α) := if has l h.pos h.old then some (swp l h.pos.toNat h.old.length h.new) else none
/-- Hunks, one behind the other. -/
def run : List α → List (Hu α) → Option (List α)
  | l, [] => some l
  | l, h :: hs => (done l h).bind fun m => run m hs

end
end Hk
end Go.Proofs.Ytkpgkbllcdpobaa

namespace Go.Proofs.Ytkpgkbllcdpobaa
namespace Tx

def may (l : List UInt8) : Bool := decide (l.length ≤ 80) && !l.contains 10
def allMay (ls : List (List UInt8)) : Bool := decide (ls.length ≤ 200) && ls.all may

theorem indexByte_neg (l : List UInt8) (c : UInt8) : decide (Lib.indexByte l c < 0) = !l.contains c := by
  induction l with
  | nil => simp [Lib.indexByte]
  | cons b l ih =>
    have hg := Lib.indexByte_ge l c
    unfold Lib.indexByte
    by_cases hb : b = c
    · subst hb; simp
    · have hb' : ¬ c = b := fun e => hb e.symm
      by_cases hi : Lib.indexByte l c = -1
      · have : c ∉ l := by simpa [hi] using ih
        simp [hb, hi, hb', this]
      · have h1 : ¬ Lib.indexByte l c < 0 := by omega
        have h2 : c ∈ l := by simpa [h1] using ih
        have h3 : ¬ Lib.indexByte l c + 1 < 0 := by omega
        simp [hb, hi, h2, h3]

theorem all_of {ls : List (List UInt8)} (h : ∀ x ∈ ls, may x = true) : ls.all may = true := by rw [List.all_eq_true]; exact h
theorem not_all_of {ls : List (List UInt8)} {x : List UInt8} (hx : x ∈ ls) (h : may x = false) : ls.all may = false := by rw [List.all_eq_false]; exact ⟨x, hx, by simp [h]⟩

end Tx
end Go.Proofs.Ytkpgkbllcdpobaa

namespace Go.Proofs.Ytkpgkbllcdpobaa
open Go.RowKit
set_option linter.unusedVariables false
namespace Hk
open Tx Df

abbrev HU : Type := Hu (List UInt8)

/-- The value of a hunk. -/
abbrev hkV (p : Int) (A : Option Addr) (n c : Nat) (A' : Option Addr) (n' c' : Nat) : Value := .agg #[.int .i64 p, .slice A n c, .slice A' n' c']

/-- Two slice values that read, below block B, as a hunk's lines. -/
structure HV (w : World) (B : Nat) (A : Option Addr) (n c : Nat) (A' : Option Addr) (n' c' : Nat) (h : HU) : Prop where
  l : h.old.length = n
  l' : h.new.length = n'
  k : n ≤ c
  k' : n' ≤ c'
  m : n ≤ maxLen
  m' : n' ≤ maxLen
  r : RdS w B A h.old
  r' : RdS w B A' h.new
  p : I64 h.pos

/-- The cells of a hunk at the address a, its lines below block B. -/
structure HkAt (w : World) (B : Nat) (a : Addr) (k : Nat) (h : HU) : Prop where
  c0 : w.cell? (a.add (k * 3)) = some (.int .i64 h.pos)
  c1 : ∃ A c A' c', w.cell? ⟨(a.add (k * 3)).block, (a.add (k * 3)).off + 1, none⟩ = some (.slice A h.old.length c) ∧ w.cell? ⟨(a.add (k * 3)).block, (a.add (k * 3)).off + 2, none⟩ = some (.slice A' h.new.length c') ∧ HV w B A h.old.length c A' h.new.length c' h

/-- The address A leads, below block B, to hunks; or there are none. -/
def RdH (w : World) (B : Nat) (A : Option Addr) (hs : List HU) : Prop :=
  hs = [] ∨ ∃ a, A = some a ∧ a.block < B ∧ ∀ (k : Nat) x, hs[k]? = some x → HkAt w B a k x

section
variable {w w' : World} {B B' : Nat} {A A' : Option Addr} {n c n' c' : Nat} {h : HU} {hs : List HU}
theorem HV.below (v : HV w B A n c A' n' c' h) (hb : Below B w w') : HV w' B A n c A' n' c' h := ⟨v.l, v.l', v.k, v.k', v.m, v.m', Rd.below v.r hb, Rd.below v.r' hb, v.p⟩
theorem HV.up (v : HV w B A n c A' n' c' h) (hB : B ≤ B') : HV w B' A n c A' n' c' h := ⟨v.l, v.l', v.k, v.k', v.m, v.m', Rd.up v.r hB, Rd.up v.r' hB, v.p⟩
theorem HV.drewN (v : HV w B A n c A' n' c' h) (d : Nat) : HV (w.drewN d) B A n c A' n' c' h := ⟨v.l, v.l', v.k, v.k', v.m, v.m', Rd.drewN v.r d, Rd.drewN v.r' d, v.p⟩
theorem HkAt.below {a : Addr} {k : Nat} (x : HkAt w B a k h) (ha : a.block < B) (hb : Below B w w') : HkAt w' B a k h := by
  obtain ⟨c0, A, c, A', c', c1, c2, v⟩ := x
  exact ⟨(hb.cell (by rw [add_block]; exact ha)).trans c0, A, c, A', c', (hb.cell (by show (a.add (k * 3)).block < B; rw [add_block]; exact ha)).trans c1, (hb.cell (by show (a.add (k * 3)).block < B; rw [add_block]; exact ha)).trans c2, v.below hb⟩
theorem HkAt.up {a : Addr} {k : Nat} (x : HkAt w B a k h) (hB : B ≤ B') : HkAt w B' a k h := by
  obtain ⟨c0, A, c, A', c', c1, c2, v⟩ := x
  exact ⟨c0, A, c, A', c', c1, c2, v.up hB⟩
theorem RdH.below (h : RdH w B A hs) (hb : Below B w w') : RdH w' B A hs := by
  rcases h with h | ⟨a, e, hlt, hc⟩
  · exact .inl h
  · exact .inr ⟨a, e, hlt, fun k x hx => (hc k x hx).below hlt hb⟩
theorem RdH.up (h : RdH w B A hs) (hB : B ≤ B') : RdH w B' A hs := by
  rcases h with h | ⟨a, e, hlt, hc⟩
  · exact .inl h
  · exact .inr ⟨a, e, by omega, fun k x hx => (hc k x hx).up hB⟩
theorem RdH.at_ (h : RdH w B A hs) {k : Nat} (hk : k < hs.length) : ∃ a, A = some a ∧ a.block < B ∧ HkAt w B a k hs[k] := by
  rcases h with rfl | ⟨a, e, hlt, hc⟩
  · exact absurd hk (by simp)
  · exact ⟨a, e, hlt, hc k _ (List.getElem?_eq_getElem hk)⟩
end

def mayH (h : HU) : Bool := decide (0 ≤ h.pos) && decide (h.pos ≤ 1048576) && (allMay h.old && allMay h.new)
def sameH (g h : HU) : Bool := decide (g.pos = h.pos) && (decide (g.old = h.old) && decide (g.new = h.new))

end Hk
end Go.Proofs.Ytkpgkbllcdpobaa

namespace Go.Proofs.Ytkpgkbllcdpobaa
open Go.RowKit
set_option linter.unusedVariables false
namespace Tx

def light (ls : List (List UInt8)) (most : Nat) : Bool := decide (ls.length ≤ most) && ls.all fun l => decide (l.length ≤ 200)

theorem light_false {ls : List (List UInt8)} {most : Nat} {x : List UInt8} (hm : x ∈ ls) (h : 200 < x.length) : light ls most = false := by
  have : (ls.all fun l => decide (l.length ≤ 200)) = false := by rw [List.all_eq_false]; exact ⟨x, hm, by simp; omega⟩
  simp [light, this]
theorem light_true {ls : List (List UInt8)} {most : Nat} (hl : ls.length ≤ most) (h : ∀ x ∈ ls, x.length ≤ 200) : light ls most = true := by
  have : (ls.all fun l => decide (l.length ≤ 200)) = true := by rw [List.all_eq_true]; intro x hx; simpa using h x hx
  simp [light, this, hl]

set_option maxHeartbeats 400000 in
theorem Light (A : Option Addr) (cap n B most : Nat) (ls : List (List UInt8)) (w : World) (hn : ls.length = n) (hnm : n ≤ maxLen) (hR : RdS w B A ls) (hm : most ≤ 1000) :
    Calls Try.prog 9 #[.slice A n cap, .int .i64 most] w fun e w' => e = .returned (.bool (light ls most)) ∧ w = w' := by
  unfold maxLen at hnm
  have HN := Lib.hid hn; clear hn
  by_cases h1 : most < n
  · have HF : Hid (light ls most = false) := Lib.hid (by unfold light; rw [HN.out]; simp; omega)
    go_enter Try.func9, Try.ntmps9
    go_wp2
    go_ret
    exact ⟨ret_bool HF.out.symm, rfl⟩
  · go_enter Try.func9, Try.ntmps9
    go_wp2
    go_loop [5] (fun i => ∃ k : Nat, k ≤ n ∧ i = .int .i64 k ∧ ∀ x ∈ ls.take k, x.length ≤ 200) (fun i => n - (intOf i).toNat)
    case atStart => exact ⟨0, Nat.zero_le _, rfl, by simp⟩
    case round =>
      obtain ⟨k, hk, rfl, hall⟩ := hrel
      have HA := Lib.hid hall; clear hall
      by_cases hlt : k < n
      · have hkl : k < ls.length := by rw [HN.out]; exact hlt
        obtain ⟨a, rfl, hcell⟩ := hR.at' hkl
        have hmem := List.getElem_mem hkl
        have HT := Lib.hid (take_snoc' hkl)
        generalize hx : ls[k] = x at *
        have HX := Lib.hid hx; clear hx
        obtain ⟨s, hs, hsl⟩ : ∃ s : ByteArray, strV x = .string s ∧ s.size = x.length := ⟨_, rfl, size_strV x⟩
        rw [hs] at hcell
        have HS := Lib.hid hsl; clear hsl hs
        by_cases hb : 200 < s.size
        · have HF := Lib.hid (light_false (most := most) hmem (by rw [← HS.out]; exact hb))
          go_wp2
          go_ret
          exact ⟨ret_bool HF.out.symm, rfl⟩
        · go_wp2
          go_round
          case rel => exact ⟨k + 1, by omega, by go_num, by rw [HT.out]; intro c hc; rcases List.mem_append.1 hc with h | h; exact HA.out c h; simp at h; rw [h]; have := HS.out; omega⟩
          case measure => simp [intOf]; omega
      · have HF : Hid (light ls most = true) := Lib.hid (light_true (by rw [HN.out]; omega) (by have := HA.out; rw [List.take_of_length_le (by rw [HN.out]; omega)] at this; exact this))
        go_wp2
        go_ret
        exact ⟨ret_bool HF.out.symm, rfl⟩

theorem take_eq_succ {α : Type} {xs ys : List α} {k : Nat} (hx : k < xs.length) (hy : k < ys.length) (h : xs.take k = ys.take k) (e : xs[k] = ys[k]) : xs.take (k + 1) = ys.take (k + 1) := by
  rw [take_snoc' hx, take_snoc' hy, h, e]

end Tx
end Go.Proofs.Ytkpgkbllcdpobaa

namespace Go.Proofs.Ytkpgkbllcdpobaa
open Go.RowKit
set_option linter.unusedVariables false
namespace Tx

/-- How Same ends: some draws, and whether the lists are one. -/
def SameEnd (w : World) (b : Bool) (e : Ending) (w' : World) : Prop := e = .returned (.bool b) ∧ ∃ k, w' = w.drewN k

theorem same_step {xs ys : List (List UInt8)} {k : Nat} (hx : k < xs.length) (hy : k < ys.length) (h : xs.take k = ys.take k) :
    (¬ xs[k] = ys[k] → decide (xs = ys) = false) ∧ (xs[k] = ys[k] → xs.take (k + 1) = ys.take (k + 1)) :=
  ⟨fun hne => decide_eq_false (fun e => hne (by subst e; rfl)), fun e => take_eq_succ hx hy h e⟩

set_option maxHeartbeats 400000 in
theorem Same (A A' : Option Addr) (cap cap' n n' B : Nat) (ls ms : List (List UInt8)) (w : World) (hn : ls.length = n) (hn' : ms.length = n') (hnm : n ≤ maxLen) (hR : RdS w B A ls) (hR' : RdS w B A' ms) :
    Calls Try.prog 13 #[.slice A n cap, .slice A' n' cap'] w (SameEnd w (decide (ls = ms))) := by
  unfold maxLen at hnm
  have HN := Lib.hid hn; clear hn
  have HN' := Lib.hid hn'; clear hn'
  by_cases h1 : n = n'
  · subst h1
    go_enter Try.func13, Try.ntmps13
    go_wp2
    go_loopw [5] (fun i wr => ∃ k : Nat, k ≤ n ∧ i = .int .i64 k ∧ ls.take k = ms.take k ∧ ∃ d, wr = w.drewN d) (fun i _ => n - (intOf i).toNat)
    case atStart => exact ⟨0, Nat.zero_le _, rfl, by simp, 0, rfl⟩
    case round =>
      obtain ⟨k, hk, rfl, hall, d, rfl⟩ := hrel
      have HA := Lib.hid hall; clear hall
      by_cases hlt : k < n
      · have hkl : k < ls.length := by rw [HN.out]; exact hlt
        have hkm : k < ms.length := by rw [HN'.out]; exact hlt
        obtain ⟨a, rfl, hcell⟩ := hR.at' hkl
        obtain ⟨a', rfl, hcell'⟩ := hR'.at' hkm
        have HD := Lib.hid (same_step hkl hkm HA.out)
        have hki : (k : Int) < (n : Int) := by omega
        go_wp2
        go_quiet (fail)
        go_wp2
        · have hb : (!ls[k] == ms[k]) = true := by assumption
          go_ret
          exact ⟨ret_bool (HD.out.1 (by simpa using hb)).symm, d + nq, by simp⟩
        · have hb : (!ls[k] == ms[k]) = false := by assumption
          refine ⟨⟨k + 1, by omega, by go_num, HD.out.2 (by simpa using hb), _, rfl⟩, by simp [intOf]; omega⟩
      · have HD : Hid (decide (ls = ms) = true) := Lib.hid (by
          have := HA.out
          rw [List.take_of_length_le (by rw [HN.out]; omega), List.take_of_length_le (by rw [HN'.out]; omega)] at this
          exact decide_eq_true this)
        go_wp2
        go_ret
        exact ⟨ret_bool HD.out.symm, _, rfl⟩
  · have HD : Hid (decide (ls = ms) = false) := Lib.hid (decide_eq_false (fun e => h1 (by rw [← HN.out, ← HN'.out, e])))
    have hne : ((n : Int) != (n' : Int)) = true := by rw [bne_iff_ne]; omega
    go_enter Try.func13, Try.ntmps13
    go_wp2
    go_ret
    exact ⟨ret_bool HD.out.symm, 0, rfl⟩

end Tx
end Go.Proofs.Ytkpgkbllcdpobaa

namespace Go.Proofs.Ytkpgkbllcdpobaa
open Go.RowKit
namespace Tx

set_option maxHeartbeats 400000 in
theorem stringslite_IndexByte (s : ByteArray) (c : Int) (w : World) :
    Calls Try.prog 47 #[.string s, .int .u8 c] w fun e w' => e = .returned (.int .i64 (Lib.indexByte s.data.toList c.toNat.toUInt8)) ∧ w = w' := by
  go_enter Try.func47, Try.ntmps47
  go_wp2
  rw [run_callFunc_extern Try.func50 (by kernel_rfl) (by kernel_rfl) (by kernel_rfl) (e := Extern.BytealgIndexByte.indexByte) (by kernel_rfl), Lib.run_indexByteString]
  simp only [Result.andThen]
  rw [Oper.upon_value]
  go_wp2
  go_ret
  exact ⟨rfl, rfl⟩

set_option maxHeartbeats 400000 in
theorem strings_IndexByte (s : ByteArray) (c : Int) (w : World) :
    Calls Try.prog 44 #[.string s, .int .u8 c] w fun e w' => e = .returned (.int .i64 (Lib.indexByte s.data.toList c.toNat.toUInt8)) ∧ w = w' := by
  go_enter Try.func44, Try.ntmps44
  go_wp2_with (go_at_call 47; refine (stringslite_IndexByte _ _ _).mono ?_; rintro e w' ⟨rfl, rfl⟩)
  go_ret
  exact ⟨rfl, rfl⟩

set_option maxHeartbeats 400000 in
theorem May (s : ByteArray) (w : World) :
    Calls Try.prog 37 #[.string s] w fun e w' => e = .returned (.bool (may s.data.toList)) ∧ w = w' := by
  have hl : s.data.toList.length = s.size := by simp only [ByteArray.size, Array.length_toList]
  have H := Lib.hid hl; clear hl
  have hi := indexByte_neg s.data.toList 10
  have HI := Lib.hid hi; clear hi
  by_cases h : s.size ≤ 80
  · go_enter Try.func37, Try.ntmps37
    go_wp2_with (go_at_call 44; refine (strings_IndexByte _ _ _).mono ?_; rintro e w' ⟨rfl, rfl⟩)
    go_ret
    exact ⟨ret_bool (by unfold may; rw [H.out, ← HI.out]; simp [h]), rfl⟩
  · go_enter Try.func37, Try.ntmps37
    go_wp2
    go_ret
    exact ⟨ret_bool (by unfold may; rw [H.out]; simp [h]), rfl⟩

theorem MayV (x : List UInt8) (w : World) :
    Calls Try.prog 37 #[strV x] w fun e w' => e = .returned (.bool (may x)) ∧ w = w' := by
  unfold strV
  have := May ⟨x.toArray⟩ w
  simpa using this

end Tx
end Go.Proofs.Ytkpgkbllcdpobaa

namespace Go.Proofs.Ytkpgkbllcdpobaa
open Go.RowKit
namespace Tx

theorem allMay_false {ls : List (List UInt8)} {x : List UInt8} (hm : x ∈ ls) (h : may x = false) : allMay ls = false := by
  simp [allMay, not_all_of hm h]
theorem allMay_true {ls : List (List UInt8)} (hl : ls.length ≤ 200) (h : ∀ x ∈ ls, may x = true) : allMay ls = true := by
  simp [allMay, all_of h, hl]
set_option maxHeartbeats 400000 in
theorem All (A : Option Addr) (cap n B : Nat) (ls : List (List UInt8)) (w : World) (hn : ls.length = n) (hR : RdS w B A ls) :
    Calls Try.prog 28 #[.slice A n cap] w fun e w' => e = .returned (.bool (allMay ls)) ∧ w = w' := by
  have HN := Lib.hid hn; clear hn
  by_cases h1 : 200 < n
  · have HF : Hid (allMay ls = false) := Lib.hid (by unfold allMay; rw [HN.out]; simp; omega)
    go_enter Try.func28, Try.ntmps28
    go_wp2
    go_ret
    exact ⟨ret_bool HF.out.symm, rfl⟩
  · go_enter Try.func28, Try.ntmps28
    go_wp2
    go_loop [10] (fun i => ∃ k : Nat, k ≤ n ∧ i = .int .i64 k ∧ ∀ x ∈ ls.take k, may x = true) (fun i => n - (intOf i).toNat)
    case atStart => exact ⟨0, Nat.zero_le _, rfl, by simp⟩
    case round =>
      obtain ⟨k, hk, rfl, hall⟩ := hrel
      have HA := Lib.hid hall; clear hall
      by_cases hlt : k < n
      · have hkl : k < ls.length := by rw [HN.out]; exact hlt
        obtain ⟨a, rfl, hcell⟩ := hR.at' hkl
        cases hb : may ls[k] with
        | true =>
          go_wp2_with fail
          refine (MayV ls[k] _).mono ?_
          rintro e w' ⟨rfl, rfl⟩
          go_wp2
          go_round
          case rel => exact ⟨k + 1, by omega, by go_num, by rw [take_snoc' hkl]; intro c hc; rcases List.mem_append.1 hc with h | h; exact HA.out c h; simp at h; rw [h]; exact hb⟩
          case measure => simp [intOf]; omega
        | false =>
          have HF := Lib.hid (allMay_false (List.getElem_mem hkl) hb)
          go_wp2_with fail
          refine (MayV ls[k] _).mono ?_
          rintro e w' ⟨rfl, rfl⟩
          go_wp2
          go_ret
          exact ⟨ret_bool HF.out.symm, rfl⟩
      · have HF : Hid (allMay ls = true) := Lib.hid (allMay_true (by rw [HN.out]; omega) (by have := HA.out; rw [List.take_of_length_le (by rw [HN.out]; omega)] at this; exact this))
        go_wp2
        go_ret
        exact ⟨ret_bool HF.out.symm, rfl⟩

end Tx
end Go.Proofs.Ytkpgkbllcdpobaa

namespace Go.Proofs.Ytkpgkbllcdpobaa
open Go.RowKit
set_option linter.unusedVariables false
namespace Tx

/-- All blocks of another type than e are as they were. -/
def Typ (e : TypeId) (w w' : World) : Prop := ∀ (k : Nat) c t f, w.heap[k]? = some (.cells c t f) → t ≠ e → w'.heap[k]? = some (.cells c t f)
theorem Typ.refl (e : TypeId) (w : World) : Typ e w w := fun _ _ _ _ h _ => h
theorem Typ.trans {e : TypeId} {w w1 w2 : World} (h : Typ e w w1) (h' : Typ e w1 w2) : Typ e w w2 := fun k c t f hk ht => h' k c t f (h k c t f hk ht) ht
theorem typ_grown {e : TypeId} {base size n : Nat} {v : Value} {xs : List Value} {w w' : World} (h : w.ownsRow base e size v n xs) (hg : w.grownBy w' v.ownBlock) : Typ e w w' := by
  intro k c t f hk ht
  refine (hg.block k (Array.getElem?_eq_some_iff.1 hk).1 (fun eq => ?_)).trans hk
  rcases h.2 with ⟨rfl, _⟩ | ⟨g, cap, cur, rfl, _, hg', _⟩
  · simp [Value.ownBlock] at eq
  · obtain rfl : k = g := by simpa [Value.ownBlock] using eq
    rw [hk] at hg'; cases hg'; exact ht rfl
section
variable {P : Program} {w : World}

end

section
variable {P : Program} {w : World}
/-- An append of cells that are read, nil let in, onto nothing: a row of one's own. -/
theorem run_nil {B m c bytes : Nat} {t ty e : TypeId} {i : TypeInfo} {z : Value} {news : List Value} {A : Option Addr} (ht : P.underlying t = some (.slice e)) (hi : P.info? e = some i) (hz : i.zero = some z)
    (hsize : i.size = 1) (hby : i.bytes = bytes) (hzs : z.cells.size = 1) (hl : news.length = m) (hr : Rd w B A news) (h1 : ∀ u ∈ news, u.oneCell' = true) (h63 : m ≤ maxLen) (hbytes : m * bytes ≤ 140737488355328) :
    ∃ A' c' w', (Builtin.append_ #[t, t] ty #[.slice none 0 0, .slice A m c]).run P w = .ok (.slice A' m c') w' ∧ w'.ownsRow w.heap.size e 1 (.slice A' m c') m news ∧ w.grownBy w' none := by
  by_cases hm : m = 0
  · have hnil : news = [] := List.eq_nil_of_length_eq_zero (by omega)
    subst hnil; subst hm
    exact ⟨none, 0, w, run_app_empty ht hi hsize (Nat.le_refl _) rfl, World.ownsRow_nil w _ e 1, World.grownBy.refl w none⟩
  · obtain ⟨a, rfl, hcells⟩ : ∃ a, A = some a ∧ ∀ j u, news[j]? = some u → w.cell? (a.add j) = some u := by
      rcases hr with h | ⟨a, h, _, hc⟩
      · subst h; simp at hl; omega
      · exact ⟨a, h, hc⟩
    obtain ⟨v', w', h2, h3, h4, _⟩ := run_append_own (P := P) w w.heap.size t ty e i z 1 bytes ht hi hz hsize hby hzs (by decide) (.slice none 0 0) 0 [] (World.ownsRow_nil w _ e 1) a m c news (by omega) hcells h1 (by omega) (by rw [Nat.zero_add]; exact hbytes) (Nat.le_refl _)
    rw [Nat.zero_add, List.nil_append] at h3
    obtain ⟨A', c', rfl, _⟩ := rd_of_own h3
    exact ⟨A', c', w', h2, h3, h4⟩

theorem wpList_nil' {ops : Array Oper} {rest : List Oper} {o : Oper} {a : Act} {Q : Exit → Act → World → Prop} (hgd : o.guard = none) (s x : Operand) (t : TypeId)
    (ho : o.op = .call { callee := .builtin .append, args := #[s, x], argTypes := #[t, t] })
    (e : TypeId) (i : TypeInfo) (z : Value) (bytes : Nat) (ht : P.underlying t = some (.slice e)) (hi : P.info? e = some i) (hz : i.zero = some z)
    (hsize : i.size = 1) (hby : i.bytes = bytes) (hzs : z.cells.size = 1) (hs : a.eval s = .slice none 0 0)
    (B : Nat) (A : Option Addr) (m c : Nat) (news : List Value) (hx : a.eval x = .slice A m c) (hl : news.length = m) (hr : Rd w B A news) (h1 : ∀ u ∈ news, u.oneCell' = true)
    (h63 : m ≤ maxLen) (hbytes : m * bytes ≤ 140737488355328)
    (h : ∀ A' c' w', w'.ownsRow w.heap.size e 1 (.slice A' m c') m news → w.grownBy w' none → wpList P ops Q rest (a.put o.dst (.slice A' m c')) w') : wpList P ops Q (o :: rest) a w := by
  refine wpList_plain hgd fun K hK => ?_
  obtain ⟨A', c', w', hr, h2, h3⟩ := run_nil (P := P) (c := c) (ty := o.type) ht hi hz hsize hby hzs hl hr h1 h63 hbytes
  unfold Oper.wp execOp
  simp only [ho, resolve, invoke, builtin, Sem.run_bind, Sem.run_pure, Result.andThen_ok, List.map_toArray, List.map_cons, List.map_nil, hs, hx, hr]
  exact hK _ _ (h A' c' w' h2 h3)

theorem step_nil {ops : Array Oper} {o : Oper} {a : Act} {K : Act → World → Prop} {Q : Exit → Act → World → Prop} {E : Prop} (hgd : o.guard = none) (s x : Operand) (t : TypeId)
    (ho : o.op = .call { callee := .builtin .append, args := #[s, x], argTypes := #[t, t] })
    (e : TypeId) (i : TypeInfo) (z : Value) (bytes : Nat) (ht : P.underlying t = some (.slice e)) (hi : P.info? e = some i) (hz : i.zero = some z)
    (hsize : i.size = 1) (hby : i.bytes = bytes) (hzs : z.cells.size = 1) (hs : a.eval s = .slice none 0 0)
    (B : Nat) (A : Option Addr) (m c : Nat) (news : List Value) (hx : a.eval x = .slice A m c) (hl : news.length = m) (hr : Rd w B A news) (h1 : ∀ u ∈ news, u.oneCell' = true)
    (h63 : m ≤ maxLen) (hbytes : m * bytes ≤ 140737488355328)
    (h : ∀ A' c' w', w'.ownsRow w.heap.size e 1 (.slice A' m c') m news → w.grownBy w' none → K (a.put o.dst (.slice A' m c')) w') :
    if Region.wanted o (yielded ops a.tmps) = true then Oper.wp P o a w K Q else E := by
  have hw : Region.wanted o (yielded ops a.tmps) = true := by simp [Region.wanted, hgd]
  rw [if_pos hw]
  obtain ⟨A', c', w', hr, h2, h3⟩ := run_nil (P := P) (c := c) (ty := o.type) ht hi hz hsize hby hzs hl hr h1 h63 hbytes
  unfold Oper.wp execOp
  simp only [ho, resolve, invoke, builtin, Sem.run_bind, Sem.run_pure, Result.andThen_ok, List.map_toArray, List.map_cons, List.map_nil, hs, hx, hr]
  exact h A' c' w' h2 h3
end

def OwnEnd (w : World) (n : Nat) (xs : List Value) (e : Ending) (w' : World) : Prop :=
  ∃ A' c', e = .returned (.slice A' n c') ∧ w'.ownsRow w.heap.size 9 1 (.slice A' n c') n xs ∧ w.grownBy w' none

end Tx
end Go.Proofs.Ytkpgkbllcdpobaa

namespace Go.Proofs.Ytkpgkbllcdpobaa
open Go.RowKit
set_option linter.unusedVariables false
namespace Hk
open Tx Df

set_option maxHeartbeats 400000 in
theorem Equal (A A' : Option Addr) (cap cap' n n' B : Nat) (ls ms : List (List UInt8)) (w : World) (hn : ls.length = n) (hn' : ms.length = n') (hnm : n ≤ maxLen) (hR : RdS w B A ls) (hR' : RdS w B A' ms) :
    Calls Try.prog 29 #[.slice A n cap, .slice A' n' cap'] w (SameEnd w (decide (ls = ms))) := by
  unfold maxLen at hnm
  have HN := Lib.hid hn; clear hn
  have HN' := Lib.hid hn'; clear hn'
  by_cases h1 : n = n'
  · subst h1
    go_enter Try.func29, Try.ntmps29
    go_wp2
    go_loopw [13] (fun i wr => ∃ k : Nat, k ≤ n ∧ i = .int .i64 k ∧ ls.take k = ms.take k ∧ ∃ d, wr = w.drewN d) (fun i _ => n - (intOf i).toNat)
    case atStart => exact ⟨0, Nat.zero_le _, rfl, by simp, 0, rfl⟩
    case round =>
      obtain ⟨k, hk, rfl, hall, d, rfl⟩ := hrel
      have HA := Lib.hid hall; clear hall
      by_cases hlt : k < n
      · have hkl : k < ls.length := by rw [HN.out]; exact hlt
        have hkm : k < ms.length := by rw [HN'.out]; exact hlt
        obtain ⟨a, rfl, hcell⟩ := hR.at' hkl
        obtain ⟨a', rfl, hcell'⟩ := hR'.at' hkm
        have HD := Lib.hid (same_step hkl hkm HA.out)
        have hki : (k : Int) < (n : Int) := by omega
        go_wp2
        go_quiet (fail)
        go_wp2
        · have hb : (!ls[k] == ms[k]) = true := by assumption
          go_ret
          exact ⟨ret_bool (HD.out.1 (by simpa using hb)).symm, d + nq, by simp⟩
        · have hb : (!ls[k] == ms[k]) = false := by assumption
          refine ⟨⟨k + 1, by omega, by go_num, HD.out.2 (by simpa using hb), _, rfl⟩, by simp [intOf]; omega⟩
      · have HD : Hid (decide (ls = ms) = true) := Lib.hid (by
          have := HA.out
          rw [List.take_of_length_le (by rw [HN.out]; omega), List.take_of_length_le (by rw [HN'.out]; omega)] at this
          exact decide_eq_true this)
        go_wp2
        go_ret
        exact ⟨ret_bool HD.out.symm, _, rfl⟩
  · have HD : Hid (decide (ls = ms) = false) := Lib.hid (decide_eq_false (fun e => h1 (by rw [← HN.out, ← HN'.out, e])))
    have hne : ((n : Int) != (n' : Int)) = true := by rw [bne_iff_ne]; omega
    go_enter Try.func29, Try.ntmps29
    go_wp2
    go_ret
    exact ⟨ret_bool HD.out.symm, 0, rfl⟩

/-- How a test of hunks ends. -/
def TestEnd (w : World) (b : Bool) (e : Ending) (w' : World) : Prop := e = .returned (.bool b) ∧ Below w.heap.size w w'

theorem rd_alloc {w : World} {B : Nat} {A : Option Addr} {xs : List Value} (h : Rd w B A xs) (hB : B ≤ w.heap.size) (o : Obj) : Rd (w.alloc o) B A xs := h.below ((Below.refl _ _).alloc hB o)

set_option maxHeartbeats 400000 in
theorem May (A : Option Addr) (n c : Nat) (A' : Option Addr) (n' c' B : Nat) (h : HU) (w : World) (hB : B ≤ w.heap.size) (hv : HV w B A n c A' n' c' h) :
    Calls Try.prog 18 #[hkV h.pos A n c A' n' c'] w (TestEnd w (mayH h)) := by
  obtain ⟨l, l', k, k', m, m', r, r', p⟩ := hv
  have HL := Lib.hid l; have HL' := Lib.hid l'; clear l l'
  have HM : Hid (mayH h = (decide (0 ≤ h.pos) && decide (h.pos ≤ 1048576) && (allMay h.old && allMay h.new))) := Lib.hid rfl
  have HP := Lib.hid p; clear p
  generalize mayH h = mh at *
  generalize h.pos = q at *
  by_cases h0 : 0 ≤ q
  · by_cases h1 : q ≤ 1048576
    · have HM1 : Hid (mh = (allMay h.old && allMay h.new)) := Lib.hid (by rw [HM.out, decide_eq_true h0, decide_eq_true h1]; rfl)
      clear HM
      cases ho : allMay h.old with
      | true =>
        have HO := Lib.hid ho; clear ho
        go_enter Try.func18, Try.ntmps18
        go_wp2_with fail
        refine (All _ _ _ B h.old _ HL.out (rd_alloc r hB _)).mono ?_
        rw [HO.out]
        rintro e w' ⟨rfl, rfl⟩
        go_wp2_with fail
        refine (All _ _ _ B h.new _ HL'.out (rd_alloc r' hB _)).mono ?_
        rintro e w' ⟨rfl, rfl⟩
        go_wp2
        go_ret
        exact ⟨ret_bool (by rw [HM1.out, HO.out]; simp), (Below.refl _ _).alloc (Nat.le_refl _) _⟩
      | false =>
        have HO := Lib.hid ho; clear ho
        go_enter Try.func18, Try.ntmps18
        go_wp2_with fail
        refine (All _ _ _ B h.old _ HL.out (rd_alloc r hB _)).mono ?_
        rw [HO.out]
        rintro e w' ⟨rfl, rfl⟩
        go_wp2
        go_ret
        exact ⟨ret_bool (by rw [HM1.out, HO.out]; simp), (Below.refl _ _).alloc (Nat.le_refl _) _⟩
    · have HM1 : Hid (mh = false) := Lib.hid (by rw [HM.out, decide_eq_false h1]; simp)
      clear HM
      go_enter Try.func18, Try.ntmps18
      go_wp2
      go_ret
      exact ⟨ret_bool (by rw [HM1.out]), (Below.refl _ _).alloc (Nat.le_refl _) _⟩
  · have HM1 : Hid (mh = false) := Lib.hid (by rw [HM.out, decide_eq_false h0]; simp)
    clear HM
    go_enter Try.func18, Try.ntmps18
    go_wp2
    go_ret
    exact ⟨ret_bool (by rw [HM1.out]), (Below.refl _ _).alloc (Nat.le_refl _) _⟩

/-- Two boxes. -/
theorem below_two (w : World) (o o' : Obj) (d : Nat) : Below w.heap.size w (((w.alloc o).alloc o').drewN d) := below_drewN (((Below.refl _ _).alloc (Nat.le_refl _) o).alloc (by simp) o') d
theorem rd_two {w : World} {B : Nat} {A : Option Addr} {xs : List Value} (h : Rd w B A xs) (hB : B ≤ w.heap.size) (o o' : Obj) (d : Nat) : Rd (((w.alloc o).alloc o').drewN d) B A xs := h.below ((below_two w o o' d).mono hB)

set_option maxHeartbeats 1000000 in
theorem SameH (A : Option Addr) (n c : Nat) (A' : Option Addr) (n' c' : Nat) (D : Option Addr) (m k : Nat) (D' : Option Addr) (m' k' B : Nat) (h g : HU) (w : World) (hB : B ≤ w.heap.size) (hv : HV w B A n c A' n' c' h) (gv : HV w B D m k D' m' k' g) :
    Calls Try.prog 19 #[hkV h.pos A n c A' n' c', hkV g.pos D m k D' m' k'] w (TestEnd w (sameH h g)) := by
  have HL := Lib.hid hv.l; have HL' := Lib.hid hv.l'; have GL := Lib.hid gv.l; have GL' := Lib.hid gv.l'
  have hm := hv.m; have hm' := hv.m'
  have R := Lib.hid hv.r; have R' := Lib.hid hv.r'; have Q := Lib.hid gv.r; have Q' := Lib.hid gv.r'
  clear hv gv
  obtain ⟨b, hb⟩ : ∃ b, sameH h g = b := ⟨_, rfl⟩
  rw [hb]
  have HS : Hid (b = (decide (h.pos = g.pos) && (decide (h.old = g.old) && decide (h.new = g.new)))) := Lib.hid (by rw [← hb]; rfl)
  clear hb
  generalize h.pos = p at *
  generalize g.pos = q at *
  by_cases hp : p = q
  · subst hp
    have HS1 : Hid (b = (decide (h.old = g.old) && decide (h.new = g.new))) := Lib.hid (by rw [HS.out, decide_eq_true rfl]; rfl)
    clear HS
    go_enter Try.func19, Try.ntmps19
    go_wp2_with fail
    refine (Equal _ _ _ _ _ _ B h.old g.old _ HL.out GL.out hm (rd_two R.out hB _ _ 0) (rd_two Q.out hB _ _ 0)).mono ?_
    rintro e w' ⟨rfl, d, rfl⟩
    cases ho : decide (h.old = g.old) with
    | true =>
      have HO := Lib.hid ho; clear ho
      go_wp2_with fail
      refine (Equal _ _ _ _ _ _ B h.new g.new _ HL'.out GL'.out hm' (rd_two R'.out hB _ _ _) (rd_two Q'.out hB _ _ _)).mono ?_
      rintro e w' ⟨rfl, d', rfl⟩
      go_wp2
      go_ret
      exact ⟨ret_bool (by rw [HS1.out, HO.out]; simp), by simpa using below_two w _ _ _⟩
    | false =>
      have HO := Lib.hid ho; clear ho
      go_wp2
      go_ret
      exact ⟨ret_bool (by rw [HS1.out, HO.out]; simp), by simpa using below_two w _ _ _⟩
  · have HS1 : Hid (b = false) := Lib.hid (by rw [HS.out, decide_eq_false hp]; rfl)
    clear HS
    have hne : (p == q) = false := by rw [beq_eq_false_iff_ne]; exact hp
    clear hp
    go_enter Try.func19, Try.ntmps19
    go_wp2
    go_ret
    exact ⟨ret_bool (by rw [HS1.out]), ((Below.refl _ _).alloc (Nat.le_refl _) _).alloc (by simp) _⟩

theorem own (A : Option Addr) (c n B : Nat) (ls : List (List UInt8)) (w : World) (hn : ls.length = n) (hln : n ≤ 1000000) (hR : RdS w B A ls) :
    Calls Try.prog 27 #[.slice A n c] w (OwnEnd w n (ls.map strV)) := by
  obtain ⟨j0, hj, hy0, hy1, hy2⟩ := info_parts info_str
  have HN := Lib.hid hn; clear hn
  go_enter Try.func27, Try.ntmps27
  go_wp2_with (at_builtin; refine wpList_nil' rfl (.const (.slice none 0 0)) (.tmp 3) 22 rfl 9 j0 (.string ⟨#[]⟩) 16 Try.underlying22 hj hy0 hy1 hy2 rfl rfl B A n c (ls.map strV) rfl (by rw [List.length_map]; exact HN.out) hR (strs_one _) (by unfold maxLen; omega) (by omega) ?_; intro A' c' w' hA hg)
  go_ret
  exact ⟨A', c', rfl, hA, hg⟩

end Hk
end Go.Proofs.Ytkpgkbllcdpobaa

namespace Go.Proofs.Ytkpgkbllcdpobaa
open Go.RowKit
set_option linter.unusedVariables false
namespace Tx

/-- The block b holds the cells cs, of type t. -/
def Blk (W : World) (b : Nat) (t : TypeId) (cs : Array Value) : Prop := W.heap[b]? = some (.cells cs t (0, 0))

section
variable {W W' : World} {b : Nat} {t : TypeId} {cs : Array Value}
theorem Blk.lt (h : Blk W b t cs) : b < W.heap.size := (Array.getElem?_eq_some_iff.1 h).1
theorem Blk.new (W : World) (t : TypeId) (cs : Array Value) : Blk (W.alloc (.cells cs t)) W.heap.size t cs := World.alloc_heap_new W _
theorem Blk.gr {row : Option Nat} (h : Blk W b t cs) (hg : W.grownBy W' row) (hne : some b ≠ row) : Blk W' b t cs := (hg.block b h.lt hne).trans h
theorem Blk.alloc (h : Blk W b t cs) (o : Obj) : Blk (W.alloc o) b t cs := h.gr (World.grownBy_alloc W o none) (by simp)
theorem Blk.below {B : Nat} (h : Blk W b t cs) (hb : Below B W W') (hlt : b < B) : Blk W' b t cs := (hb.block b hlt).trans h
theorem Blk.drewN (h : Blk W b t cs) (d : Nat) : Blk (W.drewN d) b t cs := h
theorem Blk.cell (h : Blk W b t cs) (j : Nat) {u : Value} (hu : cs[j]? = some u) : W.cell? ⟨b, j, none⟩ = some u := by
  simp [World.cell?, show W.heap[b]? = _ from h, hu]
theorem Blk.frozen (h : Blk W b t cs) (j : Nat) : W.frozen? ⟨b, j, none⟩ = false := by simp [World.frozen?, show W.heap[b]? = _ from h]
theorem Blk.set (h : Blk W b t cs) (j : Nat) (v : Value) : Blk (W.setCell ⟨b, j, none⟩ v) b t (cs.setIfInBounds j v) := by
  obtain ⟨hlt, hk⟩ := Array.getElem?_eq_some_iff.1 h
  show (W.heap.modify b _)[b]? = _
  rw [Array.getElem?_eq_getElem (by rw [Array.size_modify]; exact hlt), Array.getElem_modify_self, hk]
  rfl
theorem grownBy_set (W : World) (b j : Nat) (v : Value) : W.grownBy (W.setCell ⟨b, j, none⟩ v) (some b) :=
  ⟨rfl, rfl, rfl, (KeepsWalks.setCell W _ v).size, fun k _ hk => Below.heap_setCell _ _ _ k (fun e => hk (by rw [e]))⟩
theorem Blk.set_ne {b' : Nat} (h : Blk W b t cs) (hne : b ≠ b') (j : Nat) (v : Value) : Blk (W.setCell ⟨b', j, none⟩ v) b t cs := h.gr (grownBy_set W b' j v) (by simpa using hne)
end

theorem own_gr {W W' : World} {base e size n : Nat} {v : Value} {xs : List Value} (h : W.ownsRow base e size v n xs) (hg : W.grownBy W' none) : W'.ownsRow base e size v n xs := h.kept hg (Classical.em _)
/-- A row of one's own is no block of another type. -/
theorem Blk.not_row {W : World} {b : Nat} {t e : TypeId} {cs : Array Value} (h : Blk W b t cs) (hte : t ≠ e) {base size k : Nat} {v : Value} {xs : List Value} (hr : W.ownsRow base e size v k xs) : some b ≠ v.ownBlock := by
  rcases hr.2 with ⟨rfl, _⟩ | ⟨g, cap, cur, rfl, _, hgb, _⟩
  · simp [Value.ownBlock]
  · intro e'
    obtain rfl : b = g := by simpa [Value.ownBlock] using e'
    have := (show W.heap[b]? = _ from h).symm.trans hgb
    simp at this
    exact hte this.2
theorem own_setT {W : World} {b base n size : Nat} {t e : TypeId} {v : Value} {cs : Array Value} {xs : List Value} (h : W.ownsRow base e size v n xs) (hb : Blk W b t cs) (ht : t ≠ e) (j : Nat) (u : Value) : (W.setCell ⟨b, j, none⟩ u).ownsRow base e size v n xs :=
  h.kept (grownBy_set W b j u) (.inr fun e' => hb.not_row ht h e'.symm)
theorem own_set3 {W : World} {b base n size : Nat} {t e : TypeId} {v : Value} {cs : Array Value} {xs : List Value} (h : W.ownsRow base e size v n xs) (hb : Blk W b t cs) (ht : t ≠ e) (v0 v1 v2 : Value) : (((W.setCell ⟨b, 0, none⟩ v0).setCell ⟨b, 1, none⟩ v1).setCell ⟨b, 2, none⟩ v2).ownsRow base e size v n xs :=
  own_setT (own_setT (own_setT h hb ht 0 v0) (hb.set 0 v0) ht 1 v1) ((hb.set 0 v0).set 1 v1) ht 2 v2
/-- What lies in another block lies there still. -/
theorem cell_gr {W w1 : World} {row : Option Nat} {p : Addr} {u : Value} (hg : W.grownBy w1 row) (hne : some p.block ≠ row) (hc : W.cell? p = some u) : w1.cell? p = some u :=
  (World.cell?_of_block (hg.block _ (World.block_lt_of_cell? W p hc) hne)).trans hc
theorem cell_set {W : World} {p : Addr} {b : Nat} {u : Value} (hc : W.cell? p = some u) (hne : p.block ≠ b) (j : Nat) (v : Value) : (W.setCell ⟨b, j, none⟩ v).cell? p = some u := cell_gr (grownBy_set W b j v) (fun e => hne (by injection e)) hc
theorem cell_set3 {W : World} {p : Addr} {b : Nat} {u : Value} (hc : W.cell? p = some u) (hne : p.block ≠ b) (v0 v1 v2 : Value) : (((W.setCell ⟨b, 0, none⟩ v0).setCell ⟨b, 1, none⟩ v1).setCell ⟨b, 2, none⟩ v2).cell? p = some u :=
  cell_set (cell_set (cell_set hc hne 0 v0) hne 1 v1) hne 2 v2
theorem gr_drewN {W W' : World} {row : Option Nat} (h : W.grownBy W' row) (d : Nat) : W.grownBy (W'.drewN d) row := ⟨h.os, h.tape, h.output, h.size, h.block⟩
theorem gr_of_drewN {W W' : World} {row : Option Nat} {d : Nat} (h : (W.drewN d).grownBy W' row) : W.grownBy W' row := ⟨h.os, h.tape, h.output, h.size, h.block⟩
theorem nn (b : Nat) : some b ≠ (none : Option Nat) := fun h => by cases h
theorem cell_alc {W : World} {p : Addr} {u : Value} (o : Obj) (hc : W.cell? p = some u) : (W.alloc o).cell? p = some u := cell_gr (World.grownBy_alloc W o none) (nn _) hc
theorem below_gr {W w1 : World} (hg : W.grownBy w1 none) : Below W.heap.size W w1 := (Below.refl _ W).grown hg (Nat.le_refl _) (fun k hk => by cases hk)

end Tx
end Go.Proofs.Ytkpgkbllcdpobaa

namespace Go.Proofs.Ytkpgkbllcdpobaa
open Go.RowKit
set_option linter.unusedVariables false
namespace Sq
open Tx

set_option maxHeartbeats 400000 in
theorem Equal (A A' : Option Addr) (cap cap' n n' B : Nat) (ls ms : List (List UInt8)) (w : World) (hn : ls.length = n) (hn' : ms.length = n') (hnm : n ≤ maxLen) (hR : RdS w B A ls) (hR' : RdS w B A' ms) :
    Calls Try.prog 42 #[.slice A n cap, .slice A' n' cap'] w (SameEnd w (decide (ls = ms))) := by
  unfold maxLen at hnm
  have HN := Lib.hid hn; clear hn
  have HN' := Lib.hid hn'; clear hn'
  by_cases h1 : n = n'
  · subst h1
    go_enter Try.func42, Try.ntmps42
    go_wp2
    go_loopw [13] (fun i wr => ∃ k : Nat, k ≤ n ∧ i = .int .i64 k ∧ ls.take k = ms.take k ∧ ∃ d, wr = w.drewN d) (fun i _ => n - (intOf i).toNat)
    case atStart => exact ⟨0, Nat.zero_le _, rfl, by simp, 0, rfl⟩
    case round =>
      obtain ⟨k, hk, rfl, hall, d, rfl⟩ := hrel
      have HA := Lib.hid hall; clear hall
      by_cases hlt : k < n
      · have hkl : k < ls.length := by rw [HN.out]; exact hlt
        have hkm : k < ms.length := by rw [HN'.out]; exact hlt
        obtain ⟨a, rfl, hcell⟩ := hR.at' hkl
        obtain ⟨a', rfl, hcell'⟩ := hR'.at' hkm
        have HD := Lib.hid (same_step hkl hkm HA.out)
        have hki : (k : Int) < (n : Int) := by omega
        go_wp2
        go_quiet (fail)
        go_wp2
        · have hb : (!ls[k] == ms[k]) = true := by assumption
          go_ret
          exact ⟨ret_bool (HD.out.1 (by simpa using hb)).symm, d + nq, by simp⟩
        · have hb : (!ls[k] == ms[k]) = false := by assumption
          refine ⟨⟨k + 1, by omega, by go_num, HD.out.2 (by simpa using hb), _, rfl⟩, by simp [intOf]; omega⟩
      · have HD : Hid (decide (ls = ms) = true) := Lib.hid (by
          have := HA.out
          rw [List.take_of_length_le (by rw [HN.out]; omega), List.take_of_length_le (by rw [HN'.out]; omega)] at this
          exact decide_eq_true this)
        go_wp2
        go_ret
        exact ⟨ret_bool HD.out.symm, _, rfl⟩
  · have HD : Hid (decide (ls = ms) = false) := Lib.hid (decide_eq_false (fun e => h1 (by rw [← HN.out, ← HN'.out, e])))
    have hne : ((n : Int) != (n' : Int)) = true := by rw [bne_iff_ne]; omega
    go_enter Try.func42, Try.ntmps42
    go_wp2
    go_ret
    exact ⟨ret_bool HD.out.symm, 0, rfl⟩

end Sq
end Go.Proofs.Ytkpgkbllcdpobaa

namespace Go.Proofs.Ytkpgkbllcdpobaa
open Go.ChangeShapes Go.WideShapes Go.ChangeAt Go.RowKit
namespace Tx

theorem lt_of_cell {w : World} {a : Addr} {v : Value} (h : w.cell? a = some v) : a.block < w.heap.size := by
  rcases Nat.lt_or_ge a.block w.heap.size with h' | h'
  · exact h'
  · simp [World.cell?, Array.getElem?_eq_none h'] at h

theorem rd_in {w : World} {a : Addr} {xs : List Value} (h : ∀ j u, xs[j]? = some u → w.cell? (a.add j) = some u) : Rd w w.heap.size (some a) xs := by
  cases xs with
  | nil => exact .inl rfl
  | cons x xs =>
    have h0 := lt_of_cell (h 0 x rfl)
    rw [add_block] at h0
    exact .inr ⟨a, rfl, h0, h⟩

/-- A slice of strings that is handed in: it reads as l. -/
structure StrArg (w : World) (A : Option Addr) (n c : Nat) (l : List (List UInt8)) : Prop where
  len : l.length = n
  cap : n ≤ c
  le : n ≤ maxLen
  rd : RdS w w.heap.size A l
  short : ∀ x ∈ l, x.length ≤ maxLen

section
variable {H : Type} {enc : TypeId × Value → H} {W : World} {base : Nat} {spare : Nat → Bool} {held : Bool}

theorem strs_in {fuel : Nat} {cs : List Value} {x : DataW H × List MemPlace} {A : Option Addr} {l c : Nat} (h : DataW.trod enc Try.prog W base spare held fuel 22 cs = some x) (hcs : cs = [.slice A l c]) :
    ∃ ls : List (List UInt8), StrArg W A l c ls := by
  rcases open_strings Try.underlying22 Try.underlying9 (by kernel_rfl) h with ⟨hcs', _⟩ | ⟨a, l', c', ss, hcs', _, hl, hm, hz, _, hcell, hws⟩
  · rw [hcs] at hcs'
    simp at hcs'
    obtain ⟨rfl, rfl, rfl⟩ := hcs'
    exact ⟨[], rfl, Nat.le_refl _, Nat.zero_le _, .inl rfl, fun x hx => by cases hx⟩
  · rw [hcs] at hcs'
    simp at hcs'
    obtain ⟨rfl, rfl, rfl⟩ := hcs'
    have hzl : l ≤ ss.length := by rw [hz]; split <;> omega
    refine ⟨(ss.take l).map fun s => s.data.toList, by simp; omega, hl, by omega, rd_in fun j u hu => ?_, fun x hx => ?_⟩
    · simp only [List.getElem?_map, Option.map_map] at hu
      rw [List.getElem?_take] at hu
      split at hu
      · have hj : j < ss.length := by omega
        rw [List.getElem?_eq_getElem hj] at hu
        simp at hu
        rw [hcell j hj, ← hu]
        simp [hj]
      · cases hu
    · obtain ⟨s, hs, rfl⟩ := List.mem_map.1 hx
      show s.data.toList.length ≤ maxLen
      rw [Array.length_toList]
      exact hws s (List.mem_of_mem_take hs)
end

end Tx
end Go.Proofs.Ytkpgkbllcdpobaa

namespace Go.Proofs.Ytkpgkbllcdpobaa
open Go.RowKit
set_option linter.unusedVariables false
namespace Tx

/-- How a law ends: true, and all that was there is as it was. -/
def LawEnd (w : World) (e : Ending) (w' : World) : Prop := e = .returned (.bool true) ∧ Below w.heap.size w w'

theorem light_len {ls : List (List UInt8)} {n k : Nat} (h : light ls k = true) (hn : ls.length = n) : n ≤ k := by
  simp only [light, Bool.and_eq_true, decide_eq_true_eq] at h
  omega

end Tx
end Go.Proofs.Ytkpgkbllcdpobaa

namespace Go.Proofs.Ytkpgkbllcdpobaa
open Go.RowKit
set_option linter.unusedVariables false
namespace Df
open Tx

abbrev E : Type := Ed (List UInt8)

/-- The cells of an edit at the address p, its New below block B. -/
structure EdAt (w : World) (B : Nat) (a : Addr) (k : Nat) (x : E) : Prop where
  c0 : w.cell? (a.add (k * 3)) = some (.int .i64 x.pos)
  c1 : w.cell? ⟨(a.add (k * 3)).block, (a.add (k * 3)).off + 1, none⟩ = some (.int .i64 x.old)
  c2 : ∃ A c, w.cell? ⟨(a.add (k * 3)).block, (a.add (k * 3)).off + 2, none⟩ = some (.slice A x.new.length c) ∧ x.new.length ≤ c ∧ RdS w B A x.new
  p : I64 x.pos
  o : I64 x.old
  n : x.new.length ≤ maxLen

/-- The address A leads, below block B, to edits; or there are none. -/
def RdE (w : World) (B : Nat) (A : Option Addr) (es : List E) : Prop :=
  es = [] ∨ ∃ a, A = some a ∧ a.block < B ∧ ∀ (k : Nat) x, es[k]? = some x → EdAt w B a k x

section
variable {w w' : World} {B B' : Nat} {A : Option Addr} {es : List E}
theorem EdAt.below {a : Addr} {k : Nat} {x : E} (h : EdAt w B a k x) (ha : a.block < B) (hb : Below B w w') : EdAt w' B a k x := by
  obtain ⟨c0, c1, ⟨A, c, h2, h3, h4⟩, p, o, n⟩ := h
  exact ⟨(hb.cell (by rw [add_block]; exact ha)).trans c0, (hb.cell (by show (a.add (k * 3)).block < B; rw [add_block]; exact ha)).trans c1, ⟨A, c, (hb.cell (by show (a.add (k * 3)).block < B; rw [add_block]; exact ha)).trans h2, h3, Rd.below h4 hb⟩, p, o, n⟩
theorem EdAt.up {a : Addr} {k : Nat} {x : E} (h : EdAt w B a k x) (hB : B ≤ B') : EdAt w B' a k x := by
  obtain ⟨c0, c1, ⟨A, c, h2, h3, h4⟩, p, o, n⟩ := h
  exact ⟨c0, c1, ⟨A, c, h2, h3, Rd.up h4 hB⟩, p, o, n⟩
theorem RdE.below (h : RdE w B A es) (hb : Below B w w') : RdE w' B A es := by
  rcases h with h | ⟨a, e, hlt, hc⟩
  · exact .inl h
  · exact .inr ⟨a, e, hlt, fun k x hx => (hc k x hx).below hlt hb⟩
theorem RdE.up (h : RdE w B A es) (hB : B ≤ B') : RdE w B' A es := by
  rcases h with h | ⟨a, e, hlt, hc⟩
  · exact .inl h
  · exact .inr ⟨a, e, by omega, fun k x hx => (hc k x hx).up hB⟩
theorem RdE.at_ (h : RdE w B A es) {k : Nat} (hk : k < es.length) : ∃ a, A = some a ∧ a.block < B ∧ EdAt w B a k es[k] := by
  rcases h with rfl | ⟨a, e, hlt, hc⟩
  · exact absurd hk (by simp)
  · exact ⟨a, e, hlt, hc k _ (List.getElem?_eq_getElem hk)⟩
end

end Df
end Go.Proofs.Ytkpgkbllcdpobaa

namespace Go.Proofs.Ytkpgkbllcdpobaa
open Go.RowKit
set_option linter.unusedVariables false
namespace Df
open Tx

theorem drop_at {α : Type} {l : List α} {k : Nat} (h : k < l.length) : l.drop k = l[k] :: l.drop (k + 1) := List.drop_eq_getElem_cons h

theorem cell_of {w : World} {g : Nat} {cs : Array Value} {t : TypeId} {fr : Nat × Nat} (h : w.heap[g]? = some (.cells cs t fr)) (j : Nat) {u : Value} (hu : cs[j]? = some u) : w.cell? ⟨g, j, none⟩ = some u := by
  unfold World.cell?; rw [h]; exact hu

theorem mid_map {a : List (List UInt8)} {i j : Nat} : (mid a i j).map strV = ((a.map strV).drop i).take (j - i) := by
  unfold mid; rw [List.map_take, List.map_drop]

end Df
end Go.Proofs.Ytkpgkbllcdpobaa

namespace Go.Proofs.Ytkpgkbllcdpobaa
open Go.RowKit
set_option linter.unusedVariables false
namespace Hk
open Tx Df

/-- How next ends. -/
def NextEnd (w : World) (mb : Nat) (A : Option Addr) (n c : Nat) (mv : Int) (i o : Nat) (D : Option Addr) (m cn : Nat) (a : List (List UInt8)) (e : Ending) (w' : World) : Prop :=
  ∃ D1 k1, e = .returned (hkV (i + mv) D1 o k1 D m cn) ∧ w'.ownsRow w.heap.size 9 1 (.slice D1 o k1) o ((mid a i (i + o)).map strV) ∧
    Blk w' mb 45 #[.slice A n c, .int .i64 (mv + m - o)] ∧ w.grownBy w' (some mb)

/-- What is known in the midst of next: the hunk lies at T. -/
structure Mid (W : World) (g mb i o : Nat) (D : Option Addr) (m cn : Nat) (A : Option Addr) (n c : Nat) (mv : Int) (D1 : Option Addr) (k1 q : Nat) (xs : List Value) (T : Nat) (W3 : World) : Prop where
  fe : Blk W3 g 50 #[.int .i64 (i : Int), .int .i64 (o : Int), .slice D m cn]
  fm : Blk W3 mb 45 #[.slice A n c, .int .i64 mv]
  ft : Blk W3 T 24 #[.int .i64 ((i : Int) + mv), .slice D1 (q - i) k1, .slice D m cn]
  fh : Blk W3 (g + 1) 24 #[.int .i64 0, .slice none 0 0, .slice none 0 0]
  fr : W3.ownsRow W.heap.size 9 1 (.slice D1 (q - i) k1) (q - i) xs
  fg : W.grownBy W3 none
  fl : W.heap.size ≤ T

theorem gr_set3 {W W' : World} {b : Nat} (h : W.grownBy W' none) (hb : W.heap.size ≤ b) (v0 v1 v2 : Value) : W.grownBy (((W'.setCell ⟨b, 0, none⟩ v0).setCell ⟨b, 1, none⟩ v1).setCell ⟨b, 2, none⟩ v2) none := by
  have hne : ∀ k, k < W.heap.size → some k ≠ some b := fun k hk e => by injection e; omega
  have s : ∀ {X : World} (j : Nat) (v : Value), W.grownBy X none → W.grownBy (X.setCell ⟨b, j, none⟩ v) none := fun {X} j v h => by
    have g := grownBy_set X b j v
    exact ⟨g.os.trans h.os, g.tape.trans h.tape, g.output.trans h.output, Nat.le_trans h.size g.size, fun k hk _ => (g.block k (Nat.lt_of_lt_of_le hk h.size) (hne k hk)).trans (h.block k hk (nn k))⟩
  exact s 2 v2 (s 1 v1 (s 0 v0 h))

theorem mid_one {W w1 : World} {g mb i o : Nat} {D : Option Addr} {m cn : Nat} {A : Option Addr} {n c : Nat} {mv : Int} {D1 : Option Addr} {k1 q base : Nat} {xs : List Value} {T : Nat} (hE : Blk W g 50 #[.int .i64 (i : Int), .int .i64 (o : Int), .slice D m cn]) (hM : Blk W mb 45 #[.slice A n c, .int .i64 mv])
    (hH : Blk W (g + 1) 24 #[.int .i64 0, .slice none 0 0, .slice none 0 0])
    (hr : w1.ownsRow base 9 1 (.slice D1 (q - i) k1) (q - i) xs) (hb : W.heap.size ≤ base) (hg : W.grownBy w1 none) {v0 v1 v2 : Value} (ht : Blk w1 T 24 #[v0, v1, v2]) (hT : W.heap.size ≤ T) :
    Mid W g mb i o D m cn A n c mv D1 k1 q xs T (((w1.setCell ⟨T, 0, none⟩ (.int .i64 ((i : Int) + mv))).setCell ⟨T, 1, none⟩ (.slice D1 (q - i) k1)).setCell ⟨T, 2, none⟩ (.slice D m cn)) := by
  have hG := gr_set3 hg hT (.int .i64 ((i : Int) + mv)) (.slice D1 (q - i) k1) (.slice D m cn)
  refine ⟨hE.gr hG (nn _), hM.gr hG (nn _), ((ht.set 0 _).set 1 _).set 2 _, hH.gr hG (nn _), own_set3 (own_mono hr hb) ht (by decide) _ _ _, hG, hT⟩

theorem mid_two {W w1 : World} {g mb i o : Nat} {D : Option Addr} {m cn : Nat} {A : Option Addr} {n c : Nat} {mv : Int} {D1 : Option Addr} {k1 q base : Nat} {xs : List Value} (hE : Blk W g 50 #[.int .i64 (i : Int), .int .i64 (o : Int), .slice D m cn]) (hM : Blk W mb 45 #[.slice A n c, .int .i64 mv])
    (hH : Blk W (g + 1) 24 #[.int .i64 0, .slice none 0 0, .slice none 0 0]) (hr : w1.ownsRow base 9 1 (.slice D1 (q - i) k1) (q - i) xs) (hb : W.heap.size ≤ base) (hg : W.grownBy w1 none) :
    Mid W g mb i o D m cn A n c mv D1 k1 q xs w1.heap.size (w1.alloc (.cells #[.int .i64 ((i : Int) + mv), .slice D1 (q - i) k1, .slice D m cn] 24)) := by
  have g1 := World.grownBy_alloc w1 (.cells #[.int .i64 ((i : Int) + mv), .slice D1 (q - i) k1, .slice D m cn] 24) none
  have hG := hg.trans g1
  exact ⟨hE.gr hG (nn _), hM.gr hG (nn _), Blk.new w1 _ _, hH.gr hG (nn _), own_gr (own_mono hr hb) g1, hG, hg.size⟩

/-- What is known when the mover has moved. -/
structure Late (W : World) (g mb : Nat) (A : Option Addr) (n c : Nat) (mv' : Int) (D1 : Option Addr) (k1 l : Nat) (xs : List Value) (D : Option Addr) (m cn : Nat) (v0 : Value) (T : Nat) (W4 : World) : Prop where
  ft : Blk W4 T 24 #[v0, .slice D1 l k1, .slice D m cn]
  fh : Blk W4 (g + 1) 24 #[.int .i64 0, .slice none 0 0, .slice none 0 0]
  fm : Blk W4 mb 45 #[.slice A n c, .int .i64 mv']
  fr : W4.ownsRow W.heap.size 9 1 (.slice D1 l k1) l xs
  fg : W.grownBy W4 (some mb)

theorem late_of {W W3 : World} {g mb i o : Nat} {D : Option Addr} {m cn : Nat} {A : Option Addr} {n c : Nat} {mv : Int} {D1 : Option Addr} {k1 q : Nat} {xs : List Value} {T : Nat} (F : Mid W g mb i o D m cn A n c mv D1 k1 q xs T W3) (hmb : mb < W.heap.size) (hmg : mb < g) (mv' : Int) :
    Late W g mb A n c mv' D1 k1 (q - i) xs D m cn (.int .i64 ((i : Int) + mv)) T (W3.setCell ⟨mb, 1, none⟩ (.int .i64 mv')).drew := by
  refine ⟨(F.ft.set_ne (by have := F.fl; omega) 1 _).drewN 1, (F.fh.set_ne (by omega) 1 _).drewN 1, (F.fm.set 1 _).drewN 1, (own_setT F.fr F.fm (by decide) 1 _).drew, ?_⟩
  have g1 := grownBy_set W3 mb 1 (.int .i64 mv')
  exact ⟨g1.os.trans F.fg.os, g1.tape.trans F.fg.tape, g1.output.trans F.fg.output, Nat.le_trans F.fg.size g1.size, fun k hk hne => (g1.block k (Nat.lt_of_lt_of_le hk F.fg.size) hne).trans (F.fg.block k hk (nn k))⟩

theorem next_end {w W W4 : World} {g mb : Nat} {A : Option Addr} {n c : Nat} {mv : Int} {i o : Nat} {D : Option Addr} {m cn : Nat} {a : List (List UInt8)} {D1 : Option Addr} {k1 q T : Nat}
    (L : Late W g mb A n c (mv + ((m : Int) - (o : Int))) D1 k1 (q - i) ((mid a i q).map strV) D m cn (.int .i64 ((i : Int) + mv)) T W4) (hw : w.grownBy W none) (hg : w.heap.size = g) (hmg : mb < g) (hq : i + o = q) :
    NextEnd w mb A n c mv i o D m cn a (.returned (hkV (i + mv) D1 (q - i) k1 D m cn)) (((W4.setCell ⟨g + 1, 0, none⟩ (.int .i64 ((i : Int) + mv))).setCell ⟨g + 1, 1, none⟩ (.slice D1 (q - i) k1)).setCell ⟨g + 1, 2, none⟩ (.slice D m cn)) := by
  subst hq
  rw [show i + o - i = o by omega] at L ⊢
  refine ⟨D1, k1, rfl, own_mono (own_set3 L.fr L.fh (by decide) _ _ _) hw.size, ?_, ?_⟩
  · have := ((L.fm.set_ne (b' := g + 1) (by omega) 0 (.int .i64 ((i : Int) + mv))).set_ne (b' := g + 1) (by omega) 1 (.slice D1 o k1)).set_ne (b' := g + 1) (by omega) 2 (.slice D m cn)
    rw [show mv + ((m : Int) - (o : Int)) = mv + m - o by omega] at this
    exact this
  · have s : ∀ {X : World} (j : Nat) (v : Value), w.grownBy X (some mb) → w.grownBy (X.setCell ⟨g + 1, j, none⟩ v) (some mb) := fun {X} j v h => by
      have e := grownBy_set X (g + 1) j v
      exact ⟨e.os.trans h.os, e.tape.trans h.tape, e.output.trans h.output, Nat.le_trans h.size e.size, fun k hk hne => (e.block k (Nat.lt_of_lt_of_le hk h.size) (fun eq => by injection eq; omega)).trans (h.block k hk hne)⟩
    exact s 2 _ (s 1 _ (s 0 _ ⟨L.fg.os.trans hw.os, L.fg.tape.trans hw.tape, L.fg.output.trans hw.output, Nat.le_trans hw.size L.fg.size, fun k hk hne => (L.fg.block k (Nat.lt_of_lt_of_le hk hw.size) hne).trans (hw.block k hk (nn k))⟩))

set_option maxRecDepth 100000 in
set_option maxHeartbeats 4000000 in
theorem next (mb : Nat) (A : Option Addr) (n c : Nat) (mv : Int) (i o : Nat) (D : Option Addr) (m cn B : Nat) (a : List (List UInt8)) (w : World) (hB : B ≤ w.heap.size) (hM : Blk w mb 45 #[.slice A n c, .int .i64 mv])
    (hn : a.length = n) (hc : n ≤ c) (h0 : n ≤ 1000) (hR : RdS w B A a) (hio : i + o ≤ n) (hnn : m ≤ 1000) (hmv : -1000000 ≤ mv) (hmv' : mv ≤ 1000000) :
    Calls Try.prog 30 #[.pointer (some ⟨mb, 0, none⟩), .agg #[.int .i64 (i : Int), .int .i64 (o : Int), .slice D m cn]] w (NextEnd w mb A n c mv i o D m cn a) := by
  have HN := Lib.hid hn; have HR0 := Lib.hid hR; have HM := Lib.hid hM
  clear hn hR hM
  go_enter Try.func30, Try.ntmps30
  go_wp2_with fail
  have be := (Blk.new w 50 #[.int .i64 (i : Int), .int .i64 (o : Int), .slice D m cn]).alloc (.cells #[.int .i64 0, .slice none 0 0, .slice none 0 0] 24)
  have bh := Blk.new (w.alloc (.cells #[.int .i64 (i : Int), .int .i64 (o : Int), .slice D m cn] 50)) 24 #[.int .i64 0, .slice none 0 0, .slice none 0 0]
  have bm := (HM.out.alloc (.cells #[.int .i64 (i : Int), .int .i64 (o : Int), .slice D m cn] 50)).alloc (.cells #[.int .i64 0, .slice none 0 0, .slice none 0 0] 24)
  have hw : w.grownBy ((w.alloc (.cells #[.int .i64 (i : Int), .int .i64 (o : Int), .slice D m cn] 50)).alloc (.cells #[.int .i64 0, .slice none 0 0, .slice none 0 0] 24)) none := (World.grownBy_alloc w _ none).trans (World.grownBy_alloc _ _ none)
  simp only [World.size_alloc] at bh
  generalize hW : (w.alloc (.cells #[.int .i64 (i : Int), .int .i64 (o : Int), .slice D m cn] 50)).alloc (.cells #[.int .i64 0, .slice none 0 0, .slice none 0 0] 24) = W at *
  clear hW
  obtain ⟨g, hgs⟩ : ∃ g, w.heap.size = g := ⟨_, rfl⟩
  have hmg : mb < w.heap.size := HM.out.lt
  rw [hgs] at be bh hmg ⊢
  have HGS := Lib.hid hgs; clear hgs
  have HW := Lib.hid hw; have BE := Lib.hid be; have BH := Lib.hid bh; have BM := Lib.hid bm; clear hw be bh bm
  have R1 := Lib.hid (Rd.below HR0.out ((below_gr HW.out).mono hB))
  have HBW : Hid (B ≤ W.heap.size) := Lib.hid (Nat.le_trans hB HW.out.size)
  obtain ⟨q, hq⟩ : ∃ q, i + o = q := ⟨_, rfl⟩
  have HQ := Lib.hid hq
  have HL : Hid ((mid a i q).length = q - i) := Lib.hid (by rw [mid_len (by rw [HN.out]; omega)])
  have hD := Rd.take (Rd.drop R1.out (k := i) (cap := c) (by rw [List.length_map, HN.out]; exact hc)) (q - i)
  have hmm : (((a.map strV).drop i).take (q - i)) = (mid a i q).map strV := mid_map.symm
  rw [hmm] at hD
  clear hmm R1 HR0 hB
  have x0 : W.cell? ⟨g, 0, none⟩ = some (.int .i64 (i : Int)) := BE.out.cell 0 rfl
  have x1 : W.cell? ⟨g, 1, none⟩ = some (.int .i64 (o : Int)) := BE.out.cell 1 rfl
  have x2 : W.cell? ⟨g, 2, none⟩ = some (.slice D m cn) := BE.out.cell 2 rfl
  have x3 : W.cell? ⟨mb, 0, none⟩ = some (.slice A n c) := BM.out.cell 0 rfl
  have x4 : W.cell? ⟨mb, 1, none⟩ = some (.int .i64 mv) := BM.out.cell 1 rfl
  have ho : q - i ≤ 1000000 := by omega
  have t1 : (0 : Int) ≤ (i : Int) := by omega
  have t2 : (i : Int) ≤ (q : Int) := by omega
  have t3 : (q : Int) ≤ (c : Int) := by omega
  have s1 : IntKind.i64.wrap ((i : Int) + (o : Int)) = (q : Int) := by rw [IntWalk.i64_in _ (by omega)]; omega
  have s2 : IntKind.i64.wrap ((i : Int) + mv) = (i : Int) + mv := IntWalk.i64_in _ (by omega)
  clear hq
  have HLG : Hid (g < W.heap.size) := Lib.hid BE.out.lt
  have HLM : Hid (mb < W.heap.size) := Lib.hid BM.out.lt
  obtain hci | hci' := Classical.em (i = c)
  · subst hci
    rw [if_pos rfl] at hD
    have HD := Lib.hid hD; clear hD
    go_region_held3 (fun w' => w'.cell? ⟨g, 0, none⟩ = some (.int .i64 (i : Int)) ∧ w'.cell? ⟨g, 1, none⟩ = some (.int .i64 (o : Int)) ∧ w'.cell? ⟨g, 2, none⟩ = some (.slice D m cn) ∧ w'.cell? ⟨mb, 0, none⟩ = some (.slice A n i) ∧ w'.cell? ⟨mb, 1, none⟩ = some (.int .i64 mv))
      (first
        | go_keep
        | (exact ⟨y0, y1, y2, y3, y4⟩)
        | (exact ⟨cell_set3 y0 (Nat.ne_of_lt HLG.out) _ _ _, cell_set3 y1 (Nat.ne_of_lt HLG.out) _ _ _, cell_set3 y2 (Nat.ne_of_lt HLG.out) _ _ _, cell_set3 y3 (Nat.ne_of_lt HLM.out) _ _ _, cell_set3 y4 (Nat.ne_of_lt HLM.out) _ _ _⟩)
        | (exact ⟨cell_set3 (cell_alc _ y0) (Nat.ne_of_lt HLG1.out) _ _ _, cell_set3 (cell_alc _ y1) (Nat.ne_of_lt HLG1.out) _ _ _, cell_set3 (cell_alc _ y2) (Nat.ne_of_lt HLG1.out) _ _ _, cell_set3 (cell_alc _ y3) (Nat.ne_of_lt HLM1.out) _ _ _, cell_set3 (cell_alc _ y4) (Nat.ne_of_lt HLM1.out) _ _ _⟩))
      (first
        | (go_at_call 27; refine (own _ _ (q - i) B (mid a i q) W.drew HL.out ho (Rd.drewN HD.out 1)).mono ?_; rintro e w1 ⟨D1, k1, rfl, hr1, hg1⟩;
            have y0 := cell_gr hg1 (nn _) x0; have y1 := cell_gr hg1 (nn _) x1; have y2 := cell_gr hg1 (nn _) x2; have y3 := cell_gr hg1 (nn _) x3; have y4 := cell_gr hg1 (nn _) x4;
            have HLG1 := Lib.hid (Nat.lt_of_lt_of_le HLG.out hg1.size); have HLM1 := Lib.hid (Nat.lt_of_lt_of_le HLM.out hg1.size); have HR1 := Lib.hid hr1; have HG1 := Lib.hid (gr_of_drewN (d := 1) hg1); clear hr1 hg1)
        | (go_at_call 27; refine (own _ _ (q - i) B (mid a i q) (W.alloc (.cells #[.int .i64 0, .slice none 0 0, .slice none 0 0] 24)).drew HL.out ho (Rd.drewN (rd_alloc HD.out HBW.out _) 1)).mono ?_; rintro e w1 ⟨D1, k1, rfl, hr1, hg1⟩;
            have y0 := cell_gr hg1 (nn _) (cell_alc _ x0); have y1 := cell_gr hg1 (nn _) (cell_alc _ x1); have y2 := cell_gr hg1 (nn _) (cell_alc _ x2); have y3 := cell_gr hg1 (nn _) (cell_alc _ x3); have y4 := cell_gr hg1 (nn _) (cell_alc _ x4);
            have bt := ((Blk.new W 24 #[.int .i64 0, .slice none 0 0, .slice none 0 0]).drewN 1).gr hg1 (nn _);
            have q0 : w1.cell? ⟨W.heap.size, 0, none⟩ = some (.int .i64 0) := bt.cell 0 rfl; have q1 : w1.cell? ⟨W.heap.size, 1, none⟩ = some (.slice none 0 0) := bt.cell 1 rfl; have q2 : w1.cell? ⟨W.heap.size, 2, none⟩ = some (.slice none 0 0) := bt.cell 2 rfl; have f0 := bt.frozen 0; have f1 := bt.frozen 1; have f2 := bt.frozen 2;
            have BT := Lib.hid bt; have HR1 := Lib.hid hr1; have HG1 := Lib.hid ((gr_drewN (World.grownBy_alloc W (.cells #[.int .i64 0, .slice none 0 0, .slice none 0 0] 24) none) 1).trans hg1); clear bt hr1 hg1))
    all_goals
      clear s1 s2
    all_goals first
      | (have F := mid_one (i := i) (mv := mv) BE.out BM.out BH.out HR1.out (by show W.heap.size ≤ (W.alloc _).heap.size; simp) HG1.out BT.out (Nat.le_refl _)
         generalize (((w1.setCell ⟨W.heap.size, 0, none⟩ (.int .i64 ((i : Int) + mv))).setCell ⟨W.heap.size, 1, none⟩ (.slice D1 (q - i) k1)).setCell ⟨W.heap.size, 2, none⟩ (.slice D m cn)) = W3 at *
         obtain ⟨T, hT⟩ : ∃ T, T = W.heap.size := ⟨_, rfl⟩
         rw [← hT] at F ⊢
         clear hT)
      | (have F := mid_two (i := i) (mv := mv) BE.out BM.out BH.out HR1.out (Nat.le_refl _) HG1.out
         generalize w1.alloc (.cells #[.int .i64 ((i : Int) + mv), .slice D1 (q - i) k1, .slice D m cn] 24) = W3 at *
         obtain ⟨T, hT⟩ : ∃ T, T = w1.heap.size := ⟨_, rfl⟩
         rw [← hT] at F ⊢
         clear hT)
    all_goals
      have u0 : W3.cell? ⟨g, 0, none⟩ = some (.int .i64 (i : Int)) := F.fe.cell 0 rfl
      have u1 : W3.cell? ⟨g, 1, none⟩ = some (.int .i64 (o : Int)) := F.fe.cell 1 rfl
      have u2 : W3.cell? ⟨g, 2, none⟩ = some (.slice D m cn) := F.fe.cell 2 rfl
      have u4 : W3.cell? ⟨mb, 1, none⟩ = some (.int .i64 mv) := F.fm.cell 1 rfl
      have f4 := F.fm.frozen 1
      have s3 : IntKind.i64.wrap ((m : Int) - (o : Int)) = (m : Int) - (o : Int) := IntWalk.i64_in _ (by omega)
      have s4 : IntKind.i64.wrap (mv + ((m : Int) - (o : Int))) = mv + ((m : Int) - (o : Int)) := IntWalk.i64_in _ (by omega)
      have HF := Lib.hid F
      clear F
      go_wp2_with fail
      go_region
      clear s3 s4
      have L := late_of HF.out HLM.out hmg (mv + ((m : Int) - (o : Int)))
      clear HF u0 u1 u2 u4 f4
      generalize (W3.setCell ⟨mb, 1, none⟩ (.int .i64 (mv + ((m : Int) - (o : Int))))).drew = W4 at *
      have u0 : W4.cell? ⟨T, 0, none⟩ = some (.int .i64 ((i : Int) + mv)) := L.ft.cell 0 rfl
      have u1 : W4.cell? ⟨T, 1, none⟩ = some (.slice D1 (q - i) k1) := L.ft.cell 1 rfl
      have u2 : W4.cell? ⟨T, 2, none⟩ = some (.slice D m cn) := L.ft.cell 2 rfl
      have q0 : W4.cell? ⟨g + 1, 0, none⟩ = some (.int .i64 0) := L.fh.cell 0 rfl
      have q1 : W4.cell? ⟨g + 1, 1, none⟩ = some (.slice none 0 0) := L.fh.cell 1 rfl
      have q2 : W4.cell? ⟨g + 1, 2, none⟩ = some (.slice none 0 0) := L.fh.cell 2 rfl
      have f0 := L.fh.frozen 0
      have f1 := L.fh.frozen 1
      have f2 := L.fh.frozen 2
      have HE := Lib.hid (next_end L HW.out HGS.out hmg HQ.out)
      have HF5 := Lib.hid (((L.fh.set 0 (.int .i64 ((i : Int) + mv))).set 1 (.slice D1 (q - i) k1)).set 2 (.slice D m cn))
      clear L
      go_wp2_with fail
      have b5 := HF5.out
      have h5 := HE.out
      generalize ((W4.setCell ⟨g + 1, 0, none⟩ (.int .i64 ((i : Int) + mv))).setCell ⟨g + 1, 1, none⟩ (.slice D1 (q - i) k1)).setCell ⟨g + 1, 2, none⟩ (.slice D m cn) = W5 at *
      have p0 : W5.cell? ⟨g + 1, 0, none⟩ = some (.int .i64 ((i : Int) + mv)) := b5.cell 0 rfl
      have p1 : W5.cell? ⟨g + 1, 1, none⟩ = some (.slice D1 (q - i) k1) := b5.cell 1 rfl
      have p2 : W5.cell? ⟨g + 1, 2, none⟩ = some (.slice D m cn) := b5.cell 2 rfl
      exact bodyPost_ret (v := hkV (i + mv) D1 (q - i) k1 D m cn) (by simp [results, Try.results30, go_sem, p0, p1, p2]) rfl h5

  · have hci : ¬ c = i := fun h => hci' h.symm
    clear hci'
    rw [if_neg hci] at hD
    have HD := Lib.hid hD; clear hD
    go_region_held3 (fun w' => w'.cell? ⟨g, 0, none⟩ = some (.int .i64 (i : Int)) ∧ w'.cell? ⟨g, 1, none⟩ = some (.int .i64 (o : Int)) ∧ w'.cell? ⟨g, 2, none⟩ = some (.slice D m cn) ∧ w'.cell? ⟨mb, 0, none⟩ = some (.slice A n c) ∧ w'.cell? ⟨mb, 1, none⟩ = some (.int .i64 mv))
      (first
        | go_keep
        | (exact ⟨y0, y1, y2, y3, y4⟩)
        | (exact ⟨cell_set3 y0 (Nat.ne_of_lt HLG.out) _ _ _, cell_set3 y1 (Nat.ne_of_lt HLG.out) _ _ _, cell_set3 y2 (Nat.ne_of_lt HLG.out) _ _ _, cell_set3 y3 (Nat.ne_of_lt HLM.out) _ _ _, cell_set3 y4 (Nat.ne_of_lt HLM.out) _ _ _⟩)
        | (exact ⟨cell_set3 (cell_alc _ y0) (Nat.ne_of_lt HLG1.out) _ _ _, cell_set3 (cell_alc _ y1) (Nat.ne_of_lt HLG1.out) _ _ _, cell_set3 (cell_alc _ y2) (Nat.ne_of_lt HLG1.out) _ _ _, cell_set3 (cell_alc _ y3) (Nat.ne_of_lt HLM1.out) _ _ _, cell_set3 (cell_alc _ y4) (Nat.ne_of_lt HLM1.out) _ _ _⟩))
      (first
        | (go_at_call 27; refine (own _ _ (q - i) B (mid a i q) W.drew HL.out ho (Rd.drewN HD.out 1)).mono ?_; rintro e w1 ⟨D1, k1, rfl, hr1, hg1⟩;
            have y0 := cell_gr hg1 (nn _) x0; have y1 := cell_gr hg1 (nn _) x1; have y2 := cell_gr hg1 (nn _) x2; have y3 := cell_gr hg1 (nn _) x3; have y4 := cell_gr hg1 (nn _) x4;
            have HLG1 := Lib.hid (Nat.lt_of_lt_of_le HLG.out hg1.size); have HLM1 := Lib.hid (Nat.lt_of_lt_of_le HLM.out hg1.size); have HR1 := Lib.hid hr1; have HG1 := Lib.hid (gr_of_drewN (d := 1) hg1); clear hr1 hg1)
        | (go_at_call 27; refine (own _ _ (q - i) B (mid a i q) (W.alloc (.cells #[.int .i64 0, .slice none 0 0, .slice none 0 0] 24)).drew HL.out ho (Rd.drewN (rd_alloc HD.out HBW.out _) 1)).mono ?_; rintro e w1 ⟨D1, k1, rfl, hr1, hg1⟩;
            have y0 := cell_gr hg1 (nn _) (cell_alc _ x0); have y1 := cell_gr hg1 (nn _) (cell_alc _ x1); have y2 := cell_gr hg1 (nn _) (cell_alc _ x2); have y3 := cell_gr hg1 (nn _) (cell_alc _ x3); have y4 := cell_gr hg1 (nn _) (cell_alc _ x4);
            have bt := ((Blk.new W 24 #[.int .i64 0, .slice none 0 0, .slice none 0 0]).drewN 1).gr hg1 (nn _);
            have q0 : w1.cell? ⟨W.heap.size, 0, none⟩ = some (.int .i64 0) := bt.cell 0 rfl; have q1 : w1.cell? ⟨W.heap.size, 1, none⟩ = some (.slice none 0 0) := bt.cell 1 rfl; have q2 : w1.cell? ⟨W.heap.size, 2, none⟩ = some (.slice none 0 0) := bt.cell 2 rfl; have f0 := bt.frozen 0; have f1 := bt.frozen 1; have f2 := bt.frozen 2;
            have BT := Lib.hid bt; have HR1 := Lib.hid hr1; have HG1 := Lib.hid ((gr_drewN (World.grownBy_alloc W (.cells #[.int .i64 0, .slice none 0 0, .slice none 0 0] 24) none) 1).trans hg1); clear bt hr1 hg1))
    all_goals
      clear s1 s2
    all_goals first
      | (have F := mid_one (i := i) (mv := mv) BE.out BM.out BH.out HR1.out (by show W.heap.size ≤ (W.alloc _).heap.size; simp) HG1.out BT.out (Nat.le_refl _)
         generalize (((w1.setCell ⟨W.heap.size, 0, none⟩ (.int .i64 ((i : Int) + mv))).setCell ⟨W.heap.size, 1, none⟩ (.slice D1 (q - i) k1)).setCell ⟨W.heap.size, 2, none⟩ (.slice D m cn)) = W3 at *
         obtain ⟨T, hT⟩ : ∃ T, T = W.heap.size := ⟨_, rfl⟩
         rw [← hT] at F ⊢
         clear hT)
      | (have F := mid_two (i := i) (mv := mv) BE.out BM.out BH.out HR1.out (Nat.le_refl _) HG1.out
         generalize w1.alloc (.cells #[.int .i64 ((i : Int) + mv), .slice D1 (q - i) k1, .slice D m cn] 24) = W3 at *
         obtain ⟨T, hT⟩ : ∃ T, T = w1.heap.size := ⟨_, rfl⟩
         rw [← hT] at F ⊢
         clear hT)
    all_goals
      have u0 : W3.cell? ⟨g, 0, none⟩ = some (.int .i64 (i : Int)) := F.fe.cell 0 rfl
      have u1 : W3.cell? ⟨g, 1, none⟩ = some (.int .i64 (o : Int)) := F.fe.cell 1 rfl
      have u2 : W3.cell? ⟨g, 2, none⟩ = some (.slice D m cn) := F.fe.cell 2 rfl
      have u4 : W3.cell? ⟨mb, 1, none⟩ = some (.int .i64 mv) := F.fm.cell 1 rfl
      have f4 := F.fm.frozen 1
      have s3 : IntKind.i64.wrap ((m : Int) - (o : Int)) = (m : Int) - (o : Int) := IntWalk.i64_in _ (by omega)
      have s4 : IntKind.i64.wrap (mv + ((m : Int) - (o : Int))) = mv + ((m : Int) - (o : Int)) := IntWalk.i64_in _ (by omega)
      have HF := Lib.hid F
      clear F
      go_wp2_with fail
      go_region
      clear s3 s4
      have L := late_of HF.out HLM.out hmg (mv + ((m : Int) - (o : Int)))
      clear HF u0 u1 u2 u4 f4
      generalize (W3.setCell ⟨mb, 1, none⟩ (.int .i64 (mv + ((m : Int) - (o : Int))))).drew = W4 at *
      have u0 : W4.cell? ⟨T, 0, none⟩ = some (.int .i64 ((i : Int) + mv)) := L.ft.cell 0 rfl
      have u1 : W4.cell? ⟨T, 1, none⟩ = some (.slice D1 (q - i) k1) := L.ft.cell 1 rfl
      have u2 : W4.cell? ⟨T, 2, none⟩ = some (.slice D m cn) := L.ft.cell 2 rfl
      have q0 : W4.cell? ⟨g + 1, 0, none⟩ = some (.int .i64 0) := L.fh.cell 0 rfl
      have q1 : W4.cell? ⟨g + 1, 1, none⟩ = some (.slice none 0 0) := L.fh.cell 1 rfl
      have q2 : W4.cell? ⟨g + 1, 2, none⟩ = some (.slice none 0 0) := L.fh.cell 2 rfl
      have f0 := L.fh.frozen 0
      have f1 := L.fh.frozen 1
      have f2 := L.fh.frozen 2
      have HE := Lib.hid (next_end L HW.out HGS.out hmg HQ.out)
      have HF5 := Lib.hid (((L.fh.set 0 (.int .i64 ((i : Int) + mv))).set 1 (.slice D1 (q - i) k1)).set 2 (.slice D m cn))
      clear L
      go_wp2_with fail
      have b5 := HF5.out
      have h5 := HE.out
      generalize ((W4.setCell ⟨g + 1, 0, none⟩ (.int .i64 ((i : Int) + mv))).setCell ⟨g + 1, 1, none⟩ (.slice D1 (q - i) k1)).setCell ⟨g + 1, 2, none⟩ (.slice D m cn) = W5 at *
      have p0 : W5.cell? ⟨g + 1, 0, none⟩ = some (.int .i64 ((i : Int) + mv)) := b5.cell 0 rfl
      have p1 : W5.cell? ⟨g + 1, 1, none⟩ = some (.slice D1 (q - i) k1) := b5.cell 1 rfl
      have p2 : W5.cell? ⟨g + 1, 2, none⟩ = some (.slice D m cn) := b5.cell 2 rfl
      exact bodyPost_ret (v := hkV (i + mv) D1 (q - i) k1 D m cn) (by simp [results, Try.results30, go_sem, p0, p1, p2]) rfl h5

end Hk
end Go.Proofs.Ytkpgkbllcdpobaa

namespace Go.Proofs.Ytkpgkbllcdpobaa
open Go.RowKit
set_option linter.unusedVariables false
namespace Hk
open Tx Df

/-- All blocks of lines are as they were. -/
def KpS (W W' : World) : Prop := ∀ (k : Nat) c f, W.heap[k]? = some (.cells c 9 f) → W'.heap[k]? = some (.cells c 9 f)
theorem KpS.refl (W : World) : KpS W W := fun _ _ _ h => h
theorem KpS.trans {W W1 W2 : World} (h : KpS W W1) (h' : KpS W1 W2) : KpS W W2 := fun k c f hk => h' k c f (h k c f hk)
theorem KpS.drewN (W : World) (d : Nat) : KpS W (W.drewN d) := fun _ _ _ h => h
theorem kpS_none {W W' : World} (hg : W.grownBy W' none) : KpS W W' := fun k c f hk => (hg.block k (Array.getElem?_eq_some_iff.1 hk).1 (nn k)).trans hk
theorem kpS_blk {W W' : World} {b : Nat} {t : TypeId} {cs : Array Value} (hb : Blk W b t cs) (ht : t ≠ 9) (hg : W.grownBy W' (some b)) : KpS W W' := fun k c f hk =>
  (hg.block k (Array.getElem?_eq_some_iff.1 hk).1 (fun e => by
    injection e with e; subst e
    rw [show W.heap[k]? = _ from hb] at hk; injection hk with hk; injection hk with _ h2; exact ht h2)).trans hk
theorem kpS_row {W W' : World} {base e size n : Nat} {v : Value} {xs : List Value} (hr : W.ownsRow base e size v n xs) (ht : e ≠ 9) (hg : W.grownBy W' v.ownBlock) : KpS W W' := fun k c f hk =>
  (hg.block k (Array.getElem?_eq_some_iff.1 hk).1 (fun eq => by
    rcases hr.2 with ⟨rfl, _⟩ | ⟨g, cap, cur, rfl, _, hgb, _⟩
    · simp [Value.ownBlock] at eq
    · obtain rfl : k = g := by simpa [Value.ownBlock] using eq
      rw [hk] at hgb; injection hgb with hgb; injection hgb with _ h2; exact ht h2.symm)).trans hk
theorem own_kpS {W W' : World} {h n : Nat} {v : Value} {xs : List Value} (hr : W.ownsRow h 9 1 v n xs) (hk : KpS W W') : W'.ownsRow h 9 1 v n xs := by
  refine ⟨hr.1, ?_⟩
  rcases hr.2 with h | ⟨g, cap, cur, k1, k2, k3, k4⟩
  · exact .inl h
  · exact .inr ⟨g, cap, cur, k1, k2, hk g _ _ k3, k4⟩

/-- The cells of hunks: their Old in rows of one's own, their New below block B. -/
def HCells (W : World) (h B : Nat) (hs : List HU) (xs : List Value) : Prop :=
  xs.length = hs.length * 3 ∧ ∀ (k : Nat) x, hs[k]? = some x → ∃ A c A' c', xs[k * 3]? = some (.int .i64 x.pos) ∧ xs[k * 3 + 1]? = some (.slice A x.old.length c) ∧ xs[k * 3 + 2]? = some (.slice A' x.new.length c') ∧
    W.ownsRow h 9 1 (.slice A x.old.length c) x.old.length (x.old.map strV) ∧ x.new.length ≤ c' ∧ RdS W B A' x.new ∧ I64 x.pos ∧ x.old.length ≤ maxLen ∧ x.new.length ≤ maxLen

theorem hcells_nil (W : World) (h B : Nat) : HCells W h B [] [] := ⟨rfl, fun k x hx => by simp at hx⟩
theorem HCells.kept {W W' : World} {h B : Nat} {hs : List HU} {xs : List Value} (H : HCells W h B hs xs) (hk : KpS W W') (hr : ∀ A ls, RdS W B A ls → RdS W' B A ls) : HCells W' h B hs xs := by
  refine ⟨H.1, fun k x hx => ?_⟩
  obtain ⟨A, c, A', c', g1, g2, g3, g4, g5, g6, g7⟩ := H.2 k x hx
  exact ⟨A, c, A', c', g1, g2, g3, own_kpS g4 hk, g5, hr _ _ g6, g7⟩
theorem hcells_snoc {W : World} {h B : Nat} {hs : List HU} {xs : List Value} {x : HU} {A A' : Option Addr} {c c' : Nat} (H : HCells W h B hs xs)
    (hr : W.ownsRow h 9 1 (.slice A x.old.length c) x.old.length (x.old.map strV)) (hc : x.new.length ≤ c') (hn : RdS W B A' x.new) (hp : I64 x.pos) (ho : x.old.length ≤ maxLen) (hl : x.new.length ≤ maxLen) :
    HCells W h B (hs ++ [x]) (xs ++ [.int .i64 x.pos, .slice A x.old.length c, .slice A' x.new.length c']) := by
  obtain ⟨h1, h2⟩ := H
  refine ⟨by simp only [List.length_append, h1, List.length_cons, List.length_nil]; omega, fun k y hy => ?_⟩
  rcases Nat.lt_trichotomy k hs.length with hk | rfl | hk
  · rw [List.getElem?_append_left hk] at hy
    obtain ⟨A, c, A', c', g1, g2, g3, g⟩ := h2 k y hy
    refine ⟨A, c, A', c', ?_, ?_, ?_, g⟩
    · rw [List.getElem?_append_left (by omega)]; exact g1
    · rw [List.getElem?_append_left (by omega)]; exact g2
    · rw [List.getElem?_append_left (by omega)]; exact g3
  · rw [List.getElem?_append_right (Nat.le_refl _), Nat.sub_self] at hy
    cases hy
    refine ⟨A, c, A', c', ?_, ?_, ?_, hr, hc, hn, hp, ho, hl⟩
    · rw [← h1, List.getElem?_append_right (Nat.le_refl _), Nat.sub_self]; rfl
    · rw [← h1, List.getElem?_append_right (by omega), Nat.add_sub_cancel_left]; rfl
    · rw [← h1, List.getElem?_append_right (by omega), Nat.add_sub_cancel_left]; rfl
  · rw [List.getElem?_eq_none (by simp; omega)] at hy; cases hy

/-- A row of hunks of one's own is read as hunks. -/
theorem rdH_own {W : World} {base h B n : Nat} {v : Value} {hs : List HU} {xs : List Value} (hr : W.ownsRow base 24 3 v n xs) (H : HCells W h B hs xs) (hn : hs.length = n) (hB : B ≤ W.heap.size) :
    ∃ A c, v = .slice A n c ∧ n ≤ c ∧ RdH W W.heap.size A hs := by
  rcases hr.2 with ⟨rfl, rfl⟩ | ⟨g, cap, cur, rfl, _, hg, hc, _⟩
  · exact ⟨none, 0, rfl, Nat.le_refl _, .inl (List.eq_nil_of_length_eq_zero hn)⟩
  · refine ⟨_, cap, rfl, hc, .inr ⟨_, rfl, (Array.getElem?_eq_some_iff.1 hg).1, fun k x hx => ?_⟩⟩
    obtain ⟨A, c, A', c', g1, g2, g3, g4, g5, g6, g7, g8, g9⟩ := H.2 k x hx
    have hk : k < hs.length := (List.getElem?_eq_some_iff.1 hx).1
    have ea : (⟨g, 0, none⟩ : Addr).add (k * 3) = ⟨g, k * 3, none⟩ := by unfold Addr.add; split <;> simp_all
    obtain ⟨A0, c0, e0, hc0, hrd⟩ := rd_of_own g4
    cases e0
    refine ⟨?_, A, c, A', c', ?_, ?_, rfl, rfl, hc0, g5, g8, g9, hrd, Rd.up g6 hB, g7⟩
    · rw [ea, hr.cellAt (k * 3) (by omega)]; exact g1
    · rw [ea]; show W.cell? ⟨g, k * 3 + 1, none⟩ = _; rw [hr.cellAt (k * 3 + 1) (by omega)]; exact g2
    · rw [ea]; show W.cell? ⟨g, k * 3 + 2, none⟩ = _; rw [hr.cellAt (k * 3 + 2) (by omega)]; exact g3

/-- All blocks below B are as they were but b. -/
def Keep (B b : Nat) (W W' : World) : Prop := ∀ k, k < B → k ≠ b → W'.heap[k]? = W.heap[k]?
theorem keep_gr {B b : Nat} {W W' : World} {row : Option Nat} (hg : W.grownBy W' row) (hB : B ≤ W.heap.size) (hr : ∀ k, row = some k → k = b ∨ B ≤ k) : Keep B b W W' := fun k hk hne =>
  hg.block k (by omega) (fun e => by rcases hr k e.symm with h | h <;> omega)
theorem Keep.trans {B b : Nat} {W W1 W2 : World} (h : Keep B b W W1) (h' : Keep B b W1 W2) : Keep B b W W2 := fun k hk hne => (h' k hk hne).trans (h k hk hne)

/-- What is read of edits and lines is read still where one block of two cells, no lines, has changed. -/
theorem rdS_gr {W W' : World} {B b : Nat} {t : TypeId} {A0 : Option Addr} {n0 c0 : Nat} {k0 : IntKind} {m0 : Int} {A : Option Addr} {ls : List (List UInt8)} (hb : Blk W b t #[.slice A0 n0 c0, .int k0 m0]) (hg : Keep B b W W') (hR : RdS W B A ls) : RdS W' B A ls := by
  rcases hR with h | ⟨a, e, hlt, hc⟩
  · exact .inl h
  · refine .inr ⟨a, e, hlt, fun j u hu => ?_⟩
    have hcell := hc j u hu
    refine (World.cell?_of_block (hg _ (by rw [add_block]; exact hlt) (fun eq => ?_))).trans hcell
    rw [List.getElem?_map, Option.map_eq_some_iff] at hu
    obtain ⟨l, _, rfl⟩ := hu
    unfold World.cell? at hcell
    rw [eq, show W.heap[b]? = _ from hb] at hcell
    simp only at hcell
    split at hcell
    · cases hcell
    · generalize (a.add j).off = o at hcell
      match o, hcell with
      | 0, h => simp at h
      | 1, h => simp at h
      | o + 2, h => simp at h
theorem rdE_gr {W W' : World} {B b : Nat} {t : TypeId} {A0 : Option Addr} {n0 c0 : Nat} {k0 : IntKind} {m0 : Int} {A : Option Addr} {es : List E} (hb : Blk W b t #[.slice A0 n0 c0, .int k0 m0]) (hg : Keep B b W W') (hR : RdE W B A es) : RdE W' B A es := by
  rcases hR with h | ⟨a, e, hlt, hc⟩
  · exact .inl h
  · refine .inr ⟨a, e, hlt, fun k x hx => ?_⟩
    obtain ⟨c0, c1, ⟨A, c, h2, h3, h4⟩, p, o, n⟩ := hc k x hx
    have hne : (a.add (k * 3)).block ≠ b := fun eq => by
      unfold World.cell? at h2
      simp only [eq, show W.heap[b]? = _ from hb] at h2
      simp at h2
    have kp : ∀ o u, W.cell? ⟨(a.add (k * 3)).block, o, none⟩ = some u → W'.cell? ⟨(a.add (k * 3)).block, o, none⟩ = some u := fun o u h => (World.cell?_of_block (a := ⟨(a.add (k * 3)).block, o, none⟩) (hg _ (by show (a.add (k * 3)).block < B; rw [add_block]; exact hlt) hne)).trans h
    exact ⟨(World.cell?_of_block (hg _ (by rw [add_block]; exact hlt) hne)).trans c0, kp _ _ c1, ⟨A, c, kp _ _ h2, h3, rdS_gr hb hg h4⟩, p, o, n⟩

end Hk
end Go.Proofs.Ytkpgkbllcdpobaa

namespace Go.Proofs.Ytkpgkbllcdpobaa
open Go.RowKit
set_option linter.unusedVariables false
namespace Df
open Tx

theorem own (A : Option Addr) (c n B : Nat) (ls : List (List UInt8)) (w : World) (hn : ls.length = n) (hln : n ≤ 1000000) (hR : RdS w B A ls) :
    Calls Try.prog 39 #[.slice A n c] w (OwnEnd w n (ls.map strV)) := by
  obtain ⟨j0, hj, hy0, hy1, hy2⟩ := info_parts info_str
  have HN := Lib.hid hn; clear hn
  go_enter Try.func39, Try.ntmps39
  go_wp2_with (at_builtin; refine wpList_nil' rfl (.const (.slice none 0 0)) (.tmp 3) 22 rfl 9 j0 (.string ⟨#[]⟩) 16 Try.underlying22 hj hy0 hy1 hy2 rfl rfl B A n c (ls.map strV) rfl (by rw [List.length_map]; exact HN.out) hR (strs_one _) (by unfold maxLen; omega) (by omega) ?_; intro A' c' w' hA hg)
  go_ret
  exact ⟨A', c', rfl, hA, hg⟩

/-- The cells of edits, their New in rows of one's own. -/
def ECells (W : World) (h : Nat) (es : List E) (xs : List Value) : Prop :=
  xs.length = es.length * 3 ∧ ∀ (k : Nat) x, es[k]? = some x → ∃ A c, xs[k * 3]? = some (.int .i64 x.pos) ∧ xs[k * 3 + 1]? = some (.int .i64 x.old) ∧ xs[k * 3 + 2]? = some (.slice A x.new.length c) ∧
    W.ownsRow h 9 1 (.slice A x.new.length c) x.new.length (x.new.map strV) ∧ I64 x.pos ∧ I64 x.old ∧ x.new.length ≤ maxLen

theorem ecells_nil (W : World) (h : Nat) : ECells W h [] [] := ⟨rfl, fun k x hx => by simp at hx⟩
theorem ecells_snoc {W : World} {h : Nat} {es : List E} {xs : List Value} {x : E} {A : Option Addr} {c : Nat} (he : ECells W h es xs)
    (hr : W.ownsRow h 9 1 (.slice A x.new.length c) x.new.length (x.new.map strV)) (hp : I64 x.pos) (ho : I64 x.old) (hl : x.new.length ≤ maxLen) :
    ECells W h (es ++ [x]) (xs ++ [.int .i64 x.pos, .int .i64 x.old, .slice A x.new.length c]) := by
  obtain ⟨h1, h2⟩ := he
  refine ⟨by simp only [List.length_append, h1, List.length_cons, List.length_nil]; omega, fun k y hy => ?_⟩
  rcases Nat.lt_trichotomy k es.length with hk | rfl | hk
  · rw [List.getElem?_append_left hk] at hy
    obtain ⟨A, c, g1, g2, g3, g⟩ := h2 k y hy
    refine ⟨A, c, ?_, ?_, ?_, g⟩
    · rw [List.getElem?_append_left (by omega)]; exact g1
    · rw [List.getElem?_append_left (by omega)]; exact g2
    · rw [List.getElem?_append_left (by omega)]; exact g3
  · rw [List.getElem?_append_right (Nat.le_refl _), Nat.sub_self] at hy
    cases hy
    refine ⟨A, c, ?_, ?_, ?_, hr, hp, ho, hl⟩
    · rw [← h1, List.getElem?_append_right (Nat.le_refl _), Nat.sub_self]; rfl
    · rw [← h1, List.getElem?_append_right (by omega), Nat.add_sub_cancel_left]; rfl
    · rw [← h1, List.getElem?_append_right (by omega), Nat.add_sub_cancel_left]; rfl
  · rw [List.getElem?_eq_none (by simp; omega)] at hy; cases hy

/-- All blocks are as they were but those of numbers, of edits, and of variables that hold edits. -/
def KpE (W W' : World) : Prop := ∀ (k : Nat) c t f, W.heap[k]? = some (.cells c t f) → t ≠ 3 → t ≠ 47 → t ≠ 50 → W'.heap[k]? = some (.cells c t f)
theorem KpE.refl (W : World) : KpE W W := fun _ _ _ _ h _ _ _ => h
theorem KpE.trans {W W1 W2 : World} (h : KpE W W1) (h' : KpE W1 W2) : KpE W W2 := fun k c t f hk a b d => h' k c t f (h k c t f hk a b d) a b d
theorem kpE_none {W W' : World} (hg : W.grownBy W' none) : KpE W W' := fun k c t f hk _ _ _ => (hg.block k (Array.getElem?_eq_some_iff.1 hk).1 (fun e => by cases e)).trans hk
theorem kpE_grown {base n : Nat} {v : Value} {xs : List Value} {W W' : World} (h : W.ownsRow base 50 3 v n xs) (hg : W.grownBy W' v.ownBlock) : KpE W W' := fun k c t f hk _ _ ht => typ_grown h hg k c t f hk ht
theorem kpE_set {W : World} {b : Nat} {t : TypeId} {u : Value} (v : Value) (hb : Boxed W b t u) (ht : t = 3 ∨ t = 47) : KpE W (W.setCell ⟨b, 0, none⟩ v) := by
  intro k c t' f hk a1 a2 a3
  refine (Below.heap_setCell _ _ _ k (fun e => ?_)).trans hk
  subst e
  rw [show W.heap[k]? = _ from hb] at hk; cases hk
  rcases ht with h | h
  · exact a1 h
  · exact a2 h
theorem kpE_row {W W' : World} {h n : Nat} {v : Value} {xs : List Value} (hr : W.ownsRow h 9 1 v n xs) (hk : KpE W W') : W'.ownsRow h 9 1 v n xs := by
  refine ⟨hr.1, ?_⟩
  rcases hr.2 with h | ⟨g, cap, cur, k1, k2, k3, k4⟩
  · exact .inl h
  · exact .inr ⟨g, cap, cur, k1, k2, hk g _ _ _ k3 (by decide) (by decide) (by decide), k4⟩
theorem ECells.kept {W W' : World} {h : Nat} {es : List E} {xs : List Value} (he : ECells W h es xs) (hk : KpE W W') : ECells W' h es xs := by
  refine ⟨he.1, fun k x hx => ?_⟩
  obtain ⟨A, c, g1, g2, g3, g4, g5⟩ := he.2 k x hx
  exact ⟨A, c, g1, g2, g3, kpE_row g4 hk, g5⟩

/-- A row of edits of one's own is read as edits. -/
theorem rdE_own {W : World} {base h n : Nat} {v : Value} {es : List E} {xs : List Value} (hr : W.ownsRow base 50 3 v n xs) (he : ECells W h es xs) (hn : es.length = n) :
    ∃ A c, v = .slice A n c ∧ n ≤ c ∧ RdE W W.heap.size A es := by
  rcases hr.2 with ⟨rfl, rfl⟩ | ⟨g, cap, cur, rfl, _, hg, hc, _⟩
  · exact ⟨none, 0, rfl, Nat.le_refl _, .inl (List.eq_nil_of_length_eq_zero hn)⟩
  · refine ⟨_, cap, rfl, hc, .inr ⟨_, rfl, (Array.getElem?_eq_some_iff.1 hg).1, fun k x hx => ?_⟩⟩
    obtain ⟨A, c, g1, g2, g3, g4, g5, g6, g7⟩ := he.2 k x hx
    have hk : k < es.length := (List.getElem?_eq_some_iff.1 hx).1
    have ea : (⟨g, 0, none⟩ : Addr).add (k * 3) = ⟨g, k * 3, none⟩ := by unfold Addr.add; split <;> simp_all
    obtain ⟨A0, c0, e0, hc0, hrd⟩ := rd_of_own g4
    cases e0
    refine ⟨?_, ?_, ⟨A, c, ?_, hc0, hrd⟩, g5, g6, g7⟩
    · rw [ea, hr.cellAt (k * 3) (by omega)]; exact g1
    · rw [ea]; show W.cell? ⟨g, k * 3 + 1, none⟩ = _; rw [hr.cellAt (k * 3 + 1) (by omega)]; exact g2
    · rw [ea]; show W.cell? ⟨g, k * 3 + 2, none⟩ = _; rw [hr.cellAt (k * 3 + 2) (by omega)]; exact g3

end Df
end Go.Proofs.Ytkpgkbllcdpobaa

namespace Go.Proofs.Ytkpgkbllcdpobaa
open Go.RowKit
set_option linter.unusedVariables false
namespace Df
open Tx

theorem info_edit : (Try.prog.info? 50).map (fun i => (i.zero, i.size, i.bytes)) = some (some (.agg #[.int .i64 0, .int .i64 0, .slice none 0 0]), 3, 40) := by kernel_rfl

/-- The variables of Edits, from block h on: b, l, i, j; the edits told so far. -/
structure Vars (W : World) (h : Nat) (vb : Value) (i j : Nat) (es : List E) : Prop where
  b : Boxed W h 22 vb
  i : Boxed W (h + 2) 3 (.int .i64 (i : Int))
  j : Boxed W (h + 3) 3 (.int .i64 (j : Int))
  l : ∃ v xs, Boxed W (h + 1) 47 v ∧ W.ownsRow h 50 3 v es.length xs ∧ ECells W h es xs

/-- How tell ends. -/
def TellEnd (W : World) (h : Nat) (vb : Value) (p q : Nat) (es : List E) (e : Ending) (W' : World) : Prop :=
  e = .returned (.tuple #[]) ∧ Vars W' h vb p q es ∧ Below h W W' ∧ KpE W W'

theorem box_set {W : World} {b b' : Nat} {t : TypeId} {v : Value} (h : Boxed W b t v) (u : Value) (hne : b ≠ b') : Boxed (W.setCell ⟨b', 0, none⟩ u) b t v := h.kept (grownBy_setCell' W b' u) (by simpa using hne)
theorem row_set {W : World} {b base n : Nat} {t e : TypeId} {v u0 : Value} {xs : List Value} {size : Nat} (h : W.ownsRow base e size v n xs) (hb : Boxed W b t u0) (ht : t ≠ e) (u : Value) : (W.setCell ⟨b, 0, none⟩ u).ownsRow base e size v n xs :=
  h.kept (grownBy_setCell' W b u) (.inr fun e' => hb.not_row ht h e'.symm)

/-- Where the two places have moved. -/
theorem moved {W : World} {h : Nat} {vb : Value} {i j : Nat} {es : List E} (hv : Vars W h vb i j es) (p q : Nat) :
    Vars ((W.setCell ⟨h + 2, 0, none⟩ (.int .i64 (p : Int))).setCell ⟨h + 3, 0, none⟩ (.int .i64 (q : Int))) h vb p q es ∧
    Below h W ((W.setCell ⟨h + 2, 0, none⟩ (.int .i64 (p : Int))).setCell ⟨h + 3, 0, none⟩ (.int .i64 (q : Int))) ∧ KpE W ((W.setCell ⟨h + 2, 0, none⟩ (.int .i64 (p : Int))).setCell ⟨h + 3, 0, none⟩ (.int .i64 (q : Int))) := by
  obtain ⟨hb, hbi, hbj, v, xs, hl, hrow, hE⟩ := hv
  have hj1 := box_set hbj (.int .i64 (p : Int)) (b' := h + 2) (by omega)
  have hk : KpE W ((W.setCell ⟨h + 2, 0, none⟩ (.int .i64 (p : Int))).setCell ⟨h + 3, 0, none⟩ (.int .i64 (q : Int))) := (kpE_set _ hbi (.inl rfl)).trans (kpE_set _ hj1 (.inl rfl))
  refine ⟨⟨box_set (box_set hb _ (by omega)) _ (by omega), box_set (hbi.set _) _ (by omega), hj1.set _, v, xs, box_set (box_set hl _ (by omega)) _ (by omega), row_set (row_set hrow hbi (by decide) _) hj1 (by decide) _, hE.kept hk⟩, ?_, hk⟩
  exact ((Below.refl _ _).setCell (p := ⟨h + 2, 0, none⟩) (by show h ≤ h + 2; omega) _).setCell (p := ⟨h + 3, 0, none⟩) (by show h ≤ h + 3; omega) _

theorem moved2 {W W1 : World} {h : Nat} {vb : Value} {i j : Nat} {es : List E} (h0 : Vars W1 h vb i j es ∧ Below h W W1 ∧ KpE W W1) (p q : Nat) :
    Vars ((W1.setCell ⟨h + 2, 0, none⟩ (.int .i64 (p : Int))).setCell ⟨h + 3, 0, none⟩ (.int .i64 (q : Int))) h vb p q es ∧
    Below h W ((W1.setCell ⟨h + 2, 0, none⟩ (.int .i64 (p : Int))).setCell ⟨h + 3, 0, none⟩ (.int .i64 (q : Int))) ∧ KpE W ((W1.setCell ⟨h + 2, 0, none⟩ (.int .i64 (p : Int))).setCell ⟨h + 3, 0, none⟩ (.int .i64 (q : Int))) := by
  obtain ⟨h1, h2, h3⟩ := h0
  obtain ⟨k1, k2, k3⟩ := moved h1 p q
  exact ⟨k1, h2.trans k2, h3.trans k3⟩

theorem cell_gn {W w1 : World} {row : Option Nat} {b : Nat} {u : Value} (hg : W.grownBy w1 row) (hb : b < W.heap.size) (hne : some b ≠ row) (hc : W.cell? ⟨b, 0, none⟩ = some u) : w1.cell? ⟨b, 0, none⟩ = some u := by
  have e := hg.block b hb hne
  unfold World.cell? at hc ⊢
  rw [e]; exact hc

theorem cell_al {W : World} {p : Addr} {u : Value} (o : Obj) (h : W.cell? p = some u) : (W.alloc o).cell? p = some u := (((Below.refl _ W).alloc (Nat.le_refl _) o).cell (p := p) (World.block_lt_of_cell? W p h)).trans h

/-- Where an edit has been told. -/
theorem told {W w1 w2 : World} {h i j ne k c1 gg cap : Nat} {vb v : Value} {A1 : Option Addr} {es : List E} {xs : List Value} {x : E} {o : Obj} (hb : Boxed W h 22 vb) (hbi : Boxed W (h + 2) 3 (.int .i64 (i : Int))) (hbj : Boxed W (h + 3) 3 (.int .i64 (j : Int)))
    (hl : Boxed W (h + 1) 47 v) (hrow : W.ownsRow h 50 3 v ne xs) (hE : ECells W h es xs) (hne : es.length = ne) (hk : x.new.length = k) (hh : h ≤ W.heap.size)
    (hr1 : w1.ownsRow W.heap.size 9 1 (.slice A1 k c1) k (x.new.map strV)) (hg1 : W.drew.grownBy w1 none) (hgrow : (w1.alloc o).grownBy w2 v.ownBlock)
    (hown : w2.ownsRow h 50 3 (.slice (some ⟨gg, 0, none⟩) (ne + 1) cap) (ne + 1) (xs ++ [.int .i64 x.pos, .int .i64 x.old, .slice A1 k c1])) (hp : I64 x.pos) (ho : I64 x.old) (hl1 : x.new.length ≤ maxLen) :
    (Boxed w2 h 22 vb ∧ Boxed w2 (h + 1) 47 v ∧ Boxed w2 (h + 2) 3 (.int .i64 (i : Int)) ∧ Boxed w2 (h + 3) 3 (.int .i64 (j : Int))) ∧
    Vars (w2.setCell ⟨h + 1, 0, none⟩ (.slice (some ⟨gg, 0, none⟩) (ne + 1) cap)) h vb i j (es ++ [x]) ∧
    Below h W (w2.setCell ⟨h + 1, 0, none⟩ (.slice (some ⟨gg, 0, none⟩) (ne + 1) cap)) ∧ KpE W (w2.setCell ⟨h + 1, 0, none⟩ (.slice (some ⟨gg, 0, none⟩) (ne + 1) cap)) := by
  have hd : W.grownBy W.drew none := ⟨rfl, rfl, rfl, Nat.le_refl _, fun _ _ _ => rfl⟩
  have ha := World.grownBy_alloc w1 o none
  have em : v.ownBlock = none ∨ v.ownBlock ≠ none := Classical.em _
  have nn : ∀ b : Nat, some b ≠ (none : Option Nat) := fun b e => by cases e
  have hrow1 := ((hrow.kept hd em).kept hg1 em).kept ha em
  have up : ∀ {b t u}, Boxed W b t u → t ≠ 50 → Boxed w2 b t u := fun {b t u} hx ht => by
    have h1 := ((hx.kept hd (nn b)).kept hg1 (nn b)).kept ha (nn b)
    exact h1.kept hgrow (h1.not_row ht hrow1)
  have hb2 := up hb (by decide)
  have hi2 := up hbi (by decide)
  have hj2 := up hbj (by decide)
  have hl2 := up hl (by decide)
  have k1 : KpE W (w1.alloc o) := ((kpE_none hd).trans (kpE_none hg1)).trans (kpE_none ha)
  have k2 : KpE (w1.alloc o) w2 := kpE_grown hrow1 hgrow
  have k3 : KpE w2 (w2.setCell ⟨h + 1, 0, none⟩ (.slice (some ⟨gg, 0, none⟩) (ne + 1) cap)) := kpE_set _ hl2 (.inr rfl)
  have b1 : Below h W (w1.alloc o) := (((Below.refl h W).grown hd hh (fun j hj => by cases hj)).grown hg1 (by simpa using hh) (fun j hj => by cases hj)).grown ha (Nat.le_trans hh (by simpa using hg1.size)) (fun j hj => by cases hj)
  subst hk; subst hne
  refine ⟨⟨hb2, hl2, hi2, hj2⟩, ⟨box_set hb2 _ (by omega), box_set hi2 _ (by omega), box_set hj2 _ (by omega), _, xs ++ [.int .i64 x.pos, .int .i64 x.old, .slice A1 x.new.length c1], hl2.set _, ?_, ?_⟩, (b1.grown hgrow (Nat.le_trans hh b1.size) (own_ge hrow1)).setCell (p := ⟨h + 1, 0, none⟩) (by show h ≤ h + 1; omega) _, (k1.trans k2).trans k3⟩
  · rw [List.length_append]; exact row_set hown hl2 (by decide) _
  · exact ecells_snoc ((hE.kept (k1.trans k2)).kept k3) (kpE_row (kpE_row ((own_mono hr1 hh).kept ha (Classical.em _)) k2) k3) hp ho hl1

set_option maxRecDepth 100000 in
set_option maxHeartbeats 1000000 in
theorem tell_no (h i j : Nat) (vb : Value) (es : List E) (W : World) (hv : Vars W h vb i j es) (hi : i ≤ 1000) (hj : j ≤ 1000) :
    Calls Try.prog 38 #[.int .i64 (i : Int), .int .i64 (j : Int), .pointer (some ⟨h + 2, 0, none⟩), .pointer (some ⟨h + 3, 0, none⟩), .pointer (some ⟨h + 1, 0, none⟩), .pointer (some ⟨h, 0, none⟩)] W (TellEnd W h vb i j es) := by
  obtain ⟨hb, hbi, hbj, v, xs, hl, hrow, hE⟩ := hv
  have ci := hbi.cell
  have fi := hbi.frozen
  have cj := hbj.cell
  have fj := hbj.frozen
  go_enter Try.func38, Try.ntmps38
  go_wp2
  refine bodyPost_end (results_none rfl _ _ _) rfl ⟨rfl, moved ⟨hb, hbi, hbj, v, xs, hl, hrow, hE⟩ i j⟩

set_option maxRecDepth 100000 in
set_option maxHeartbeats 4000000 in
theorem tell_at (h i j p q m : Nat) (A : Option Addr) (bs : List (List UInt8)) (es : List E) (W : World) (hv : Vars W h (.slice A m j) i j es) (hm : bs.length = m) (hmc : m ≤ j) (hip : i ≤ p) (hjq : j ≤ q) (hqm : q ≤ m) (hp : p ≤ 1000) (hm1 : m ≤ 1000) (hes : es.length ≤ 10000) (hh : h ≤ W.heap.size)
    (hR : RdS W h A bs) (hor : i < p ∨ j < q) :
    Calls Try.prog 38 #[.int .i64 (p : Int), .int .i64 (q : Int), .pointer (some ⟨h + 2, 0, none⟩), .pointer (some ⟨h + 3, 0, none⟩), .pointer (some ⟨h + 1, 0, none⟩), .pointer (some ⟨h, 0, none⟩)] W (TellEnd W h (.slice A m j) p q (es ++ [⟨i, (p : Int) - i, mid bs j q⟩])) := by
  obtain ⟨i0, hi0, hz0, hz1, hz2⟩ := info_parts info_edit
  obtain ⟨hb, hbi, hbj, v, xs, hl, hrow, hE⟩ := hv
  obtain ⟨ne, hne⟩ : ∃ ne, es.length = ne := ⟨_, rfl⟩
  rw [hne] at hrow hes
  obtain ⟨Av, cv, rfl, hcv, _⟩ := rdE_own hrow hE hne
  have HNE := Lib.hid hne; clear hne
  have cb := hb.cell
  have ci := hbi.cell
  have cj := hbj.cell
  have cl := hl.cell
  have fl := hl.frozen
  have lb := hb.lt
  have li := hbi.lt
  have lj := hbj.lt
  have ll := hl.lt
  have hD := Rd.drop hR (k := j) (cap := j) (by rw [List.length_map, hm]; exact hmc)
  have HM := Lib.hid hm; clear hm
  have hmm : ((bs.map strV).drop j).take (q - j) = (mid bs j q).map strV := mid_map.symm
  have HL : Hid ((mid bs j q).length = q - j) := Lib.hid (by rw [mid_len (by rw [HM.out]; omega)])
  have t1 : (0 : Int) ≤ (j : Int) := by omega
  have t2 : (j : Int) ≤ (q : Int) := by omega
  have t3 : (q : Int) ≤ (j : Int) := by omega
  rw [if_pos rfl] at hD
  have hDT := hD.take (q - j)
  rw [hmm] at hDT
  have HDT := Lib.hid hDT
  clear hD hDT hmm
  have HRD : Hid (∀ w' : World, Below h W w' → RdS w' h A (mid bs j q)) := Lib.hid (fun w' hb' => Rd.below HDT.out hb')
  have HB := Lib.hid hb; have HBI := Lib.hid hbi; have HBJ := Lib.hid hbj; have HBL := Lib.hid hl; have HROW := Lib.hid hrow; have HE := Lib.hid hE
  clear hb hbi hbj hl hrow hE
  have f1 : q - j ≤ 1000000 := by omega
  have f2 : ne + 1 ≤ maxLen := by unfold maxLen; omega
  have f3 : (ne + 1) * 40 ≤ 140737488355328 := by omega
  have f4 : q - j ≤ maxLen := by unfold maxLen; omega
  have hP : I64 ((i : Nat) : Int) := by unfold I64; omega
  have hO : I64 ((p : Int) - i) := by unfold I64; omega
  have HP := Lib.hid hP; have HO := Lib.hid hO; clear hP hO
  have em : (Value.slice Av ne cv).ownBlock = none ∨ (Value.slice Av ne cv).ownBlock ≠ none := Classical.em _
  have nn : ∀ b : Nat, some b ≠ (none : Option Nat) := fun b e => by cases e
  have EM := Lib.hid em; have NN := Lib.hid nn; clear em nn
  have hip' : i < p := by omega
  all_goals
    have hw : IntKind.i64.wrap ((p : Int) - (i : Int)) = (p : Int) - (i : Int) := IntWalk.i64_in _ (by omega)
    go_enter Try.func38, Try.ntmps38
    go_wp2_with fail
    refine wp_region_held_drew (S := (fun w' : World => w'.cell? ⟨h, 0, none⟩ = some (.slice A m j) ∧ w'.cell? ⟨h + 2, 0, none⟩ = some (.int .i64 (i : Int)) ∧ w'.cell? ⟨h + 3, 0, none⟩ = some (.int .i64 (j : Int)))) (by kernel_rfl) ⟨cb, ci, cj⟩ (fun hS0 => ?_)
    refine wpAnyH_take (i := 1) (v := ?_) rfl (by kernel_rfl) (by kernel_rfl) (by kernel_rfl) (fun _ _ _ h => h) (Or.inl ⟨by rfl, ?_⟩) hS0 ?_
    rotate_left
    · intro X hX
      obtain ⟨s1, s2, s3⟩ := hX
      go_simp
      try with_reducible rfl
    simp only [Act.put, List.getElem_toArray, List.getElem_cons_succ, List.getElem_cons_zero, List.setIfInBounds_toArray, List.set_cons_succ, List.set_cons_zero]
    refine wpAnyH_take (i := 2) (v := ?_) rfl (by kernel_rfl) (by kernel_rfl) (by kernel_rfl) (fun _ _ _ h => h) (Or.inl ⟨by rfl, ?_⟩) hS0 ?_
    rotate_left
    · intro X hX
      obtain ⟨s1, s2, s3⟩ := hX
      go_simp
      try with_reducible rfl
    simp only [Act.put, List.getElem_toArray, List.getElem_cons_succ, List.getElem_cons_zero, List.setIfInBounds_toArray, List.set_cons_succ, List.set_cons_zero]
    refine wpAnyH_take (i := 3) (v := ?_) rfl (by kernel_rfl) (by kernel_rfl) (by kernel_rfl) (fun _ _ _ h => h) (Or.inl ⟨by rfl, ?_⟩) hS0 ?_
    rotate_left
    · intro X hX
      obtain ⟨s1, s2, s3⟩ := hX
      go_simp
      try with_reducible rfl
    simp only [Act.put, List.getElem_toArray, List.getElem_cons_succ, List.getElem_cons_zero, List.setIfInBounds_toArray, List.set_cons_succ, List.set_cons_zero]
    refine wpAnyH_take (i := 4) (v := ?_) rfl (by kernel_rfl) (by kernel_rfl) (by kernel_rfl) (fun _ _ _ h => h) (Or.inl ⟨by rfl, ?_⟩) hS0 ?_
    rotate_left
    · intro X hX
      obtain ⟨s1, s2, s3⟩ := hX
      go_simp
      try with_reducible rfl
    simp only [Act.put, List.getElem_toArray, List.getElem_cons_succ, List.getElem_cons_zero, List.setIfInBounds_toArray, List.set_cons_succ, List.set_cons_zero]
    refine wpAnyH_take (i := 5) (v := ?_) rfl (by kernel_rfl) (by kernel_rfl) (by kernel_rfl) (fun _ _ _ h => h) (Or.inl ⟨by rfl, ?_⟩) hS0 ?_
    rotate_left
    · intro X hX
      obtain ⟨s1, s2, s3⟩ := hX
      go_simp
      try with_reducible rfl
    simp only [Act.put, List.getElem_toArray, List.getElem_cons_succ, List.getElem_cons_zero, List.setIfInBounds_toArray, List.set_cons_succ, List.set_cons_zero]
    refine wpAnyH_take (i := 6) (v := ?_) rfl (by kernel_rfl) (by kernel_rfl) (by kernel_rfl) (fun _ _ _ h => h) (Or.inl ⟨by rfl, ?_⟩) hS0 ?_
    rotate_left
    · intro X hX
      obtain ⟨s1, s2, s3⟩ := hX
      go_simp
      try with_reducible rfl
    simp only [Act.put, List.getElem_toArray, List.getElem_cons_succ, List.getElem_cons_zero, List.setIfInBounds_toArray, List.set_cons_succ, List.set_cons_zero]
    refine wpAnyH_take (i := 7) (v := ?_) rfl (by kernel_rfl) (by kernel_rfl) (by kernel_rfl) (fun _ _ _ h => h) (Or.inl ⟨by rfl, ?_⟩) hS0 ?_
    rotate_left
    · intro X hX
      obtain ⟨s1, s2, s3⟩ := hX
      go_simp
      try with_reducible rfl
    simp only [Act.put, List.getElem_toArray, List.getElem_cons_succ, List.getElem_cons_zero, List.setIfInBounds_toArray, List.set_cons_succ, List.set_cons_zero]
    refine wpAnyH_take (i := 8) (v := ?_) rfl (by kernel_rfl) (by kernel_rfl) (by kernel_rfl) (fun _ _ _ h => h) (Or.inl ⟨by rfl, ?_⟩) hS0 ?_
    rotate_left
    · intro X hX
      obtain ⟨s1, s2, s3⟩ := hX
      go_simp
      try with_reducible rfl
    simp only [Act.put, List.getElem_toArray, List.getElem_cons_succ, List.getElem_cons_zero, List.setIfInBounds_toArray, List.set_cons_succ, List.set_cons_zero]
    refine wpAnyH_ready (rs := [0, 9]) (by kernel_rfl) (by simp) ?_
    refine AllReadyH.cons rfl (fun K' hK' => ?_) (AllReadyH.cons rfl (fun K' hK' => ?_) AllReadyH.nil)
    · go_simp
      refine hK'.out _ _ ⟨cb, ci, cj⟩ (fun hS0 => ?_)
      clear hK' K'
      refine wpAnyH_ready (rs := [9]) (by kernel_rfl) (by simp) ?_
      refine AllReadyH.cons rfl (fun K' hK' => ?_) AllReadyH.nil
      go_simp
      refine (own _ _ _ h (mid bs j q) _ HL.out f1 (HRD.out _ (below_drewN (Below.refl h W) 1))).mono ?_
      rintro e w1 ⟨A1, c1, rfl, hr1, hg1⟩
      have HR1 := Lib.hid hr1
      have HG1 := Lib.hid hg1
      have z1 := cell_gn hg1 ll (NN.out _) cl
      have z2 := fun o => cell_al o z1
      clear hr1 hg1
      refine hK'.out _ _ ⟨cell_gn HG1.out lb (NN.out _) cb, cell_gn HG1.out li (NN.out _) ci, cell_gn HG1.out lj (NN.out _) cj⟩ (fun hS0 => ?_)
      clear hK' K'
      refine wpAnyH_take (i := 10) (v := ?_) rfl (by kernel_rfl) (by kernel_rfl) (by kernel_rfl) (fun _ _ _ h => h) (Or.inl ⟨by rfl, ?_⟩) hS0 ?_
      rotate_left
      · intro X hX
        obtain ⟨s1, s2, s3⟩ := hX
        go_simp
        try with_reducible rfl
      simp only [Act.put, List.getElem_toArray, List.getElem_cons_succ, List.getElem_cons_zero, List.setIfInBounds_toArray, List.set_cons_succ, List.set_cons_zero]
      refine wpAnyH_ready (rs := [11]) (by kernel_rfl) (by simp) ?_
      refine AllReadyH.cons rfl (fun K' hK' => ?_) AllReadyH.nil
      go_simp
      refine hK'.out _ _ ⟨cell_al _ (cell_gn HG1.out lb (NN.out _) cb), cell_al _ (cell_gn HG1.out li (NN.out _) ci), cell_al _ (cell_gn HG1.out lj (NN.out _) cj)⟩ (fun hS0 => ?_)
      clear hK' K'
      refine wpAnyH_ready (rs := [12]) (by kernel_rfl) (by simp) ?_
      refine AllReadyH.cons rfl (fun K' hK' => ?_) AllReadyH.nil
      refine step_append_lies _ (by rfl) _ _ _ (by rfl) h 50 i0 _ 3 40 Try.underlying47 hi0 hz0 hz1 hz2 rfl (by decide) (.slice Av ne cv) ne xs (by rfl) ((HROW.out.drew.kept HG1.out EM.out).alloc _) ⟨w1.heap.size, 0, none⟩ 1 1 [.int .i64 (i : Int), .int .i64 ((p : Int) - i), .slice A1 (q - j) c1] (by rfl) (by rfl) (World.news_of_block (cs := #[.int .i64 (i : Int), .int .i64 ((p : Int) - i), .slice A1 (q - j) c1]) (t := 50) (fr := (0, 0)) (heap_alloc_new w1 _)) (by simp [Value.oneCell']) (by decide) f2 f3 (Nat.le_trans hh (Nat.le_trans HG1.out.size (by simp))) (w1.heap.size + 1) (by simp) ?_
      intro gg cap w2 hown2 hgrow hat hlt
      obtain ⟨⟨d0, d1, d2, d3⟩, hT⟩ := told (x := ⟨i, (p : Int) - i, mid bs j q⟩) HB.out HBI.out HBJ.out HBL.out HROW.out HE.out HNE.out HL.out hh HR1.out HG1.out hgrow hown2 HP.out HO.out (Nat.le_trans (Nat.le_of_eq HL.out) f4)
      have HT := Lib.hid hT
      have x0 := d0.cell
      have x1 := d1.cell
      have x2 := d2.cell
      have x3 := d3.cell
      have y1 := d1.frozen
      have y2 := d2.frozen
      have y3 := d3.frozen
      clear hT hgrow hown2
      refine hK'.out _ _ ⟨x0, x2, x3⟩ (fun hS0 => ?_)
      clear hK' K'
      simp only [Act.put, List.getElem_toArray, List.getElem_cons_succ, List.getElem_cons_zero, List.setIfInBounds_toArray, List.set_cons_succ, List.set_cons_zero]
      refine wpAnyH_ready (rs := [13]) (by kernel_rfl) (by simp) ?_
      refine AllReadyH.cons rfl (fun K' hK' => ?_) AllReadyH.nil
      go_simp
      have HT4 := HT
      refine hK'.out _ _ ⟨HT4.out.1.b.cell, HT4.out.1.i.cell, HT4.out.1.j.cell⟩ (fun hS0 => ?_)
      clear hK' K'
      refine wpAnyH_done (by kernel_rfl) ?_ _
      clear hw
      go_wp2
      exact bodyPost_end (results_none rfl _ _ _) rfl ⟨rfl, moved2 HT.out p q⟩
    · go_simp
      refine (own _ _ _ h (mid bs j q) _ HL.out f1 (HRD.out _ (below_drewN (Below.refl h W) 1))).mono ?_
      rintro e w1 ⟨A1, c1, rfl, hr1, hg1⟩
      have HR1 := Lib.hid hr1
      have HG1 := Lib.hid hg1
      have z1 := cell_gn hg1 ll (NN.out _) cl
      have z2 := fun o => cell_al o z1
      clear hr1 hg1
      refine hK'.out _ _ ⟨cell_gn HG1.out lb (NN.out _) cb, cell_gn HG1.out li (NN.out _) ci, cell_gn HG1.out lj (NN.out _) cj⟩ (fun hS0 => ?_)
      clear hK' K'
      refine wpAnyH_take (i := 10) (v := ?_) rfl (by kernel_rfl) (by kernel_rfl) (by kernel_rfl) (fun _ _ _ h => h) (Or.inl ⟨by rfl, ?_⟩) hS0 ?_
      rotate_left
      · intro X hX
        obtain ⟨s1, s2, s3⟩ := hX
        go_simp
        try with_reducible rfl
      simp only [Act.put, List.getElem_toArray, List.getElem_cons_succ, List.getElem_cons_zero, List.setIfInBounds_toArray, List.set_cons_succ, List.set_cons_zero]
      refine wpAnyH_ready (rs := [0, 11]) (by kernel_rfl) (by simp) ?_
      refine AllReadyH.cons rfl (fun K' hK' => ?_) (AllReadyH.cons rfl (fun K' hK' => ?_) AllReadyH.nil)
      · go_simp
        refine hK'.out _ _ ⟨cell_gn HG1.out lb (NN.out _) cb, cell_gn HG1.out li (NN.out _) ci, cell_gn HG1.out lj (NN.out _) cj⟩ (fun hS0 => ?_)
        clear hK' K'
        refine wpAnyH_ready (rs := [11]) (by kernel_rfl) (by simp) ?_
        refine AllReadyH.cons rfl (fun K' hK' => ?_) AllReadyH.nil
        go_simp
        refine hK'.out _ _ ⟨cell_al _ (cell_gn HG1.out lb (NN.out _) cb), cell_al _ (cell_gn HG1.out li (NN.out _) ci), cell_al _ (cell_gn HG1.out lj (NN.out _) cj)⟩ (fun hS0 => ?_)
        clear hK' K'
        refine wpAnyH_ready (rs := [12]) (by kernel_rfl) (by simp) ?_
        refine AllReadyH.cons rfl (fun K' hK' => ?_) AllReadyH.nil
        refine step_append_lies _ (by rfl) _ _ _ (by rfl) h 50 i0 _ 3 40 Try.underlying47 hi0 hz0 hz1 hz2 rfl (by decide) (.slice Av ne cv) ne xs (by rfl) ((HROW.out.drew.kept HG1.out EM.out).alloc _) ⟨w1.heap.size, 0, none⟩ 1 1 [.int .i64 (i : Int), .int .i64 ((p : Int) - i), .slice A1 (q - j) c1] (by rfl) (by rfl) (World.news_of_block (cs := #[.int .i64 (i : Int), .int .i64 ((p : Int) - i), .slice A1 (q - j) c1]) (t := 50) (fr := (0, 0)) (heap_alloc_new w1 _)) (by simp [Value.oneCell']) (by decide) f2 f3 (Nat.le_trans hh (Nat.le_trans HG1.out.size (by simp))) (w1.heap.size + 1) (by simp) ?_
        intro gg cap w2 hown2 hgrow hat hlt
        obtain ⟨⟨d0, d1, d2, d3⟩, hT⟩ := told (x := ⟨i, (p : Int) - i, mid bs j q⟩) HB.out HBI.out HBJ.out HBL.out HROW.out HE.out HNE.out HL.out hh HR1.out HG1.out hgrow hown2 HP.out HO.out (Nat.le_trans (Nat.le_of_eq HL.out) f4)
        have HT := Lib.hid hT
        have x0 := d0.cell
        have x1 := d1.cell
        have x2 := d2.cell
        have x3 := d3.cell
        have y1 := d1.frozen
        have y2 := d2.frozen
        have y3 := d3.frozen
        clear hT hgrow hown2
        refine hK'.out _ _ ⟨x0, x2, x3⟩ (fun hS0 => ?_)
        clear hK' K'
        simp only [Act.put, List.getElem_toArray, List.getElem_cons_succ, List.getElem_cons_zero, List.setIfInBounds_toArray, List.set_cons_succ, List.set_cons_zero]
        refine wpAnyH_ready (rs := [13]) (by kernel_rfl) (by simp) ?_
        refine AllReadyH.cons rfl (fun K' hK' => ?_) AllReadyH.nil
        go_simp
        have HT4 := HT
        refine hK'.out _ _ ⟨HT4.out.1.b.cell, HT4.out.1.i.cell, HT4.out.1.j.cell⟩ (fun hS0 => ?_)
        clear hK' K'
        refine wpAnyH_done (by kernel_rfl) ?_ _
        clear hw
        go_wp2
        exact bodyPost_end (results_none rfl _ _ _) rfl ⟨rfl, moved2 HT.out p q⟩
      · go_simp
        refine hK'.out _ _ ⟨cell_al _ (cell_gn HG1.out lb (NN.out _) cb), cell_al _ (cell_gn HG1.out li (NN.out _) ci), cell_al _ (cell_gn HG1.out lj (NN.out _) cj)⟩ (fun hS0 => ?_)
        clear hK' K'
        refine wpAnyH_ready (rs := [0]) (by kernel_rfl) (by simp) ?_
        refine AllReadyH.cons rfl (fun K' hK' => ?_) AllReadyH.nil
        go_simp
        refine hK'.out _ _ ⟨cell_al _ (cell_gn HG1.out lb (NN.out _) cb), cell_al _ (cell_gn HG1.out li (NN.out _) ci), cell_al _ (cell_gn HG1.out lj (NN.out _) cj)⟩ (fun hS0 => ?_)
        clear hK' K'
        refine wpAnyH_ready (rs := [12]) (by kernel_rfl) (by simp) ?_
        refine AllReadyH.cons rfl (fun K' hK' => ?_) AllReadyH.nil
        refine step_append_lies _ (by rfl) _ _ _ (by rfl) h 50 i0 _ 3 40 Try.underlying47 hi0 hz0 hz1 hz2 rfl (by decide) (.slice Av ne cv) ne xs (by rfl) ((HROW.out.drew.kept HG1.out EM.out).alloc _) ⟨w1.heap.size, 0, none⟩ 1 1 [.int .i64 (i : Int), .int .i64 ((p : Int) - i), .slice A1 (q - j) c1] (by rfl) (by rfl) (World.news_of_block (cs := #[.int .i64 (i : Int), .int .i64 ((p : Int) - i), .slice A1 (q - j) c1]) (t := 50) (fr := (0, 0)) (heap_alloc_new w1 _)) (by simp [Value.oneCell']) (by decide) f2 f3 (Nat.le_trans hh (Nat.le_trans HG1.out.size (by simp))) (w1.heap.size + 1) (by simp) ?_
        intro gg cap w2 hown2 hgrow hat hlt
        obtain ⟨⟨d0, d1, d2, d3⟩, hT⟩ := told (x := ⟨i, (p : Int) - i, mid bs j q⟩) HB.out HBI.out HBJ.out HBL.out HROW.out HE.out HNE.out HL.out hh HR1.out HG1.out hgrow hown2 HP.out HO.out (Nat.le_trans (Nat.le_of_eq HL.out) f4)
        have HT := Lib.hid hT
        have x0 := d0.cell
        have x1 := d1.cell
        have x2 := d2.cell
        have x3 := d3.cell
        have y1 := d1.frozen
        have y2 := d2.frozen
        have y3 := d3.frozen
        clear hT hgrow hown2
        refine hK'.out _ _ ⟨x0, x2, x3⟩ (fun hS0 => ?_)
        clear hK' K'
        simp only [Act.put, List.getElem_toArray, List.getElem_cons_succ, List.getElem_cons_zero, List.setIfInBounds_toArray, List.set_cons_succ, List.set_cons_zero]
        refine wpAnyH_ready (rs := [13]) (by kernel_rfl) (by simp) ?_
        refine AllReadyH.cons rfl (fun K' hK' => ?_) AllReadyH.nil
        go_simp
        have HT4 := HT
        refine hK'.out _ _ ⟨HT4.out.1.b.cell, HT4.out.1.i.cell, HT4.out.1.j.cell⟩ (fun hS0 => ?_)
        clear hK' K'
        refine wpAnyH_done (by kernel_rfl) ?_ _
        clear hw
        go_wp2
        exact bodyPost_end (results_none rfl _ _ _) rfl ⟨rfl, moved2 HT.out p q⟩

set_option maxRecDepth 100000 in
set_option maxHeartbeats 4000000 in
theorem tell_un (h i j p q m c : Nat) (A : Option Addr) (bs : List (List UInt8)) (es : List E) (W : World) (hv : Vars W h (.slice A m c) i j es) (hm : bs.length = m) (hmc : m ≤ c) (hip : i ≤ p) (hjq : j ≤ q) (hqm : q ≤ m) (hp : p ≤ 1000) (hm1 : m ≤ 1000) (hes : es.length ≤ 10000) (hh : h ≤ W.heap.size)
    (hR : RdS W h A bs) (hor : i < p ∨ j < q) (hcj : ¬ c = j) :
    Calls Try.prog 38 #[.int .i64 (p : Int), .int .i64 (q : Int), .pointer (some ⟨h + 2, 0, none⟩), .pointer (some ⟨h + 3, 0, none⟩), .pointer (some ⟨h + 1, 0, none⟩), .pointer (some ⟨h, 0, none⟩)] W (TellEnd W h (.slice A m c) p q (es ++ [⟨i, (p : Int) - i, mid bs j q⟩])) := by
  obtain ⟨i0, hi0, hz0, hz1, hz2⟩ := info_parts info_edit
  obtain ⟨hb, hbi, hbj, v, xs, hl, hrow, hE⟩ := hv
  obtain ⟨ne, hne⟩ : ∃ ne, es.length = ne := ⟨_, rfl⟩
  rw [hne] at hrow hes
  obtain ⟨Av, cv, rfl, hcv, _⟩ := rdE_own hrow hE hne
  have HNE := Lib.hid hne; clear hne
  have cb := hb.cell
  have ci := hbi.cell
  have cj := hbj.cell
  have cl := hl.cell
  have fl := hl.frozen
  have lb := hb.lt
  have li := hbi.lt
  have lj := hbj.lt
  have ll := hl.lt
  have hD := Rd.drop hR (k := j) (cap := c) (by rw [List.length_map, hm]; exact hmc)
  have HM := Lib.hid hm; clear hm
  have hmm : ((bs.map strV).drop j).take (q - j) = (mid bs j q).map strV := mid_map.symm
  have HL : Hid ((mid bs j q).length = q - j) := Lib.hid (by rw [mid_len (by rw [HM.out]; omega)])
  have t1 : (0 : Int) ≤ (j : Int) := by omega
  have t2 : (j : Int) ≤ (q : Int) := by omega
  have t3 : (q : Int) ≤ (c : Int) := by omega
  rw [if_neg hcj] at hD
  have hDT := hD.take (q - j)
  rw [hmm] at hDT
  have HDT := Lib.hid hDT
  clear hD hDT hmm
  have HRD : Hid (∀ w' : World, Below h W w' → RdS w' h (A.map (·.add j)) (mid bs j q)) := Lib.hid (fun w' hb' => Rd.below HDT.out hb')
  have HB := Lib.hid hb; have HBI := Lib.hid hbi; have HBJ := Lib.hid hbj; have HBL := Lib.hid hl; have HROW := Lib.hid hrow; have HE := Lib.hid hE
  clear hb hbi hbj hl hrow hE
  have f1 : q - j ≤ 1000000 := by omega
  have f2 : ne + 1 ≤ maxLen := by unfold maxLen; omega
  have f3 : (ne + 1) * 40 ≤ 140737488355328 := by omega
  have f4 : q - j ≤ maxLen := by unfold maxLen; omega
  have hP : I64 ((i : Nat) : Int) := by unfold I64; omega
  have hO : I64 ((p : Int) - i) := by unfold I64; omega
  have HP := Lib.hid hP; have HO := Lib.hid hO; clear hP hO
  have em : (Value.slice Av ne cv).ownBlock = none ∨ (Value.slice Av ne cv).ownBlock ≠ none := Classical.em _
  have nn : ∀ b : Nat, some b ≠ (none : Option Nat) := fun b e => by cases e
  have EM := Lib.hid em; have NN := Lib.hid nn; clear em nn
  by_cases hip' : i < p
  all_goals
    have hw : IntKind.i64.wrap ((p : Int) - (i : Int)) = (p : Int) - (i : Int) := IntWalk.i64_in _ (by omega)
    go_enter Try.func38, Try.ntmps38
    go_wp2_with fail
    refine wp_region_held_drew (S := (fun w' : World => w'.cell? ⟨h, 0, none⟩ = some (.slice A m c) ∧ w'.cell? ⟨h + 2, 0, none⟩ = some (.int .i64 (i : Int)) ∧ w'.cell? ⟨h + 3, 0, none⟩ = some (.int .i64 (j : Int)))) (by kernel_rfl) ⟨cb, ci, cj⟩ (fun hS0 => ?_)
    refine wpAnyH_take (i := 1) (v := ?_) rfl (by kernel_rfl) (by kernel_rfl) (by kernel_rfl) (fun _ _ _ h => h) (Or.inl ⟨by rfl, ?_⟩) hS0 ?_
    rotate_left
    · intro X hX
      obtain ⟨s1, s2, s3⟩ := hX
      go_simp
      try with_reducible rfl
    simp only [Act.put, List.getElem_toArray, List.getElem_cons_succ, List.getElem_cons_zero, List.setIfInBounds_toArray, List.set_cons_succ, List.set_cons_zero]
    refine wpAnyH_take (i := 2) (v := ?_) rfl (by kernel_rfl) (by kernel_rfl) (by kernel_rfl) (fun _ _ _ h => h) (Or.inl ⟨by rfl, ?_⟩) hS0 ?_
    rotate_left
    · intro X hX
      obtain ⟨s1, s2, s3⟩ := hX
      go_simp
      try with_reducible rfl
    simp only [Act.put, List.getElem_toArray, List.getElem_cons_succ, List.getElem_cons_zero, List.setIfInBounds_toArray, List.set_cons_succ, List.set_cons_zero]
    refine wpAnyH_take (i := 3) (v := ?_) rfl (by kernel_rfl) (by kernel_rfl) (by kernel_rfl) (fun _ _ _ h => h) (Or.inl ⟨by rfl, ?_⟩) hS0 ?_
    rotate_left
    · intro X hX
      obtain ⟨s1, s2, s3⟩ := hX
      go_simp
      try with_reducible rfl
    simp only [Act.put, List.getElem_toArray, List.getElem_cons_succ, List.getElem_cons_zero, List.setIfInBounds_toArray, List.set_cons_succ, List.set_cons_zero]
    refine wpAnyH_take (i := 4) (v := ?_) rfl (by kernel_rfl) (by kernel_rfl) (by kernel_rfl) (fun _ _ _ h => h) (Or.inl ⟨by rfl, ?_⟩) hS0 ?_
    rotate_left
    · intro X hX
      obtain ⟨s1, s2, s3⟩ := hX
      go_simp
      try with_reducible rfl
    simp only [Act.put, List.getElem_toArray, List.getElem_cons_succ, List.getElem_cons_zero, List.setIfInBounds_toArray, List.set_cons_succ, List.set_cons_zero]
    refine wpAnyH_take (i := 5) (v := ?_) rfl (by kernel_rfl) (by kernel_rfl) (by kernel_rfl) (fun _ _ _ h => h) (Or.inl ⟨by rfl, ?_⟩) hS0 ?_
    rotate_left
    · intro X hX
      obtain ⟨s1, s2, s3⟩ := hX
      go_simp
      try with_reducible rfl
    simp only [Act.put, List.getElem_toArray, List.getElem_cons_succ, List.getElem_cons_zero, List.setIfInBounds_toArray, List.set_cons_succ, List.set_cons_zero]
    refine wpAnyH_take (i := 6) (v := ?_) rfl (by kernel_rfl) (by kernel_rfl) (by kernel_rfl) (fun _ _ _ h => h) (Or.inl ⟨by rfl, ?_⟩) hS0 ?_
    rotate_left
    · intro X hX
      obtain ⟨s1, s2, s3⟩ := hX
      go_simp
      try with_reducible rfl
    simp only [Act.put, List.getElem_toArray, List.getElem_cons_succ, List.getElem_cons_zero, List.setIfInBounds_toArray, List.set_cons_succ, List.set_cons_zero]
    refine wpAnyH_take (i := 7) (v := ?_) rfl (by kernel_rfl) (by kernel_rfl) (by kernel_rfl) (fun _ _ _ h => h) (Or.inl ⟨by rfl, ?_⟩) hS0 ?_
    rotate_left
    · intro X hX
      obtain ⟨s1, s2, s3⟩ := hX
      go_simp
      try with_reducible rfl
    simp only [Act.put, List.getElem_toArray, List.getElem_cons_succ, List.getElem_cons_zero, List.setIfInBounds_toArray, List.set_cons_succ, List.set_cons_zero]
    refine wpAnyH_take (i := 8) (v := ?_) rfl (by kernel_rfl) (by kernel_rfl) (by kernel_rfl) (fun _ _ _ h => h) (Or.inl ⟨by rfl, ?_⟩) hS0 ?_
    rotate_left
    · intro X hX
      obtain ⟨s1, s2, s3⟩ := hX
      go_simp
      try with_reducible rfl
    simp only [Act.put, List.getElem_toArray, List.getElem_cons_succ, List.getElem_cons_zero, List.setIfInBounds_toArray, List.set_cons_succ, List.set_cons_zero]
    refine wpAnyH_ready (rs := [0, 9]) (by kernel_rfl) (by simp) ?_
    refine AllReadyH.cons rfl (fun K' hK' => ?_) (AllReadyH.cons rfl (fun K' hK' => ?_) AllReadyH.nil)
    · go_simp
      refine hK'.out _ _ ⟨cb, ci, cj⟩ (fun hS0 => ?_)
      clear hK' K'
      refine wpAnyH_ready (rs := [9]) (by kernel_rfl) (by simp) ?_
      refine AllReadyH.cons rfl (fun K' hK' => ?_) AllReadyH.nil
      go_simp
      refine (own _ _ _ h (mid bs j q) _ HL.out f1 (HRD.out _ (below_drewN (Below.refl h W) 1))).mono ?_
      rintro e w1 ⟨A1, c1, rfl, hr1, hg1⟩
      have HR1 := Lib.hid hr1
      have HG1 := Lib.hid hg1
      have z1 := cell_gn hg1 ll (NN.out _) cl
      have z2 := fun o => cell_al o z1
      clear hr1 hg1
      refine hK'.out _ _ ⟨cell_gn HG1.out lb (NN.out _) cb, cell_gn HG1.out li (NN.out _) ci, cell_gn HG1.out lj (NN.out _) cj⟩ (fun hS0 => ?_)
      clear hK' K'
      refine wpAnyH_take (i := 10) (v := ?_) rfl (by kernel_rfl) (by kernel_rfl) (by kernel_rfl) (fun _ _ _ h => h) (Or.inl ⟨by rfl, ?_⟩) hS0 ?_
      rotate_left
      · intro X hX
        obtain ⟨s1, s2, s3⟩ := hX
        go_simp
        try with_reducible rfl
      simp only [Act.put, List.getElem_toArray, List.getElem_cons_succ, List.getElem_cons_zero, List.setIfInBounds_toArray, List.set_cons_succ, List.set_cons_zero]
      refine wpAnyH_ready (rs := [11]) (by kernel_rfl) (by simp) ?_
      refine AllReadyH.cons rfl (fun K' hK' => ?_) AllReadyH.nil
      go_simp
      refine hK'.out _ _ ⟨cell_al _ (cell_gn HG1.out lb (NN.out _) cb), cell_al _ (cell_gn HG1.out li (NN.out _) ci), cell_al _ (cell_gn HG1.out lj (NN.out _) cj)⟩ (fun hS0 => ?_)
      clear hK' K'
      refine wpAnyH_ready (rs := [12]) (by kernel_rfl) (by simp) ?_
      refine AllReadyH.cons rfl (fun K' hK' => ?_) AllReadyH.nil
      refine step_append_lies _ (by rfl) _ _ _ (by rfl) h 50 i0 _ 3 40 Try.underlying47 hi0 hz0 hz1 hz2 rfl (by decide) (.slice Av ne cv) ne xs (by rfl) ((HROW.out.drew.kept HG1.out EM.out).alloc _) ⟨w1.heap.size, 0, none⟩ 1 1 [.int .i64 (i : Int), .int .i64 ((p : Int) - i), .slice A1 (q - j) c1] (by rfl) (by rfl) (World.news_of_block (cs := #[.int .i64 (i : Int), .int .i64 ((p : Int) - i), .slice A1 (q - j) c1]) (t := 50) (fr := (0, 0)) (heap_alloc_new w1 _)) (by simp [Value.oneCell']) (by decide) f2 f3 (Nat.le_trans hh (Nat.le_trans HG1.out.size (by simp))) (w1.heap.size + 1) (by simp) ?_
      intro gg cap w2 hown2 hgrow hat hlt
      obtain ⟨⟨d0, d1, d2, d3⟩, hT⟩ := told (x := ⟨i, (p : Int) - i, mid bs j q⟩) HB.out HBI.out HBJ.out HBL.out HROW.out HE.out HNE.out HL.out hh HR1.out HG1.out hgrow hown2 HP.out HO.out (Nat.le_trans (Nat.le_of_eq HL.out) f4)
      have HT := Lib.hid hT
      have x0 := d0.cell
      have x1 := d1.cell
      have x2 := d2.cell
      have x3 := d3.cell
      have y1 := d1.frozen
      have y2 := d2.frozen
      have y3 := d3.frozen
      clear hT hgrow hown2
      refine hK'.out _ _ ⟨x0, x2, x3⟩ (fun hS0 => ?_)
      clear hK' K'
      simp only [Act.put, List.getElem_toArray, List.getElem_cons_succ, List.getElem_cons_zero, List.setIfInBounds_toArray, List.set_cons_succ, List.set_cons_zero]
      refine wpAnyH_ready (rs := [13]) (by kernel_rfl) (by simp) ?_
      refine AllReadyH.cons rfl (fun K' hK' => ?_) AllReadyH.nil
      go_simp
      have HT4 := HT
      refine hK'.out _ _ ⟨HT4.out.1.b.cell, HT4.out.1.i.cell, HT4.out.1.j.cell⟩ (fun hS0 => ?_)
      clear hK' K'
      refine wpAnyH_done (by kernel_rfl) ?_ _
      clear hw
      go_wp2
      exact bodyPost_end (results_none rfl _ _ _) rfl ⟨rfl, moved2 HT.out p q⟩
    · go_simp
      refine (own _ _ _ h (mid bs j q) _ HL.out f1 (HRD.out _ (below_drewN (Below.refl h W) 1))).mono ?_
      rintro e w1 ⟨A1, c1, rfl, hr1, hg1⟩
      have HR1 := Lib.hid hr1
      have HG1 := Lib.hid hg1
      have z1 := cell_gn hg1 ll (NN.out _) cl
      have z2 := fun o => cell_al o z1
      clear hr1 hg1
      refine hK'.out _ _ ⟨cell_gn HG1.out lb (NN.out _) cb, cell_gn HG1.out li (NN.out _) ci, cell_gn HG1.out lj (NN.out _) cj⟩ (fun hS0 => ?_)
      clear hK' K'
      refine wpAnyH_take (i := 10) (v := ?_) rfl (by kernel_rfl) (by kernel_rfl) (by kernel_rfl) (fun _ _ _ h => h) (Or.inl ⟨by rfl, ?_⟩) hS0 ?_
      rotate_left
      · intro X hX
        obtain ⟨s1, s2, s3⟩ := hX
        go_simp
        try with_reducible rfl
      simp only [Act.put, List.getElem_toArray, List.getElem_cons_succ, List.getElem_cons_zero, List.setIfInBounds_toArray, List.set_cons_succ, List.set_cons_zero]
      refine wpAnyH_ready (rs := [0, 11]) (by kernel_rfl) (by simp) ?_
      refine AllReadyH.cons rfl (fun K' hK' => ?_) (AllReadyH.cons rfl (fun K' hK' => ?_) AllReadyH.nil)
      · go_simp
        refine hK'.out _ _ ⟨cell_gn HG1.out lb (NN.out _) cb, cell_gn HG1.out li (NN.out _) ci, cell_gn HG1.out lj (NN.out _) cj⟩ (fun hS0 => ?_)
        clear hK' K'
        refine wpAnyH_ready (rs := [11]) (by kernel_rfl) (by simp) ?_
        refine AllReadyH.cons rfl (fun K' hK' => ?_) AllReadyH.nil
        go_simp
        refine hK'.out _ _ ⟨cell_al _ (cell_gn HG1.out lb (NN.out _) cb), cell_al _ (cell_gn HG1.out li (NN.out _) ci), cell_al _ (cell_gn HG1.out lj (NN.out _) cj)⟩ (fun hS0 => ?_)
        clear hK' K'
        refine wpAnyH_ready (rs := [12]) (by kernel_rfl) (by simp) ?_
        refine AllReadyH.cons rfl (fun K' hK' => ?_) AllReadyH.nil
        refine step_append_lies _ (by rfl) _ _ _ (by rfl) h 50 i0 _ 3 40 Try.underlying47 hi0 hz0 hz1 hz2 rfl (by decide) (.slice Av ne cv) ne xs (by rfl) ((HROW.out.drew.kept HG1.out EM.out).alloc _) ⟨w1.heap.size, 0, none⟩ 1 1 [.int .i64 (i : Int), .int .i64 ((p : Int) - i), .slice A1 (q - j) c1] (by rfl) (by rfl) (World.news_of_block (cs := #[.int .i64 (i : Int), .int .i64 ((p : Int) - i), .slice A1 (q - j) c1]) (t := 50) (fr := (0, 0)) (heap_alloc_new w1 _)) (by simp [Value.oneCell']) (by decide) f2 f3 (Nat.le_trans hh (Nat.le_trans HG1.out.size (by simp))) (w1.heap.size + 1) (by simp) ?_
        intro gg cap w2 hown2 hgrow hat hlt
        obtain ⟨⟨d0, d1, d2, d3⟩, hT⟩ := told (x := ⟨i, (p : Int) - i, mid bs j q⟩) HB.out HBI.out HBJ.out HBL.out HROW.out HE.out HNE.out HL.out hh HR1.out HG1.out hgrow hown2 HP.out HO.out (Nat.le_trans (Nat.le_of_eq HL.out) f4)
        have HT := Lib.hid hT
        have x0 := d0.cell
        have x1 := d1.cell
        have x2 := d2.cell
        have x3 := d3.cell
        have y1 := d1.frozen
        have y2 := d2.frozen
        have y3 := d3.frozen
        clear hT hgrow hown2
        refine hK'.out _ _ ⟨x0, x2, x3⟩ (fun hS0 => ?_)
        clear hK' K'
        simp only [Act.put, List.getElem_toArray, List.getElem_cons_succ, List.getElem_cons_zero, List.setIfInBounds_toArray, List.set_cons_succ, List.set_cons_zero]
        refine wpAnyH_ready (rs := [13]) (by kernel_rfl) (by simp) ?_
        refine AllReadyH.cons rfl (fun K' hK' => ?_) AllReadyH.nil
        go_simp
        have HT4 := HT
        refine hK'.out _ _ ⟨HT4.out.1.b.cell, HT4.out.1.i.cell, HT4.out.1.j.cell⟩ (fun hS0 => ?_)
        clear hK' K'
        refine wpAnyH_done (by kernel_rfl) ?_ _
        clear hw
        go_wp2
        exact bodyPost_end (results_none rfl _ _ _) rfl ⟨rfl, moved2 HT.out p q⟩
      · go_simp
        refine hK'.out _ _ ⟨cell_al _ (cell_gn HG1.out lb (NN.out _) cb), cell_al _ (cell_gn HG1.out li (NN.out _) ci), cell_al _ (cell_gn HG1.out lj (NN.out _) cj)⟩ (fun hS0 => ?_)
        clear hK' K'
        refine wpAnyH_ready (rs := [0]) (by kernel_rfl) (by simp) ?_
        refine AllReadyH.cons rfl (fun K' hK' => ?_) AllReadyH.nil
        go_simp
        refine hK'.out _ _ ⟨cell_al _ (cell_gn HG1.out lb (NN.out _) cb), cell_al _ (cell_gn HG1.out li (NN.out _) ci), cell_al _ (cell_gn HG1.out lj (NN.out _) cj)⟩ (fun hS0 => ?_)
        clear hK' K'
        refine wpAnyH_ready (rs := [12]) (by kernel_rfl) (by simp) ?_
        refine AllReadyH.cons rfl (fun K' hK' => ?_) AllReadyH.nil
        refine step_append_lies _ (by rfl) _ _ _ (by rfl) h 50 i0 _ 3 40 Try.underlying47 hi0 hz0 hz1 hz2 rfl (by decide) (.slice Av ne cv) ne xs (by rfl) ((HROW.out.drew.kept HG1.out EM.out).alloc _) ⟨w1.heap.size, 0, none⟩ 1 1 [.int .i64 (i : Int), .int .i64 ((p : Int) - i), .slice A1 (q - j) c1] (by rfl) (by rfl) (World.news_of_block (cs := #[.int .i64 (i : Int), .int .i64 ((p : Int) - i), .slice A1 (q - j) c1]) (t := 50) (fr := (0, 0)) (heap_alloc_new w1 _)) (by simp [Value.oneCell']) (by decide) f2 f3 (Nat.le_trans hh (Nat.le_trans HG1.out.size (by simp))) (w1.heap.size + 1) (by simp) ?_
        intro gg cap w2 hown2 hgrow hat hlt
        obtain ⟨⟨d0, d1, d2, d3⟩, hT⟩ := told (x := ⟨i, (p : Int) - i, mid bs j q⟩) HB.out HBI.out HBJ.out HBL.out HROW.out HE.out HNE.out HL.out hh HR1.out HG1.out hgrow hown2 HP.out HO.out (Nat.le_trans (Nat.le_of_eq HL.out) f4)
        have HT := Lib.hid hT
        have x0 := d0.cell
        have x1 := d1.cell
        have x2 := d2.cell
        have x3 := d3.cell
        have y1 := d1.frozen
        have y2 := d2.frozen
        have y3 := d3.frozen
        clear hT hgrow hown2
        refine hK'.out _ _ ⟨x0, x2, x3⟩ (fun hS0 => ?_)
        clear hK' K'
        simp only [Act.put, List.getElem_toArray, List.getElem_cons_succ, List.getElem_cons_zero, List.setIfInBounds_toArray, List.set_cons_succ, List.set_cons_zero]
        refine wpAnyH_ready (rs := [13]) (by kernel_rfl) (by simp) ?_
        refine AllReadyH.cons rfl (fun K' hK' => ?_) AllReadyH.nil
        go_simp
        have HT4 := HT
        refine hK'.out _ _ ⟨HT4.out.1.b.cell, HT4.out.1.i.cell, HT4.out.1.j.cell⟩ (fun hS0 => ?_)
        clear hK' K'
        refine wpAnyH_done (by kernel_rfl) ?_ _
        clear hw
        go_wp2
        exact bodyPost_end (results_none rfl _ _ _) rfl ⟨rfl, moved2 HT.out p q⟩

end Df
end Go.Proofs.Ytkpgkbllcdpobaa

namespace Go.Proofs.Ytkpgkbllcdpobaa
open Go.RowKit
set_option linter.unusedVariables false
namespace Rg

/-- J does not mind new blocks, nor the turn of one block, at or beyond B, that is Free. -/
def Ab {β : Type} (Free : Obj → Prop) (B : Nat) (J : β → World → Prop) : Prop :=
  ∀ s W W' row, J s W → W.grownBy W' row → (∀ r, row = some r → B ≤ r ∧ ∃ o : Obj, W.heap[r]? = some o ∧ Free o) → J s W'

section
variable {β : Type} {Free : Obj → Prop} {B : Nat} {J J' : β → World → Prop}
theorem Ab.alloc (h : Ab Free B J) {s : β} {W : World} (o : Obj) (hs : J s W) : J s (W.alloc o) := h s W _ none hs (World.grownBy_alloc W o none) (fun r e => by cases e)
theorem Ab.new (h : Ab Free B J) {s : β} {W W' : World} (hs : J s W) (hg : W.grownBy W' none) : J s W' := h s W _ none hs hg (fun r e => by cases e)
theorem Ab.put (h : Ab Free B J) {s : β} {W : World} {l : Nat} {o : Obj} (o' : Obj) (hs : J s W) (hB : B ≤ l) (hl : W.heap[l]? = some o) (ho : Free o) : J s (W.putObj l o') :=
  h s W _ (some l) hs (grownBy_putObj' W l o') (fun r e => by cases e; exact ⟨hB, o, hl, ho⟩)
theorem Ab.and (h : Ab Free B J) (h' : Ab Free B J') : Ab Free B (fun s W => J s W ∧ J' s W) := fun s W W' row hs hg hr => ⟨h s W W' row hs.1 hg hr, h' s W W' row hs.2 hg hr⟩
theorem ab_pure (Free : Obj → Prop) (B : Nat) (p : β → Prop) : Ab Free B (fun s (_ : World) => p s) := fun _ _ _ _ hs _ _ => hs
/-- What lay in w0 and is no other block than 'row' is as it was. -/
theorem grow_trans {w W W' : World} {r r' : Option Nat} (h : w.grownBy W r) (k : W.grownBy W' r') (hr : ∀ j, r' = some j → w.heap.size ≤ j ∨ r = some j) : w.grownBy W' r :=
  ⟨k.os.trans h.os, k.tape.trans h.tape, k.output.trans h.output, Nat.le_trans h.size k.size, fun j hj hne => by
    refine (k.block j (by have := h.size; omega) (fun e => ?_)).trans (h.block j hj hne)
    rcases hr j e.symm with h1 | h1
    · omega
    · exact hne h1.symm⟩
theorem ab_grown {w : World} {r : Option Nat} (hB : w.heap.size ≤ B) : Ab Free B (fun (_ : β) W => w.grownBy W r) := fun _ W W' row hs hg hrow =>
  grow_trans hs hg (fun j e => .inl (by have := (hrow j e).1; omega))
theorem ab_below {w : World} {n : Nat} (hn : n ≤ w.heap.size) (hB : n ≤ B) : Ab Free B (fun (_ : β) W => Below n w W) := fun _ W W' row hs hg hrow =>
  hs.grown hg (by have := hs.size; omega) (fun j e => by have := (hrow j e).1; omega)
theorem ab_boxed {Bx : Nat} {t : TypeId} (f : β → Value) (hF : ∀ v, ¬ Free (.cells #[v] t (0, 0))) : Ab Free B (fun s W => Boxed W Bx t (f s)) := fun s W W' row hs hg hrow =>
  hs.kept hg (fun e => by obtain ⟨_, o, ho, hf⟩ := hrow Bx e.symm; rw [show W.heap[Bx]? = _ from hs] at ho; cases ho; exact hF _ hf)
theorem ab_row {base size : Nat} {e : TypeId} {v : Value} (n : β → Nat) (f : β → List Value) (hF : ∀ c, ¬ Free (.cells c e (0, 0))) : Ab Free B (fun s W => W.ownsRow base e size v (n s) (f s)) := fun s W W' row hs hg hrow =>
  hs.kept hg (by
    rcases hs.2 with ⟨rfl, _⟩ | ⟨g, cap, cur, rfl, _, hgb, _⟩
    · exact .inl rfl
    · refine .inr fun e' => ?_
      obtain ⟨_, o, ho, hf⟩ := hrow g (by simpa [Value.ownBlock] using e'.symm)
      rw [hgb] at ho; cases ho; exact hF _ hf)
theorem ab_ex {γ : Type} {K : γ → β → World → Prop} (h : ∀ c, Ab Free B (K c)) : Ab Free B (fun s W => ∃ c, K c s W) := fun s W W' row ⟨c, hs⟩ hg hrow => ⟨c, h c s W W' row hs hg hrow⟩
end

/-- What is no cells may be turned. -/
abbrev Plain (o : Obj) : Prop := o.isCells = false
theorem plain_cells (c : Array Value) (t : TypeId) (f : Nat × Nat) : ¬ Plain (.cells c t f) := by intro h; cases h

/-- The iterator gives the items of 'full', in order, as long as it is told to go on; E says as which values, and what holds there, an item is handed over. -/
def GivesE {α : Type} (P : Program) (Free : Obj → Prop) (n g : Nat) (lb : Array Value) (E : α → Array Value → World → Prop) (full : List α) (Kp : World → World → Prop) (w : World) : Prop :=
  ∀ (J Jx : List α → World → Prop) (W : World), Below w.heap.size w W → W.heap.size = w.heap.size + 2 → Ab Free (w.heap.size + 2) J → Ab Free (w.heap.size + 2) Jx →
    (∀ pre x post vals W1, full = pre ++ x :: post → J pre W1 → E x vals W1 → YieldAt Fence.wide (n - 1) P (w.heap.size + 1) vals W1 fun e W' =>
      (e = .returned (.bool true) ∧ J (pre ++ [x]) W' ∧ Kp W1 W') ∨ (e = .returned (.bool false) ∧ Jx (pre ++ [x]) W' ∧ KeepsFrom (w.heap.size + 2) W1 W')) →
    J [] W →
    CallsIn Fence.wide n P g (#[.func (.yield (w.heap.size + 1)) #[] #[]] ++ lb) W fun e W' => (∃ v, e = .returned v) ∧ (J full W' ∨ ∃ pre post, full = pre ++ post ∧ Jx pre W')
/-- .. where an item's values are told by the item alone. -/
def Gives {α : Type} (P : Program) (Free : Obj → Prop) (n g : Nat) (lb : Array Value) (encs : α → Array Value) (full : List α) (Kp : World → World → Prop) (w : World) : Prop :=
  GivesE P Free n g lb (fun x vals _ => vals = encs x) full Kp w

theorem keepsFrom_mono {B B' : Nat} {X Y : World} (h : KeepsFrom B X Y) (hB : B ≤ B') : KeepsFrom B' X Y := ⟨h.size, fun k o hk h1 h2 => h.same k o (by omega) h1 h2⟩
theorem keepsFrom_put {B l : Nat} (W : World) (o : Obj) (h : l < B) : KeepsFrom B W (W.putObj l o) := ⟨by simp, fun k o' hk h1 _ => (World.putObj_heap_other (by omega)).trans h1⟩
/-- Of a round that has said 'no more' less may be told. -/
theorem yield_less {P : Program} {n l : Nat} {vals : Array Value} {W1 : World} {T : Ending → World → Prop} {U V : World → Prop} (h : YieldAt Fence.wide n P l vals W1 fun e W' => T e W' ∨ (e = .returned (.bool false) ∧ U W' ∧ V W')) : YieldAt Fence.wide n P l vals W1 fun e W' => T e W' ∨ (e = .returned (.bool false) ∧ U W') := by
  obtain ⟨fn, tmps, assign, body, hy, hR⟩ := h
  exact ⟨fn, tmps, assign, body, hy, hR.mono fun e w' h => h.imp id fun h => ⟨h.1, h.2.1⟩⟩

section
variable {P : Program} {n : Nat}

theorem range_law {α : Type} {g : Operand} {ps : Array Tmp} {assign body : Code} {Q : Exit → Act → World → Prop} {a : Act} {w : World}
    {gf : Nat} {lb : Array Value} (hg : a.eval g = .func (.func gf) #[] lb) (eg : ∀ args w, (callFunc gf args).run P w = .ok (.enter gf args) w)
    {Free : Obj → Prop} (hfree : ∀ o : Obj, o.isCells = false → Free o) {E : α → Array Value → World → Prop} {full : List α} {Kp : World → World → Prop} (hseq : GivesE P Free (n - 1) gf lb E full Kp w)
    (hKt : ∀ {A B C : World}, Kp A B → Kp B C → Kp A C) (hKb : ∀ (W : World) (o o' : Obj), W.heap[w.heap.size + 1]? = some o → o.isCells = false → Kp W (W.putObj (w.heap.size + 1) o')) (hps : ∀ x vals W, E x vals W → vals.size = ps.size)
    (I : List α → World → Prop) (Ix : Code → List α → World → Prop) (hI : Ab Free w.heap.size I) (hIx : ∀ c, Ab Free w.heap.size (Ix c)) (h0 : I [] w)
    (Ax : α → Act → World → Prop) (hAx : ∀ x a', Ab Free w.heap.size (fun (_ : Unit) W => Ax x a' W))
    (hassign : ∀ (l : Nat) (pre : List α) (x : α) (vals : Array Value) (W : World) (K : Act → World → Prop), I pre W → E x vals W → (∀ a' W', KeepsFrom w.heap.size W W' → Kp W W' → I pre W' → Ax x a' W' → K a' W') →
      assign.wpIn (Fence.wide.inRound l) (n - 1 - 1) P (Exit.then K (fun _ _ _ => False)) { tmps := (ps.zip vals).foldl (fun t (p, v) => t.setIfInBounds p v) a.tmps, defers := [] } W)
    (hbody : ∀ (l : Nat) (pre post : List α) (x : α) (a' : Act) (W : World), full = pre ++ x :: post → I pre W → Ax x a' W → body.wpIn (Fence.wide.inRound l) (n - 1 - 1) P (ownPostG w.heap.size Kp I Ix (pre ++ [x]) W) a' W)
    (hdone : ∀ (D : Nat) (W : World), w.heap.size ≤ D → I full W → W.heap[D]? = some (.deferred (some [])) → Q .normal { a with defers := { target := .collected D, args := #[] } :: a.defers } W)
    (hstop : ∀ (D : Nat) (c : Code) (pre post : List α) (W : World), w.heap.size ≤ D → full = pre ++ post → Ix c pre W → W.heap[D]? = some (.deferred (some [])) → c.wpIn Fence.wide n P Q { a with defers := { target := .collected D, args := #[] } :: a.defers } W) :
    (Code.rangeFunc g ps assign body).wpIn Fence.wide n P Q a w := by
  refine wpIn_rangeFunc fun fn hfn => ?_
  let rc : LoopState → Option Code → Loop := fun st pe => { state := st, pending := pe, fn, tmps := a.tmps, params := ps, assign, body, defers := w.heap.size }
  have hd1 : ((w.alloc (.deferred (some []))).alloc (.loop (rc .ready none))).heap[w.heap.size + 1]? = some (.loop (rc .ready none)) := by
    have := World.alloc_heap_new (w.alloc (.deferred (some []))) (.loop (rc .ready none)); rwa [World.size_alloc] at this
  have hd0 : ((w.alloc (.deferred (some []))).alloc (.loop (rc .ready none))).heap[w.heap.size]? = some (.deferred (some [])) :=
    (Below.heap_alloc _ _ _ (by simp)).trans (World.alloc_heap_new w _)
  have hb1 : Below w.heap.size w ((w.alloc (.deferred (some []))).alloc (.loop (rc .ready none))) := ((Below.refl _ w).alloc (Nat.le_refl _) _).alloc (by simp) _
  have hs1 : ((w.alloc (.deferred (some []))).alloc (.loop (rc .ready none))).heap.size = w.heap.size + 2 := by simp
  have hi1 : I [] ((w.alloc (.deferred (some []))).alloc (.loop (rc .ready none))) := hI.alloc _ (hI.alloc _ h0)
  have hrun := run_enterLoop_outer (P := P) (w := w) fn a.tmps ps assign body
  refine ⟨w.heap.size + 1, _, ((w.alloc (.deferred (some []))).alloc (.loop (rc .ready none))), { target := .fn (.func gf) lb, args := #[.func (.yield (w.heap.size + 1)) #[] #[]] }, ((w.alloc (.deferred (some []))).alloc (.loop (rc .ready none))), gf, #[.func (.yield (w.heap.size + 1)) #[] #[]] ++ lb, ((w.alloc (.deferred (some []))).alloc (.loop (rc .ready none))), hrun, ?_, ?_, ?_, (fun h => by cases h), ?_⟩
  · simp only [resolve, hg]; simp [go_sem]
  · intro f' hf'; exact trivial
  · simp [invoke, go_sem, eg]
  · have keep : ∀ {A B : World} {row : Option Nat} {k : Nat} {o : Obj}, A.grownBy B row → (∀ r, row = some r → w.heap.size + 2 ≤ r ∧ ∃ o : Obj, A.heap[r]? = some o ∧ Free o) → k < w.heap.size + 2 → A.heap[k]? = some o → B.heap[k]? = some o := fun hg' hr hk ho =>
      (hg'.block _ (Array.getElem?_eq_some_iff.1 ho).1 (fun e => by have := (hr _ e.symm).1; omega)).trans ho
    have up : ∀ {A : World} {row : Option Nat}, (∀ r, row = some r → w.heap.size + 2 ≤ r ∧ ∃ o : Obj, A.heap[r]? = some o ∧ Free o) → (∀ r, row = some r → w.heap.size ≤ r ∧ ∃ o : Obj, A.heap[r]? = some o ∧ Free o) := fun hr r e => ⟨by have := (hr r e).1; omega, (hr r e).2⟩
    refine (hseq (fun pre W => I pre W ∧ W.heap[w.heap.size + 1]? = some (.loop (rc .ready none)) ∧ W.heap[w.heap.size]? = some (.deferred (some [])))
      (fun pre W => ∃ c, Ix c pre W ∧ W.heap[w.heap.size + 1]? = some (.loop (rc .done (some c))) ∧ W.heap[w.heap.size]? = some (.deferred (some [])))
      _ hb1 hs1
      (fun s A B row hs hg' hr => ⟨hI s A B row hs.1 hg' (up hr), keep hg' hr (by omega) hs.2.1, keep hg' hr (by omega) hs.2.2⟩)
      (fun s A B row ⟨c, hc, hl, hk⟩ hg' hr => ⟨c, hIx c s A B row hc hg' (up hr), keep hg' hr (by omega) hl, keep hg' hr (by omega) hk⟩)
      ?_ ⟨hi1, hd1, hd0⟩).mono ?_
    · rintro pre x post vals W hfull ⟨hi, hl, hk⟩ hE
      have hy := run_yield (P := P) (args := vals) hl (hps x vals W hE)
      refine ⟨fn, _, assign, body, hy, roundIn_of_wpIn hfn (hassign _ pre x vals W _ hi hE fun a' Wa hkf hkp hia hax => ?_)⟩
      have hl' := hkf.same _ _ (by omega) hl rfl
      have hk' := hkf.same _ _ (Nat.le_refl _) hk rfl
      have hlt : w.heap.size + 1 < Wa.heap.size := (Array.getElem?_eq_some_iff.1 hl').1
      refine ⟨_, run_beginRound hl' rfl, ?_⟩
      have hl2 : (Wa.putObj (w.heap.size + 1) (.loop { rc .ready none with state := .busy })).heap[w.heap.size + 1]? = some (.loop { rc .ready none with state := .busy }) := World.putObj_heap_same hlt
      have hk2 : (Wa.putObj (w.heap.size + 1) (.loop { rc .ready none with state := .busy })).heap[w.heap.size]? = some (.deferred (some [])) := (World.putObj_heap_other (by omega)).trans hk'
      have hw2 := hKt hkp (hKb Wa _ (.loop { rc .ready none with state := .busy }) hl' rfl)
      refine wpIn_mono (hbody _ pre post x a' _ hfull (hI.put _ hia (by omega) hl' (hfree _ rfl)) ((hAx x a').put (s := ()) _ hax (by omega) hl' (hfree _ rfl))) ?_
      have fin : ∀ (jump : Option Code) (W3 : World), KeepsFrom w.heap.size (Wa.putObj (w.heap.size + 1) (.loop { rc .ready none with state := .busy })) W3 →
          (Instr.endRound (w.heap.size + 1) jump).run P W3 = .ok (.bool jump.isNone) (W3.putObj (w.heap.size + 1) (.loop (rc (if jump.isNone then .ready else .done) jump))) ∧
          W3.heap[w.heap.size + 1]? = some (.loop { rc .ready none with state := .busy }) ∧
          (W3.putObj (w.heap.size + 1) (.loop (rc (if jump.isNone then .ready else .done) jump))).heap[w.heap.size + 1]? = some (.loop (rc (if jump.isNone then .ready else .done) jump)) ∧
          (W3.putObj (w.heap.size + 1) (.loop (rc (if jump.isNone then .ready else .done) jump))).heap[w.heap.size]? = some (.deferred (some [])) := fun jump W3 hk3 => by
        have hl3 := hk3.same _ _ (by omega) hl2 rfl
        exact ⟨run_endRound (P := P) jump hl3, hl3, World.putObj_heap_same (Array.getElem?_eq_some_iff.1 hl3).1, (World.putObj_heap_other (by omega)).trans (hk3.same _ _ (Nat.le_refl _) hk2 rfl)⟩
      have out : ∀ (c : Code) (W3 : World), KeepsFrom w.heap.size (Wa.putObj (w.heap.size + 1) (.loop { rc .ready none with state := .busy })) W3 → Ix c (pre ++ [x]) W3 →
          ∃ c', Ix c' (pre ++ [x]) (W3.putObj (w.heap.size + 1) (.loop (rc .done (some c)))) ∧ (W3.putObj (w.heap.size + 1) (.loop (rc .done (some c)))).heap[w.heap.size + 1]? = some (.loop (rc .done (some c'))) ∧ (W3.putObj (w.heap.size + 1) (.loop (rc .done (some c)))).heap[w.heap.size]? = some (.deferred (some [])) := fun c W3 hk3 hi3 => by
        obtain ⟨_, hl3, hl4, hk4⟩ := fin (some c) W3 hk3
        exact ⟨c, (hIx c).put _ hi3 (by omega) hl3 (hfree _ rfl), hl4, hk4⟩
      have kf : ∀ (o : Obj) (W3 : World), KeepsFrom w.heap.size (Wa.putObj (w.heap.size + 1) (.loop { rc .ready none with state := .busy })) W3 → KeepsFrom (w.heap.size + 2) W (W3.putObj (w.heap.size + 1) o) := fun o W3 h =>
        (((keepsFrom_mono hkf (by omega)).trans (keepsFrom_put _ _ (by omega))).trans (keepsFrom_mono h (by omega))).trans (keepsFrom_put _ _ (by omega))
      rintro e a3 W3 hp
      cases e with
      | normal =>
        obtain ⟨hk3, hkp3, hi3⟩ := hp
        obtain ⟨hr, hl3, hl4, hk4⟩ := fin none W3 hk3
        exact ⟨_, _, hr, .inl ⟨rfl, ⟨hI.put _ hi3 (by omega) hl3 (hfree _ rfl), hl4, hk4⟩, hKt (hKt hw2 hkp3) (hKb _ _ _ hl3 rfl)⟩⟩
      | ret => exact ⟨_, _, (fin (some .ret) W3 hp.1).1, .inr ⟨rfl, out _ W3 hp.1 hp.2, kf _ W3 hp.1⟩⟩
      | exit id => exact ⟨_, _, (fin (some (.exit id)) W3 hp.1).1, .inr ⟨rfl, out _ W3 hp.1 hp.2, kf _ W3 hp.1⟩⟩
      | goto t => exact ⟨_, _, (fin (some (.goto t)) W3 hp.1).1, .inr ⟨rfl, out _ W3 hp.1 hp.2, kf _ W3 hp.1⟩⟩
      | panic ch => exact hp.elim
      | outgrown => exact hp.elim
    · rintro e W2 ⟨⟨v, rfl⟩, ⟨hi, hl, hk⟩ | ⟨pre, post, hpp, c, hi, hl, hk⟩⟩
      · exact ⟨none, _, run_endLoop (P := P) hl (by simp [rc]), hdone _ _ (Nat.le_refl _) (hI.put _ hi (by omega) hl (hfree _ rfl)) ((World.putObj_heap_other (by omega)).trans hk)⟩
      · exact ⟨some c, _, run_endLoop (P := P) hl (by simp [rc]), hstop _ c pre post _ (Nat.le_refl _) hpp ((hIx c).put _ hi (by omega) hl (hfree _ rfl)) ((World.putObj_heap_other (by omega)).trans hk)⟩

/-- The same, where the assignment to the loop's variables makes no block. -/
theorem range_law' {α : Type} {g : Operand} {ps : Array Tmp} {assign body : Code} {Q : Exit → Act → World → Prop} {a : Act} {w : World}
    {gf : Nat} {lb : Array Value} (hg : a.eval g = .func (.func gf) #[] lb) (eg : ∀ args w, (callFunc gf args).run P w = .ok (.enter gf args) w)
    {Free : Obj → Prop} (hfree : ∀ o : Obj, o.isCells = false → Free o) {encs : α → Array Value} {full : List α} {Kp : World → World → Prop} (hseq : Gives P Free (n - 1) gf lb encs full Kp w)
    (hKt : ∀ {A B C : World}, Kp A B → Kp B C → Kp A C) (hKb : ∀ (W : World) (o o' : Obj), W.heap[w.heap.size + 1]? = some o → o.isCells = false → Kp W (W.putObj (w.heap.size + 1) o')) (hKr : ∀ W, Kp W W) (hps : ∀ x, (encs x).size = ps.size)
    (I : List α → World → Prop) (Ix : Code → List α → World → Prop) (hI : Ab Free w.heap.size I) (hIx : ∀ c, Ab Free w.heap.size (Ix c)) (h0 : I [] w) (a₁ : α → Act)
    (hassign : ∀ (l : Nat) (x : α) (W : World) (K : Act → World → Prop), K (a₁ x) W →
      assign.wpIn (Fence.wide.inRound l) (n - 1 - 1) P (Exit.then K (fun _ _ _ => False)) { tmps := (ps.zip (encs x)).foldl (fun t (p, v) => t.setIfInBounds p v) a.tmps, defers := [] } W)
    (hbody : ∀ (l : Nat) (pre post : List α) (x : α) (W : World), full = pre ++ x :: post → I pre W → body.wpIn (Fence.wide.inRound l) (n - 1 - 1) P (ownPostG w.heap.size Kp I Ix (pre ++ [x]) W) (a₁ x) W)
    (hdone : ∀ (D : Nat) (W : World), w.heap.size ≤ D → I full W → W.heap[D]? = some (.deferred (some [])) → Q .normal { a with defers := { target := .collected D, args := #[] } :: a.defers } W)
    (hstop : ∀ (D : Nat) (c : Code) (pre post : List α) (W : World), w.heap.size ≤ D → full = pre ++ post → Ix c pre W → W.heap[D]? = some (.deferred (some [])) → c.wpIn Fence.wide n P Q { a with defers := { target := .collected D, args := #[] } :: a.defers } W) :
    (Code.rangeFunc g ps assign body).wpIn Fence.wide n P Q a w :=
  range_law hg eg hfree hseq hKt hKb (fun x vals W h => by subst h; exact hps x) I Ix hI hIx h0 (fun x a' _ => a' = a₁ x) (fun x a' => ab_pure _ _ _)
    (fun l pre x vals W K hi hE hK => by subst hE; exact hassign l x W K (hK _ _ (KeepsFrom.refl _ _) (hKr _) hi rfl)) (fun l pre post x a' W hf hi ha => by subst ha; exact hbody l pre post x W hf hi) hdone hstop
end

section
variable {P : Program} {ops : Array Oper} {Q : Exit → Act → World → Prop} {l n : Nat} {md : Region.Mode}

def noDefer (ops : List Oper) : Bool := ops.all fun o => match o.op with | .defer _ => false | _ => true
theorem noDefer_spec {ops : List Oper} (h : noDefer ops = true) {o : Oper} (ho : o ∈ ops) : ∀ c, o.op ≠ .defer c := by
  intro c e
  have := List.all_eq_true.1 h o ho
  rw [e] at this; cases this

theorem oper_round {o : Oper} (hd : ∀ c, o.op ≠ .defer c) (hQ : ¬ LetsOut Q) {a : Act} {w : World} {K : Act → World → Prop} (h : o.wp P a w K Q) : o.wpIn (Fence.wide.inRound l) n P a w K Q := by
  refine ⟨fun _ _ => trivial, ?_⟩
  rw [Oper.semAt_eq _ _ _ hd]
  unfold Oper.wp at h
  generalize (execOp a.eval o).run P w = r at *
  cases r with
  | ok x w' =>
    cases x <;> simp only [Oper.upon, Oper.uponIn] at h ⊢ <;>
      first
        | exact h
        | exact ⟨fun h => (by cases h), CallsIn.inRound l (callsIn_wide.2 h)⟩
        | exact ⟨fun h => (by cases h), fun b cs _ => let ⟨v, w'', r, s⟩ := h b cs; ⟨v, w'', r, stepsIn_wide.2 s⟩⟩
        | exact h.elim
  | halt x w' => cases x <;> simp only [Oper.upon, Oper.uponIn] at h ⊢ <;> exact h

theorem any_round (hd : noDefer ops.toList = true) (hQ : ¬ LetsOut Q) : ∀ (fuel : Nat) (listed : Array Bool) (a : Act) (w : World), wpAny P md ops Q fuel listed a w → wpAnyIn (Fence.wide.inRound l) n P md ops Q fuel listed a w
  | 0, _, _, _, h => h
  | fuel + 1, listed, a, w, h => ⟨h.1, fun i hi => by
      have h1 := h.2 i hi
      unfold wpOp at h1
      unfold wpOpIn
      cases ho : ops[i]? with
      | none => simp only [ho] at h1 ⊢; exact any_round hd hQ fuel _ _ _ h1
      | some o =>
        simp only [ho] at h1 ⊢
        have hm : o ∈ ops.toList := by
          obtain ⟨hlt, e⟩ := Array.getElem?_eq_some_iff.1 ho
          rw [← e]; exact Array.getElem_mem_toList hlt
        split
        · rename_i hw
          simp only [hw, if_true] at h1
          rcases h1 with h1 | ⟨_, h1⟩
          · exact Oper.wpIn_mono (fun a w h => any_round hd hQ fuel _ a w h) (oper_round (noDefer_spec hd hm) hQ h1)
          · exact absurd h1 hQ
        · rename_i hw
          simp only [hw] at h1
          exact ⟨fun _ _ => trivial, any_round hd hQ fuel _ _ _ (by simpa using h1)⟩⟩

theorem round_any {id : Nat} {a : Act} {w : World} (hm : P.follows .mixedOrders = true) (hd : noDefer ops.toList = true) (hQ : ¬ LetsOut Q)
    (h : wpAny P .any ops Q ops.size (Array.replicate ops.size false) a { w with drawn := w.drawn + 1 }) : (Code.region id ops true).wpIn (Fence.wide.inRound l) n P Q a w :=
  wpIn_region_any hm (any_round hd hQ _ _ _ _ h)

/-- .. of a region that only reads. -/
theorem round_quiet {id : Nat} {a : Act} {w : World} {os : List Oper} (hm : P.follows .mixedOrders = true) (hB : Region.lexB .any os.toArray = true) (hd : noDefer os = true) (hQ : ¬ LetsOut Q)
    (h : wpQuiet P os.toArray (fun w' => ∃ n, w' = w.drewN n) (fun a' => ∀ w', (∃ n, w' = w.drewN n) → Q .normal a' w') os a) : (Code.region id os.toArray true).wpIn (Fence.wide.inRound l) n P Q a w := by
  simp only [Region.lexB, Bool.and_eq_true] at hB
  refine round_any hm (by simpa using hd) hQ (wpAny_of_quiet (C := fun w' => ∃ n, w' = w.drewN n) (Q := fun a' => ∀ w', (∃ n, w' = w.drewN n) → Q .normal a' w') (fun _ w' hw' h => h w' hw') _ _ _ _ ⟨1, rfl⟩ ?_)
  have := wpAnyQ_lex (P := P) (C := fun w' => ∃ n, w' = w.drewN n) (md := .any) hB.1 os 0 (Array.replicate os.toArray.size false) a (by simp) (by simpa using hB.2) h
  simpa using this

/-- .. of a region that reads, and then goes on in one order from operation k on. -/
theorem round_still {id : Nat} {a : Act} {w : World} {os : List Oper} (k : Nat) (hm : P.follows .mixedOrders = true) (hB : Region.lexTailB .any os.toArray k = true) (hd : noDefer os = true) (hQ : ¬ LetsOut Q)
    (h : wpStill P os.toArray { w with drawn := w.drawn + 1 } (fun a' => wpList P os.toArray Q (os.drop k) a' { w with drawn := w.drawn + 1 }) (os.take k) a) : (Code.region id os.toArray true).wpIn (Fence.wide.inRound l) n P Q a w := by
  simp only [Region.lexTailB, Bool.and_eq_true, decide_eq_true_eq] at hB
  obtain ⟨⟨⟨⟨hsel, hn⟩, hs⟩, hc⟩, hlex⟩ := hB
  have hlt : k < os.length := by simpa using hn
  have ht : (os.take k).length = k := by simp; omega
  have hl : (os.drop k).length = os.toArray.size - k := by simp
  have inv : HeadInv .any os.toArray k (Array.replicate os.toArray.size false) :=
    ⟨by simp, fun j oj _ hl => (by rw [getD_replicate_false] at hl; cases hl), fun t _ ht => getD_in (by simpa using ht) (getD_replicate_false _ _)⟩
  have H := wpAnyL_lex (md := .any) (g := os.toArray.size - k) hsel hs hc hn (os.take k) 0 _ a (fun j hj => by
    have hj' : j < k := by rw [ht] at hj; exact hj
    simp [hj']) (by simpa using ht) inv (by rw [ht]; exact hlex) h
  refine round_any hm (by simpa using hd) hQ ?_
  have hw := wpAny_of_head (Q' := Q) (g := os.toArray.size - k) (fun listed a' hL => by
    have := wpAny_of_seq (md := .any) (Q' := Q) (os.drop k) k listed a' { w with drawn := w.drawn + 1 } (fun j => by simp [List.getElem?_drop]) (by rw [hl]; exact hL.1) hL.2
    rwa [hl] at this) _ _ _ H
  rw [ht, show k + (os.toArray.size - k) = os.toArray.size by omega] at hw
  exact hw

/-- .. of a region whose loads meet what S says, whatever comes ahead of them. -/
theorem round_held {id : Nat} {S : World → Prop} {a : Act} {w : World} (hm : P.follows .mixedOrders = true) (hd : noDefer ops.toList = true) (hQ : ¬ LetsOut Q) (hS : S w.drew)
    (h : S w.drew → wpAnyH P .any ops Q S ops.size (Array.replicate ops.size false) a w.drew) : (Code.region id ops true).wpIn (Fence.wide.inRound l) n P Q a w :=
  round_any hm hd hQ (wpAny_of_held _ _ _ _ (h hS))

end

section
variable {F : Fence} {n : Nat} {P : Program} {ops : Array Oper} {Q : Exit → Act → World → Prop} {md : Region.Mode}

theorem oper_still_in (hfn : ∀ f, F.fn f) (hdp : F.depth.isSome = true → False) (hc : ∀ f args w R, Calls P f args w R → CallsIn F (n - 1) P f args w R) {o : Oper} (hd : ∀ c, o.op ≠ .defer c) {a : Act} {w : World} {K : Act → Prop} {K' : Act → World → Prop}
    (h : ∀ a, K a → K' a w) (hh : o.still P a w K) : o.wpIn F n P a w K' Q := by
  refine ⟨fun f _ => hfn f, ?_⟩
  rw [Oper.semAt_eq _ _ _ hd]
  unfold Oper.still at hh
  generalize (execOp a.eval o).run P w = r at *
  cases r with
  | ok x w' =>
    cases x <;> simp only [Oper.stillUpon] at hh <;> simp only [Oper.uponIn]
    case enter f args =>
      obtain ⟨rfl, v, hcl, hn⟩ := hh
      refine ⟨fun h => (hdp h).elim, (hc _ _ _ _ hcl).mono fun e w'' ⟨he, hw⟩ => ?_⟩
      subst he; subst hw; exact h _ hn
    all_goals (obtain ⟨rfl, h2⟩ := hh; exact h _ h2)
  | halt x w' => simp only [Oper.stillUpon] at hh

theorem op_still_in (hfn : ∀ f, F.fn f) (hdp : F.depth.isSome = true → False) (hc : ∀ f args w R, Calls P f args w R → CallsIn F (n - 1) P f args w R) (hd : noDefer ops.toList = true) {i : Nat} {a : Act} {w : World} {K : Act → Prop} {K' : Act → World → Prop}
    (h : ∀ a, K a → K' a w) (hh : stOp P ops w i K a) : wpOpIn F n P ops Q i K' a w := by
  unfold stOp at hh
  unfold wpOpIn
  cases ho : ops[i]? with
  | none => simp only [ho] at hh ⊢; exact h _ hh
  | some o =>
    simp only [ho] at hh ⊢
    have hm : o ∈ ops.toList := by
      obtain ⟨hlt, e⟩ := Array.getElem?_eq_some_iff.1 ho
      rw [← e]; exact Array.getElem_mem_toList hlt
    split
    · rename_i hw; simp only [hw, if_true] at hh; exact oper_still_in hfn hdp hc (noDefer_spec hd hm) h hh
    · rename_i hw; simp only [hw] at hh; exact ⟨fun f _ => hfn f, h _ (by simpa using hh)⟩

theorem anyIn_of_head (hfn : ∀ f, F.fn f) (hdp : F.depth.isSome = true → False) (hc : ∀ f args w R, Calls P f args w R → CallsIn F (n - 1) P f args w R) (hd : noDefer ops.toList = true) {k g : Nat} {w : World} {L : Array Bool → Act → Prop} (hL : ∀ listed a, L listed a → wpAnyIn F n P md ops Q g listed a w) :
    ∀ (f : Nat) (listed : Array Bool) (a : Act), wpAnyL P md ops w k L f listed a → wpAnyIn F n P md ops Q (f + g) listed a w
  | 0, listed, a, h => by rw [Nat.zero_add]; exact hL _ _ h
  | f + 1, listed, a, h => by
    rw [show f + 1 + g = (f + g) + 1 by omega]
    exact ⟨fun h0 => absurd h0 h.1, fun i hi => op_still_in hfn hdp hc hd (fun a' h' => anyIn_of_head hfn hdp hc hd hL f _ a' h') (h.2 i hi).2⟩

theorem anyIn_of_seq : ∀ (l : List Oper) (k : Nat) (listed : Array Bool) (a : Act) (w : World), (∀ j, l[j]? = ops[k + j]?) →
    Region.seqB md ops l.length k listed = true → wpListIn F n P ops Q l a w → wpAnyIn F n P md ops Q l.length listed a w
  | [], _, _, _, _, _, hB, h => ⟨by simpa [Region.seqB] using hB, h⟩
  | o :: l, k, listed, a, w, hl, hB, h => by
    have h0 : ops[k]? = some o := by simpa using (hl 0).symm
    simp only [List.length_cons, Region.seqB, Bool.and_eq_true, decide_eq_true_eq] at hB
    refine ⟨fun h1 => (by rw [hB.1] at h1; cases h1), fun i hi => ?_⟩
    rw [hB.1] at hi
    have hik : i = k := by simpa using hi
    subst hik
    have hw : wpOpIn F n P ops Q i (wpListIn F n P ops Q l) a w := by unfold wpOpIn; simp only [h0]; exact h
    exact wpOpIn_mono (fun a' w' h' => anyIn_of_seq l (i + 1) _ a' w' (fun j => by have := hl (j + 1); simpa [Nat.add_assoc, Nat.add_comm 1 j] using this) hB.2 h') hw

theorem still_in {id : Nat} {a : Act} {w : World} {os : List Oper} (k : Nat) (hfn : ∀ f, F.fn f) (hdp : F.depth.isSome = true → False) (hc : ∀ f args w R, Calls P f args w R → CallsIn F (n - 1) P f args w R) (hm : P.follows .mixedOrders = true) (hB : Region.lexTailB .any os.toArray k = true) (hd : noDefer os = true)
    (h : wpStill P os.toArray { w with drawn := w.drawn + 1 } (fun a' => wpListIn F n P os.toArray Q (os.drop k) a' { w with drawn := w.drawn + 1 }) (os.take k) a) : (Code.region id os.toArray true).wpIn F n P Q a w := by
  simp only [Region.lexTailB, Bool.and_eq_true, decide_eq_true_eq] at hB
  obtain ⟨⟨⟨⟨hsel, hn⟩, hs⟩, hch⟩, hlex⟩ := hB
  have hlt : k < os.length := by simpa using hn
  have ht : (os.take k).length = k := by simp; omega
  have hl : (os.drop k).length = os.toArray.size - k := by simp
  have inv : HeadInv .any os.toArray k (Array.replicate os.toArray.size false) :=
    ⟨by simp, fun j oj _ hl => (by rw [getD_replicate_false] at hl; cases hl), fun t _ ht => getD_in (by simpa using ht) (getD_replicate_false _ _)⟩
  have H := wpAnyL_lex (md := .any) (g := os.toArray.size - k) hsel hs hch hn (os.take k) 0 _ a (fun j hj => by
    have hj' : j < k := by rw [ht] at hj; exact hj
    simp [hj']) (by simpa using ht) inv (by rw [ht]; exact hlex) h
  refine wpIn_region_any hm ?_
  have hw := anyIn_of_head (F := F) (n := n) (Q := Q) (g := os.toArray.size - k) hfn hdp hc (by simpa using hd) (fun listed a' hL => by
    have := anyIn_of_seq (F := F) (n := n) (md := .any) (Q := Q) (os.drop k) k listed a' { w with drawn := w.drawn + 1 } (fun j => by simp [List.getElem?_drop]) (by rw [hl]; exact hL.1) hL.2
    rwa [hl] at this) _ _ _ H
  rw [ht, show k + (os.toArray.size - k) = os.toArray.size by omega] at hw
  exact hw
end

end Rg
end Go.Proofs.Ytkpgkbllcdpobaa

namespace Go.Proofs.Ytkpgkbllcdpobaa
open Go.RowKit Go.Shelf
set_option linter.unusedVariables false
namespace Lc
open Tx Rg
attribute [local go_sem] Oper.semAt_some

/-- The items of a list from the last one on, with their places. -/
def bk {α : Type} (vs : List α) : List (Nat × α) := (vs.zipIdx.map fun p => (p.2, p.1)).reverse
theorem bk_nil {α : Type} : bk ([] : List α) = [] := rfl
theorem bk_snoc {α : Type} (vs : List α) (v : α) : bk (vs ++ [v]) = (vs.length, v) :: bk vs := by
  simp [bk, List.zipIdx_append]
theorem bk_take {α : Type} {vs : List α} {k : Nat} (h : k < vs.length) : bk (vs.take (k + 1)) = (k, vs[k]) :: bk (vs.take k) := by
  rw [take_snoc' h, bk_snoc]; simp; omega
theorem bk_length {α : Type} (vs : List α) : (bk vs).length = vs.length := by simp [bk]
/-- Which item it is, is told by how many have come. -/
theorem bk_split {α : Type} {vs : List α} {pre post : List (Nat × α)} {x : Nat × α} (h : bk vs = pre ++ x :: post) : ∃ hk : x.1 < vs.length, vs[x.1] = x.2 ∧ pre.length + x.1 + 1 = vs.length := by
  have hl : (bk vs).length = pre.length + (post.length + 1) := by rw [h]; simp
  rw [bk_length] at hl
  have hx : (bk vs)[pre.length]? = some x := by rw [h]; simp
  unfold bk at hx
  rw [List.getElem?_reverse (by simp; omega)] at hx
  simp only [List.length_map, List.length_zipIdx, List.getElem?_map, List.getElem?_zipIdx, Nat.zero_add] at hx
  rw [List.getElem?_eq_getElem (by omega)] at hx
  simp at hx
  subst hx
  exact ⟨by simp; omega, rfl, by simp; omega⟩

/-- What a round must keep: what lies below n₁, and the box in which the slice lies. -/
def KpB (n₁ Bs : Nat) (t : TypeId) (W W' : World) : Prop := Below n₁ W W' ∧ ∀ v, Boxed W Bs t v → Boxed W' Bs t v
theorem kpB_t {n₁ Bs : Nat} {t : TypeId} {A B C : World} (h : KpB n₁ Bs t A B) (k : KpB n₁ Bs t B C) : KpB n₁ Bs t A C := ⟨h.1.trans k.1, fun v hv => k.2 v (h.2 v hv)⟩
theorem kpB_r {n₁ Bs : Nat} {t : TypeId} (W : World) : KpB n₁ Bs t W W := ⟨Below.refl _ _, fun _ h => h⟩
theorem kpB_b {n₁ Bs l : Nat} {t : TypeId} (hn : n₁ ≤ l) (hB : Bs ≠ l) (W : World) (o o' : Obj) (h : W.heap[l]? = some o) (_ : o.isCells = false) : KpB n₁ Bs t W (W.putObj l o') :=
  ⟨(Below.refl n₁ W).grown (grownBy_putObj' W l o') (by have := (Array.getElem?_eq_some_iff.1 h).1; omega) (fun k e => by cases e; exact hn), fun v hv => hv.kept (grownBy_putObj' W l o') (by simpa using hB)⟩

theorem backS_in (n : Nat) (A : Option Addr) (l c : Nat) (w : World) :
    CallsIn Fence.wide n Try.prog 64 #[.slice A l c] w fun e w' => e = .returned (.func (.func 66) #[] #[.pointer (some ⟨w.heap.size, 0, none⟩)]) ∧ w' = w.alloc (.cells #[.slice A l c] 22) := by
  refine callsIn_of_wp Try.func64 rfl trivial ?_ rfl
  simp only [Try.ntmps64, List.size_toArray, List.length_cons, List.length_nil, Nat.reduceAdd, Nat.reduceSub, Array.replicate_succ, Array.replicate_zero, List.push_toArray, List.append_toArray, List.nil_append, List.cons_append]
  gi_wp2
  go_ret
  exact ⟨rfl, rfl⟩

set_option maxRecDepth 100000 in
set_option maxHeartbeats 1000000 in
theorem backS1_in (n l Bs n₁ cap m : Nat) (A : Option Addr) (vs : List Value) (hm : vs.length = m) (hle : m ≤ 1000000) (J Jx : List (Nat × Value) → World → Prop)
    (hY : ∀ pre x post W1, bk vs = pre ++ x :: post → J pre W1 → YieldAt Fence.wide (n - 1) Try.prog l #[.int .i64 (x.1 : Int), x.2] W1 fun e W' =>
      (e = .returned (.bool true) ∧ J (pre ++ [x]) W' ∧ KpB n₁ Bs 22 W1 W') ∨ (e = .returned (.bool false) ∧ Jx (pre ++ [x]) W'))
    (W : World) (hBs : Boxed W Bs 22 (.slice A m cap)) (hR : Rd W n₁ A vs) (h0 : J [] W) :
    CallsIn Fence.wide n Try.prog 66 #[.func (.yield l) #[] #[], .pointer (some ⟨Bs, 0, none⟩)] W fun e W' => (∃ v, e = .returned v) ∧ (J (bk vs) W' ∨ ∃ pre post, bk vs = pre ++ post ∧ Jx pre W') := by
  have HM := Lib.hid hm; clear hm
  have hc := hBs.cell
  refine callsIn_of_wp Try.func66 rfl trivial ?_ rfl
  simp only [Try.ntmps66, List.size_toArray, List.length_cons, List.length_nil, Nat.reduceAdd, Nat.reduceSub, Array.replicate_succ, Array.replicate_zero, List.push_toArray, List.append_toArray, List.nil_append, List.cons_append]
  gi_wp2
  gi_loopw [3] (fun i wr => ∃ k pre, k ≤ m ∧ i = .int .i64 ((k : Int) - 1) ∧ bk vs = pre ++ bk (vs.take k) ∧ J pre wr ∧ Boxed wr Bs 22 (.slice A m cap) ∧ Rd wr n₁ A vs) (fun i _ => (intOf i + 1).toNat)
  case atStart => exact ⟨m, [], Nat.le_refl _, rfl, by rw [List.take_of_length_le (by rw [HM.out]; exact Nat.le_refl _)]; rfl, h0, hBs, hR⟩
  case round =>
    clear hc
    obtain ⟨k, pre, hk, rfl, hb, hJs, hBs', hR'⟩ := hrel
    have HB := Lib.hid hb; clear hb
    have hc := hBs'.cell
    cases k with
    | zero =>
      have e : (((0 : Nat) : Int) - 1) = -1 := rfl
      rw [e]; clear e
      gi_wp2
      go_end0
      exact ⟨⟨_, rfl⟩, .inl (by have := HB.out; rw [List.take_zero, bk_nil, List.append_nil] at this; rw [this]; exact hJs)⟩
    | succ k =>
      have hkl : k < vs.length := by rw [HM.out]; omega
      have e : (((k + 1 : Nat) : Int) - 1) = (k : Int) := by omega
      rw [e]; clear e
      have HB2 : Hid (bk vs = pre ++ (k, vs[k]) :: bk (vs.take k)) := Lib.hid (by rw [HB.out, bk_take hkl])
      clear HB
      obtain ⟨a, rfl, hab, hcell⟩ := hR'.at_ hkl
      generalize hx : vs[k] = x at *
      clear hx
      obtain ⟨fn, tmps, assign, body, hy, hRR⟩ := hY pre (k, x) _ wr HB2.out hJs
      dsimp only at hy
      gi_wp2
      refine ⟨(fun h => by cases h), ?_⟩
      refine hRR.mono ?_
      rintro e W3 (⟨rfl, hJ3, hk3⟩ | ⟨rfl, hJx3⟩)
      · have hc3 := (hk3.2 _ hBs').cell
        gi_wp2
        go_roundw
        case rel => exact ⟨k, pre ++ [(k, x)], by omega, rfl, by rw [HB2.out]; simp, hJ3, hk3.2 _ hBs', hR'.below hk3.1⟩
        case measure => simp [intOf]
      · gi_wp2
        refine bodyPost_ret (results_none rfl _ _ _) rfl ?_
        exact ⟨⟨_, rfl⟩, .inr ⟨pre ++ [(k, x)], bk (vs.take k), by rw [HB2.out]; simp, hJx3⟩⟩

theorem backS_gives (n Bs n₁ cap m : Nat) (A : Option Addr) (vs : List Value) (hm : vs.length = m) (hle : m ≤ 1000000) (w : World) (hBs : Boxed w Bs 22 (.slice A m cap)) (hn : n₁ ≤ w.heap.size) (hR : Rd w n₁ A vs) :
    Gives Try.prog Plain n 66 #[.pointer (some ⟨Bs, 0, none⟩)] (fun x : Nat × Value => #[.int .i64 (x.1 : Int), x.2]) (bk vs) (KpB n₁ Bs 22) w := fun J Jx W hW _ _ _ hY h0 =>
  backS1_in n _ Bs n₁ cap m A vs hm hle J Jx (fun pre x post W1 h1 h2 => yield_less (hY pre x post _ W1 h1 h2 rfl)) W ((hW.block Bs hBs.lt).trans hBs) (hR.below (hW.mono hn)) h0

theorem backP_in (n : Nat) (A : Option Addr) (l c : Nat) (w : World) :
    CallsIn Fence.wide n Try.prog 58 #[.slice A l c] w fun e w' => e = .returned (.func (.func 62) #[] #[.pointer (some ⟨w.heap.size, 0, none⟩)]) ∧ w' = w.alloc (.cells #[.slice A l c] 76) := by
  refine callsIn_of_wp Try.func58 rfl trivial ?_ rfl
  simp only [Try.ntmps58, List.size_toArray, List.length_cons, List.length_nil, Nat.reduceAdd, Nat.reduceSub, Array.replicate_succ, Array.replicate_zero, List.push_toArray, List.append_toArray, List.nil_append, List.cons_append]
  gi_wp2
  go_ret
  exact ⟨rfl, rfl⟩

set_option maxRecDepth 100000 in
set_option maxHeartbeats 1000000 in
theorem backP1_in (n l Bs n₁ cap m : Nat) (A : Option Addr) (vs : List Value) (hm : vs.length = m) (hle : m ≤ 1000000) (J Jx : List (Nat × Value) → World → Prop)
    (hY : ∀ pre x post W1, bk vs = pre ++ x :: post → J pre W1 → YieldAt Fence.wide (n - 1) Try.prog l #[.int .i64 (x.1 : Int), x.2] W1 fun e W' =>
      (e = .returned (.bool true) ∧ J (pre ++ [x]) W' ∧ KpB n₁ Bs 76 W1 W') ∨ (e = .returned (.bool false) ∧ Jx (pre ++ [x]) W'))
    (W : World) (hBs : Boxed W Bs 76 (.slice A m cap)) (hR : Rd W n₁ A vs) (h0 : J [] W) :
    CallsIn Fence.wide n Try.prog 62 #[.func (.yield l) #[] #[], .pointer (some ⟨Bs, 0, none⟩)] W fun e W' => (∃ v, e = .returned v) ∧ (J (bk vs) W' ∨ ∃ pre post, bk vs = pre ++ post ∧ Jx pre W') := by
  have HM := Lib.hid hm; clear hm
  have hc := hBs.cell
  refine callsIn_of_wp Try.func62 rfl trivial ?_ rfl
  simp only [Try.ntmps62, List.size_toArray, List.length_cons, List.length_nil, Nat.reduceAdd, Nat.reduceSub, Array.replicate_succ, Array.replicate_zero, List.push_toArray, List.append_toArray, List.nil_append, List.cons_append]
  gi_wp2
  gi_loopw [3] (fun i wr => ∃ k pre, k ≤ m ∧ i = .int .i64 ((k : Int) - 1) ∧ bk vs = pre ++ bk (vs.take k) ∧ J pre wr ∧ Boxed wr Bs 76 (.slice A m cap) ∧ Rd wr n₁ A vs) (fun i _ => (intOf i + 1).toNat)
  case atStart => exact ⟨m, [], Nat.le_refl _, rfl, by rw [List.take_of_length_le (by rw [HM.out]; exact Nat.le_refl _)]; rfl, h0, hBs, hR⟩
  case round =>
    clear hc
    obtain ⟨k, pre, hk, rfl, hb, hJs, hBs', hR'⟩ := hrel
    have HB := Lib.hid hb; clear hb
    have hc := hBs'.cell
    cases k with
    | zero =>
      have e : (((0 : Nat) : Int) - 1) = -1 := rfl
      rw [e]; clear e
      gi_wp2
      go_end0
      exact ⟨⟨_, rfl⟩, .inl (by have := HB.out; rw [List.take_zero, bk_nil, List.append_nil] at this; rw [this]; exact hJs)⟩
    | succ k =>
      have hkl : k < vs.length := by rw [HM.out]; omega
      have e : (((k + 1 : Nat) : Int) - 1) = (k : Int) := by omega
      rw [e]; clear e
      have HB2 : Hid (bk vs = pre ++ (k, vs[k]) :: bk (vs.take k)) := Lib.hid (by rw [HB.out, bk_take hkl])
      clear HB
      obtain ⟨a, rfl, hab, hcell⟩ := hR'.at_ hkl
      generalize hx : vs[k] = x at *
      clear hx
      obtain ⟨fn, tmps, assign, body, hy, hRR⟩ := hY pre (k, x) _ wr HB2.out hJs
      dsimp only at hy
      gi_wp2
      refine ⟨(fun h => by cases h), ?_⟩
      refine hRR.mono ?_
      rintro e W3 (⟨rfl, hJ3, hk3⟩ | ⟨rfl, hJx3⟩)
      · have hc3 := (hk3.2 _ hBs').cell
        gi_wp2
        go_roundw
        case rel => exact ⟨k, pre ++ [(k, x)], by omega, rfl, by rw [HB2.out]; simp, hJ3, hk3.2 _ hBs', hR'.below hk3.1⟩
        case measure => simp [intOf]
      · gi_wp2
        refine bodyPost_ret (results_none rfl _ _ _) rfl ?_
        exact ⟨⟨_, rfl⟩, .inr ⟨pre ++ [(k, x)], bk (vs.take k), by rw [HB2.out]; simp, hJx3⟩⟩

theorem backP_gives (n Bs n₁ cap m : Nat) (A : Option Addr) (vs : List Value) (hm : vs.length = m) (hle : m ≤ 1000000) (w : World) (hBs : Boxed w Bs 76 (.slice A m cap)) (hn : n₁ ≤ w.heap.size) (hR : Rd w n₁ A vs) :
    Gives Try.prog Plain n 62 #[.pointer (some ⟨Bs, 0, none⟩)] (fun x : Nat × Value => #[.int .i64 (x.1 : Int), x.2]) (bk vs) (KpB n₁ Bs 76) w := fun J Jx W hW _ _ _ hY h0 =>
  backP1_in n _ Bs n₁ cap m A vs hm hle J Jx (fun pre x post W1 h1 h2 => yield_less (hY pre x post _ W1 h1 h2 rfl)) W ((hW.block Bs hBs.lt).trans hBs) (hR.below (hW.mono hn)) h0

end Lc
end Go.Proofs.Ytkpgkbllcdpobaa

namespace Go.Proofs.Ytkpgkbllcdpobaa
open Go.RowKit Go.Shelf
set_option linter.unusedVariables false
namespace Lc
open Tx Rg
attribute [local go_sem] Oper.semAt_some

section
variable {α : Type} [DecidableEq α]
/-- The row of a list: what it has in common with the other one, from each place on. -/
def rowV (a b : List α) : List Value := (List.range (b.length + 1)).map fun j => .int .i64 ((lcs a (b.drop j) : Nat) : Int)
/-- A row on its way: from place k on it is that with one line more. -/
def mixV (x : α) (a b : List α) (k : Nat) : List Value := (List.range (b.length + 1)).map fun j => .int .i64 ((if j < k then lcs a (b.drop j) else lcs (x :: a) (b.drop j) : Nat) : Int)
theorem rowV_length (a b : List α) : (rowV a b).length = b.length + 1 := by simp [rowV]
theorem mixV_length (x : α) (a b : List α) (k : Nat) : (mixV x a b k).length = b.length + 1 := by simp [mixV]
theorem rowV_at (a b : List α) {j : Nat} (h : j ≤ b.length) : (rowV a b)[j]? = some (.int .i64 ((lcs a (b.drop j) : Nat) : Int)) := by
  rw [rowV, List.getElem?_map, List.getElem?_range (by omega)]; rfl
theorem mixV_at (x : α) (a b : List α) (k : Nat) {j : Nat} (h : j ≤ b.length) : (mixV x a b k)[j]? = some (.int .i64 ((if j < k then lcs a (b.drop j) else lcs (x :: a) (b.drop j) : Nat) : Int)) := by
  rw [mixV, List.getElem?_map, List.getElem?_range (by omega)]; rfl
theorem mixV_top (x : α) (a b : List α) : mixV x a b b.length = rowV a b := by
  unfold mixV rowV
  refine List.map_congr_left fun j hj => ?_
  have hj' : j < b.length + 1 := by simpa using hj
  by_cases h : j < b.length
  · rw [if_pos h]
  · rw [if_neg h, List.drop_of_length_le (by omega), lcs_nil_right, lcs_nil_right]
theorem mixV_zero (x : α) (a b : List α) : mixV x a b 0 = rowV (x :: a) b := by
  unfold mixV rowV
  refine List.map_congr_left fun j _ => ?_
  rw [if_neg (by omega)]
theorem mixV_set (x : α) (a b : List α) {k : Nat} (h : k < b.length) : (mixV x a b (k + 1)).set k (.int .i64 ((lcs (x :: a) (b.drop k) : Nat) : Int)) = mixV x a b k := by
  refine List.ext_getElem? fun j => ?_
  rw [List.getElem?_set]
  by_cases hj : j ≤ b.length
  · rw [mixV_at _ _ _ _ hj, mixV_at _ _ _ _ hj]
    by_cases e : k = j
    · subst e; rw [if_pos rfl, if_pos (by rw [mixV_length]; omega), if_neg (by omega)]
    · rw [if_neg e]
      by_cases hlt : j < k
      · rw [if_pos hlt, if_pos (by omega)]
      · rw [if_neg hlt, if_neg (by omega)]
  · rw [if_neg (by omega), List.getElem?_eq_none (by rw [mixV_length]; omega), List.getElem?_eq_none (by rw [mixV_length]; omega)]
theorem lcs_step_same {x : α} (a : List α) {b : List α} {k : Nat} (h : k < b.length) (e : x = b[k]) : lcs (x :: a) (b.drop k) = lcs a (b.drop (k + 1)) + 1 := by
  rw [List.drop_eq_getElem_cons h, ← e, lcs_same]
theorem lcs_step_ne {x : α} (a : List α) {b : List α} {k : Nat} (h : k < b.length) (e : x ≠ b[k]) : lcs (x :: a) (b.drop k) = max (lcs a (b.drop k)) (lcs (x :: a) (b.drop (k + 1))) := by
  rw [List.drop_eq_getElem_cons h, lcs_ne _ _ e]
  split <;> omega
theorem lcs_len (a b : List α) (j : Nat) : lcs a (b.drop j) ≤ b.length := by
  have := (lcs_le a (b.drop j)).2; simp at this; omega
end

/-- How stepBack ends: the row is that with one line more; no other block of old is written. -/
def StepEnd (w : World) (n₁ g cap m : Nat) (x : List UInt8) (zs bs : List (List UInt8)) (e : Ending) (w' : World) : Prop :=
  (∃ v, e = .returned v) ∧ w'.ownsRow n₁ 3 1 (.slice (some ⟨g, 0, none⟩) (m + 1) cap) (m + 1) (rowV (x :: zs) bs) ∧ w.grownBy w' (some g)

/-- Between two rounds. -/
def StepInv (w : World) (n₁ g cap m : Nat) (x : List UInt8) (zs bs : List (List UInt8)) (pre : List (Nat × Value)) (W : World) : Prop :=
  (Boxed W w.heap.size 74 (.slice (some ⟨g, 0, none⟩) (m + 1) cap) ∧ Boxed W (w.heap.size + 1) 9 (strV x) ∧ Boxed W (w.heap.size + 1 + 1) 3 (.int .i64 ((lcs zs (bs.drop (m - pre.length)) : Nat) : Int))) ∧
    W.ownsRow n₁ 3 1 (.slice (some ⟨g, 0, none⟩) (m + 1) cap) (m + 1) (mixV x zs bs (m - pre.length)) ∧ w.grownBy W (some g)
theorem stepInv_ab (w : World) (n₁ g cap m : Nat) (x : List UInt8) (zs bs : List (List UInt8)) {B : Nat} (hB : w.heap.size ≤ B) : Ab Plain B (StepInv w n₁ g cap m x zs bs) :=
  Ab.and (Ab.and (ab_boxed _ (fun _ => plain_cells _ _ _)) (Ab.and (ab_boxed _ (fun _ => plain_cells _ _ _)) (ab_boxed _ (fun _ => plain_cells _ _ _)))) (Ab.and (ab_row _ _ (fun _ => plain_cells _ _ _)) (ab_grown hB))

theorem step_next {w W : World} {n₁ g cap m k : Nat} {x : List UInt8} {zs bs : List (List UInt8)} {pre : List (Nat × Value)} {v : Value} (hm : bs.length = m) (hp : pre.length + k + 1 = m) (hI : StepInv w n₁ g cap m x zs bs pre W) (hg : g < w.heap.size) (hn : n₁ ≤ g)
    {c : Int} (hc : c = ((lcs (x :: zs) (bs.drop k) : Nat) : Int)) :
    (∀ B, KeepsFrom B W ((W.setCell ⟨g, k, none⟩ (.int .i64 c)).setCell ⟨w.heap.size + 1 + 1, 0, none⟩ (.int .i64 ((lcs zs (bs.drop k) : Nat) : Int)))) ∧
      KpB n₁ (w.heap.size + 1 + 1 + 1) 22 W ((W.setCell ⟨g, k, none⟩ (.int .i64 c)).setCell ⟨w.heap.size + 1 + 1, 0, none⟩ (.int .i64 ((lcs zs (bs.drop k) : Nat) : Int))) ∧
      StepInv w n₁ g cap m x zs bs (pre ++ [(k, v)]) ((W.setCell ⟨g, k, none⟩ (.int .i64 c)).setCell ⟨w.heap.size + 1 + 1, 0, none⟩ (.int .i64 ((lcs zs (bs.drop k) : Nat) : Int))) := by
  subst hc
  obtain ⟨⟨h3, h4, h6⟩, hrow, hgr⟩ := hI
  have e1 : m - pre.length = k + 1 := by omega
  have e2 : m - (pre ++ [(k, v)]).length = k := by simp; omega
  rw [e1] at hrow
  obtain ⟨hr1, hg1⟩ := hrow.stored k (.int .i64 ((lcs (x :: zs) (bs.drop k) : Nat) : Int))
  rw [mixV_set _ _ _ (by omega)] at hr1
  have ne3 : w.heap.size ≠ g := by omega
  have k3 := h3.kept hg1 (by simp; omega)
  have k4 := h4.kept hg1 (by simp; omega)
  have k6 := h6.kept hg1 (by simp; omega)
  have hg2 := grownBy_setCell' (W.setCell ⟨g, k, none⟩ (.int .i64 ((lcs (x :: zs) (bs.drop k) : Nat) : Int))) (w.heap.size + 1 + 1) (.int .i64 ((lcs zs (bs.drop k) : Nat) : Int))
  refine ⟨fun B => ((KeepsOthers.setCell _ _ _).trans (KeepsOthers.setCell _ _ _)).from B, ⟨((Below.refl _ _).setCell (p := ⟨g, k, none⟩) hn _).setCell (p := ⟨w.heap.size + 1 + 1, 0, none⟩) (by show n₁ ≤ w.heap.size + 1 + 1; omega) _, fun u hu => (hu.kept hg1 (by simp; omega)).kept hg2 (by simp)⟩, ?_⟩
  unfold StepInv
  rw [e2]
  exact ⟨⟨k3.kept hg2 (by simp; omega), k4.kept hg2 (by simp), k6.set _⟩, hr1.kept hg2 (.inr (by simp [Value.ownBlock]; omega)), grow_trans (grow_trans hgr hg1 (fun j e => .inr (by simpa using e))) hg2 (fun j e => .inl (by cases e; omega))⟩

theorem grownBy_drew {w W : World} {r : Option Nat} (h : w.grownBy W r) : w.grownBy W.drew r := ⟨h.os, h.tape, h.output, h.size, h.block⟩
theorem keepsFrom_drew {B : Nat} {W X : World} (h : KeepsFrom B W X) : KeepsFrom B W X.drew := ⟨h.size, h.same⟩
theorem kpB_drew {n₁ Bs : Nat} {t : TypeId} {W X : World} (h : KpB n₁ Bs t W X) : KpB n₁ Bs t W X.drew := ⟨h.1.drew, h.2⟩
theorem stepInv_drew {w W : World} {n₁ g cap m : Nat} {x : List UInt8} {zs bs : List (List UInt8)} {pre : List (Nat × Value)} (h : StepInv w n₁ g cap m x zs bs pre W) : StepInv w n₁ g cap m x zs bs pre W.drew :=
  ⟨h.1, h.2.1, grownBy_drew h.2.2⟩

theorem boxes4 (w : World) (v0 v1 v2 v3 : Value) (t0 t1 t2 t3 : TypeId) :
    let w4 := (((w.alloc (.cells #[v0] t0)).alloc (.cells #[v1] t1)).alloc (.cells #[v2] t2)).alloc (.cells #[v3] t3)
    Boxed w4 w.heap.size t0 v0 ∧ Boxed w4 (w.heap.size + 1) t1 v1 ∧ Boxed w4 (w.heap.size + 1 + 1) t2 v2 ∧ Boxed w4 (w.heap.size + 1 + 1 + 1) t3 v3 ∧ w.grownBy w4 none := by
  intro w4
  have b0 := Boxed.new w t0 v0
  have b1 := Boxed.new (w.alloc (.cells #[v0] t0)) t1 v1
  have b2 := Boxed.new ((w.alloc (.cells #[v0] t0)).alloc (.cells #[v1] t1)) t2 v2
  have b3 := Boxed.new (((w.alloc (.cells #[v0] t0)).alloc (.cells #[v1] t1)).alloc (.cells #[v2] t2)) t3 v3
  simp only [World.size_alloc] at b1 b2 b3
  exact ⟨((b0.alloc _).alloc _).alloc _, (b1.alloc _).alloc _, b2.alloc _, b3,
    grow_trans (grow_trans (grow_trans (World.grownBy_alloc w _ none) (World.grownBy_alloc _ _ none) (by simp)) (World.grownBy_alloc _ _ none) (by simp)) (World.grownBy_alloc _ _ none) (by simp)⟩

set_option maxRecDepth 100000 in
set_option maxHeartbeats 2000000 in
theorem stepBack (A' : Option Addr) (c' m n₁ g cap : Nat) (x : List UInt8) (zs bs : List (List UInt8)) (w : World) (hm : bs.length = m) (hle : m ≤ 1000) (hR : RdS w n₁ A' bs) (hn : n₁ ≤ w.heap.size)
    (hrow : w.ownsRow n₁ 3 1 (.slice (some ⟨g, 0, none⟩) (m + 1) cap) (m + 1) (rowV zs bs)) :
    Calls Try.prog 65 #[.slice (some ⟨g, 0, none⟩) (m + 1) cap, strV x, .slice A' m c'] w (StepEnd w n₁ g cap m x zs bs) := by
  have HM := Lib.hid hm; clear hm
  obtain ⟨hng, hgw⟩ := hrow.lt g rfl
  refine (callsIn_wide (n := 3)).1 ?_
  refine callsIn_of_wp_marks Try.func65 rfl trivial ?_ rfl
  simp only [Try.ntmps65, List.size_toArray, List.length_cons, List.length_nil, Nat.reduceAdd, Nat.reduceSub, Array.replicate_succ, Array.replicate_zero, List.push_toArray, List.append_toArray, List.nil_append, List.cons_append]
  gi_wp2_with fail
  refine ⟨trivial, ?_⟩
  refine (backS_in 2 _ _ _ _).mono ?_
  rintro e w' ⟨rfl, rfl⟩
  gi_wp2
  obtain ⟨hB0, hB1, hB2, hB3, hg4⟩ := boxes4 w (.slice (some ⟨g, 0, none⟩) (m + 1) cap) (strV x) (.int .i64 0) (.slice A' m c') 74 9 3 22
  refine range_law' (n := 3) (gf := 66) (lb := #[.pointer (some ⟨w.heap.size + 1 + 1 + 1, 0, none⟩)]) rfl (enters_of Try.func66 (by kernel_rfl) rfl) (Free := Plain) (fun _ h => h)
    (backS_gives 2 (w.heap.size + 1 + 1 + 1) n₁ c' m A' (bs.map strV) (by simpa using HM.out) (by omega) _ hB3 (by simp; omega) (hR.below ((Below.refl _ _).grown hg4 hn (by simp)))) kpB_t (kpB_b (by simp; omega) (by simp)) kpB_r (fun _ => rfl)
    (StepInv w n₁ g cap m x zs bs) (fun _ _ _ => False) (stepInv_ab _ _ _ _ _ _ _ _ (by simp; omega)) (fun _ => ab_pure _ _ _) ?h0 ?a1 ?assign ?body ?done ?stop
  case h0 =>
    refine ⟨⟨hB0, hB1, ?_⟩, ?_, grow_trans (World.grownBy.refl _ _) hg4 (by simp)⟩
    · rw [List.length_nil, Nat.sub_zero, List.drop_of_length_le (by rw [HM.out]; exact Nat.le_refl _), lcs_nil_right]; exact hB2
    · rw [List.length_nil, Nat.sub_zero, ← HM.out, mixV_top, HM.out]; exact hrow.kept hg4 (.inr (by simp [Value.ownBlock]))
  case assign =>
    intro l x W K hK
    gi_wp2
    exact hK
  case body =>
    rintro l pre post ⟨k, v⟩ W hfull hI
    obtain ⟨hk, hv, hp⟩ := bk_split hfull
    dsimp only at hk hv hp
    clear hfull
    have hkb : k < bs.length := by simpa using hk
    have hkm : k < m := by rw [HM.out] at hkb; exact hkb
    obtain rfl : v = strV bs[k] := by rw [← hv]; simp
    clear hv hk
    rw [List.length_map, HM.out] at hp
    have hs := hrow.1
    obtain ⟨⟨h3, h4, h6⟩, hrw, hgr⟩ := id hI
    have HI := Lib.hid hI; clear hI
    have e1 : m - pre.length = k + 1 := by omega
    rw [e1] at hrw h6
    have hc3 := h3.cell
    have hc4 := h4.cell
    have hc6 := h6.cell
    have hf6 := h6.frozen
    have hck := hrw.cellAt k (by omega)
    have hck1 := hrw.cellAt (k + 1) (by omega)
    rw [mixV_at _ _ _ _ (by omega), if_pos (by omega)] at hck
    rw [mixV_at _ _ _ _ (by omega), if_neg (by omega)] at hck1
    have hfk := hrw.frozenAt k
    have hlk := lcs_len zs bs k
    have hlk1 := lcs_len zs bs (k + 1)
    have hlk2 := lcs_len (x :: zs) bs (k + 1)
    rw [HM.out] at hlk hlk1 hlk2
    have HP := Lib.hid hp; clear hp e1 hs h3 h4 h6 hrw hgr
    by_cases hxy : x = bs[k]
    · have HS := Lib.hid (lcs_step_same zs hkb hxy)
      have hd : (x == bs[k]) = true := by simpa using hxy
      generalize bs[k] = y at *
      clear hxy
      generalize hq : lcs zs (bs.drop (k + 1)) = q at *
      have HQ := Lib.hid hq; clear hq
      generalize hq0 : lcs zs (bs.drop k) = q0 at *
      have HQ0 := Lib.hid hq0; clear hq0
      gi_wp2
      have hend := step_next (v := strV y) HM.out HP.out HI.out hgw hng (c := (q : Int) + 1) (by rw [HS.out]; omega)
      rw [HQ0.out] at hend
      exact ⟨hend.1 _, hend.2⟩
    · have HS := Lib.hid (lcs_step_ne zs hkb hxy)
      have hd : (x == bs[k]) = false := by simpa using hxy
      generalize bs[k] = y at *
      clear hxy
      generalize hq : lcs (x :: zs) (bs.drop (k + 1)) = q at *
      have HQ := Lib.hid hq; clear hq
      generalize hq0 : lcs zs (bs.drop k) = q0 at *
      have HQ0 := Lib.hid hq0; clear hq0
      have hk1 : IntKind.i64.wrap ((k : Int) + 1) = (k : Int) + 1 := IntWalk.i64_in _ (by omega)
      gi_wp2
      have h0 : (0 : Int) ≤ (k : Int) + 1 := by omega
      have h1 : ((k : Int) + 1).toNat = k + 1 := by omega
      have h2 : (k : Int) + 1 < (m : Int) + 1 := by omega
      have h3 : (k : Int) < (m : Int) + 1 := by omega
      refine round_still 10 (by kernel_rfl) (by kernel_rfl) (by kernel_rfl) ?hq ?_
      case hq => rintro ⟨_, _, h⟩; exact h
      simp only [List.take_succ_cons, List.take_zero, List.drop_succ_cons, List.drop_zero]
      repeat still_step
      refine wpStill_nil ?_
      generalize hc : (if q0 < q then (q : Int) else (q0 : Int)) = c
      have HC := Lib.hid hc; clear hc h0 h1 h2 h3 hk1
      change wpList _ _ _ _ _ W.drew
      go_wp2
      gi_wp2
      have hend := step_next (v := strV y) HM.out HP.out HI.out hgw hng (c := c) (by rw [HS.out, ← HC.out]; split <;> omega)
      rw [HQ0.out] at hend
      exact ⟨keepsFrom_drew (hend.1 _), kpB_drew hend.2.1, stepInv_drew hend.2.2⟩
  case done =>
    rintro D W hD ⟨_, hrow', hgr⟩ hK
    gi_wp2
    refine ⟨by simp, .inl ⟨_, _, rfl, run_takeDeferred hK, ?_⟩⟩
    refine ⟨_, results_none rfl _ _ _, ⟨_, rfl⟩, ?_, ?_⟩
    · have := ownsRow_putObj hrow' (.deferred none) hK rfl
      rw [bk_length, List.length_map, HM.out, Nat.sub_self, mixV_zero] at this
      exact this
    · exact grow_trans hgr (grownBy_putObj' _ D _) (fun j e => .inl (by cases e; simp at hD; omega))
  case stop =>
    rintro D c pre post W _ _ h _
    exact h.elim

end Lc
end Go.Proofs.Ytkpgkbllcdpobaa

namespace Go.Proofs.Ytkpgkbllcdpobaa
open Go.RowKit Go.Shelf
set_option linter.unusedVariables false
namespace Lc
open Tx Rg
attribute [local go_sem] Oper.semAt_some

theorem info_int : (Try.prog.info? 3).map (fun i => (i.zero, i.size, i.bytes)) = some (some (.int .i64 0), 1, 8) := by kernel_rfl

/-- How a call ends that answers a row of its own. -/
def RowEnd (w : World) (n : Nat) (xs : List Value) (e : Ending) (w' : World) : Prop :=
  ∃ v, e = .returned v ∧ w'.ownsRow w.heap.size 3 1 v n xs ∧ Below w.heap.size w w'

theorem rd_cells {w : World} {B : Nat} {a : Addr} {xs : List Value} (h : Rd w B (some a) xs) : ∀ j u, xs[j]? = some u → w.cell? (a.add j) = some u := by
  rcases h with rfl | ⟨a', e, _, hc⟩
  · intro j u hu; simp at hu
  · injection e with e; subst e; exact hc
theorem rowV_one {α : Type} [DecidableEq α] (a b : List α) : ∀ u ∈ rowV a b, u.oneCell' = true := by
  intro u hu
  obtain ⟨j, _, rfl⟩ := List.mem_map.1 hu
  rfl

set_option maxHeartbeats 400000 in
theorem CloneR (a : Addr) (cap n B : Nat) (xs : List Value) (w : World) (hn : xs.length = n) (hle : n ≤ 2000) (hB : B ≤ w.heap.size) (hR : Rd w B (some a) xs) (h1 : ∀ u ∈ xs, u.oneCell' = true) :
    Calls Try.prog 63 #[.slice (some a) n cap] w (RowEnd w n xs) := by
  obtain ⟨j0, hj, hy0, hy1, hy2⟩ := info_parts info_int
  have q := fun (w : World) (a : Option Addr) (n c n' c' : Nat) => Lib.run_eql_slice_nil (P := Try.prog) w 74 3 a n c n' c' Try.underlying74
  have HN := Lib.hid hn; clear hn
  have hR1 := fun o => hR.below ((Below.refl _ _).alloc hB o)
  have HR1 := Lib.hid hR1; clear hR1
  go_enter Try.func63, Try.ntmps63
  go_wp2_with (at_builtin; refine wpList_append_own _ rfl (.tmp 5) (.tmp 6) 74 rfl w.heap.size 3 j0 (.int .i64 0) 1 8 Try.underlying74 hj hy0 hy1 hy2 rfl (by decide) (.slice (some ⟨w.heap.size, 0, none⟩) 0 0) 0 [] rfl (World.ownsRow_made _ #[] 0 (Nat.le_refl _) (Nat.zero_le _) rfl) a n cap xs rfl (by rw [Nat.mul_one]; exact HN.out) (rd_cells (HR1.out _)) h1 (by unfold maxLen; omega) (by omega) (by simp) ?_; intro v' w' hA hg _; simp only [Nat.zero_add, List.nil_append] at hA)
  go_ret
  exact ⟨_, rfl, hA, ((Below.refl _ _).alloc (Nat.le_refl _) _).grown hg (by simp) (fun k e => by cases e; exact Nat.le_refl _)⟩

theorem made_zero (n : Nat) : (madeCells (Value.int .i64 0).cells n).toList = List.replicate n (Value.int .i64 0) := by
  refine List.ext_getElem (by simp [madeCells]) fun i h1 h2 => ?_
  simp [madeCells, Value.cells, Nat.mod_one]
theorem rowV_nil {α : Type} [DecidableEq α] (b : List α) : rowV [] b = List.replicate (b.length + 1) (Value.int .i64 0) := by
  refine List.ext_getElem (by simp [rowV]) fun i h1 h2 => ?_
  simp [rowV, lcs_nil_left]

set_option maxHeartbeats 400000 in
theorem None (A : Option Addr) (cap m : Nat) (bs : List (List UInt8)) (w : World) (hm : bs.length = m) (hle : m ≤ 1000) :
    Calls Try.prog 55 #[.slice A m cap] w (RowEnd w (m + 1) (rowV [] bs)) := by
  obtain ⟨j0, hj, hy0, hy1, hy2⟩ := info_parts info_int
  have HN := Lib.hid hm; clear hm
  go_enter Try.func55, Try.ntmps55
  go_wp2_with (refine wpList_make_full _ rfl (.tmp 5) (.tmp 5) 74 rfl w.heap.size 3 j0 (.int .i64 0) 1 Try.underlying74 hj hy0 hy1 .i64 .i64 _ _ (m + 1) rfl rfl (by simp) (by simp) (by rw [hy2]; omega) (by unfold maxLen; omega) (Nat.le_refl _) ?_; intro w' hA hg)
  go_ret
  refine ⟨_, rfl, ?_, (Below.refl _ _).grown hg (Nat.le_refl _) (fun k e => by cases e)⟩
  rw [rowV_nil, HN.out, ← made_zero]
  simpa using hA

/-- Between two rounds of left. -/
def LeftInv (w : World) (Br m n : Nat) (bv v : Value) (ls zs bs : List (List UInt8)) (pre : List (Nat × Value)) (W : World) : Prop :=
  (Boxed W w.heap.size 22 bv ∧ Boxed W Br 74 v) ∧ W.ownsRow w.heap.size 3 1 v (m + 1) (rowV (ls.drop (n - pre.length) ++ zs) bs) ∧ Below w.heap.size w W
theorem leftInv_ab (w : World) (Br m n : Nat) (bv v : Value) (ls zs bs : List (List UInt8)) {B : Nat} (hB : w.heap.size ≤ B) : Ab Plain B (LeftInv w Br m n bv v ls zs bs) :=
  Ab.and (Ab.and (ab_boxed _ (fun _ => plain_cells _ _ _)) (ab_boxed _ (fun _ => plain_cells _ _ _))) (Ab.and (ab_row _ _ (fun _ => plain_cells _ _ _)) (ab_below (Nat.le_refl _) hB))

theorem left_next {w W W' : World} {Br Bs m n k g cap : Nat} {bv u : Value} {ls zs bs : List (List UInt8)} {pre : List (Nat × Value)} (hk : k < ls.length) (hn : ls.length = n) (hp : pre.length + k + 1 = n)
    (hI : LeftInv w Br m n bv (.slice (some ⟨g, 0, none⟩) (m + 1) cap) ls zs bs pre W)
    (hr : W'.ownsRow w.heap.size 3 1 (.slice (some ⟨g, 0, none⟩) (m + 1) cap) (m + 1) (rowV (ls[k] :: (ls.drop (n - pre.length) ++ zs)) bs)) (hg : W.grownBy W' (some g)) :
    (∀ B, KeepsFrom B W W') ∧ KpB w.heap.size Bs 22 W W' ∧ LeftInv w Br m n bv (.slice (some ⟨g, 0, none⟩) (m + 1) cap) ls zs bs (pre ++ [(k, u)]) W' := by
  obtain ⟨⟨hb, hr0⟩, hrow, hbel⟩ := hI
  have hgw := (hrow.lt g rfl).1
  have hgb : ∃ cur, W.heap[g]? = some (.cells cur 3 (0, 0)) := by
    rcases hrow.2 with ⟨h, _⟩ | ⟨g', _, cur, h, _, h3, _⟩
    · cases h
    · injection h with h; injection h with h; injection h with h; subst h; exact ⟨cur, h3⟩
  obtain ⟨cur, hcur⟩ := hgb
  have nb : ∀ {b : Nat} {t : TypeId} {v : Value}, Boxed W b t v → t ≠ 3 → some b ≠ some g := fun h ht => h.not_row ht hrow
  refine ⟨fun B => (KeepsOthers.of_grownBy hg (fun j o e ho => by cases e; rw [hcur] at ho; cases ho; rfl)).from B, ⟨(Below.refl _ _).grown hg (by have := hbel.size; omega) (fun j e => by cases e; exact hgw), fun v hv => hv.kept hg (nb hv (by decide))⟩,
    ⟨hb.kept hg (nb hb (by decide)), hr0.kept hg (nb hr0 (by decide))⟩, ?_, hbel.grown hg hbel.size (fun j e => by cases e; exact hgw)⟩
  have e2 : n - (pre ++ [(k, u)]).length = k := by simp; omega
  have e1 : n - pre.length = k + 1 := by omega
  rw [e2, List.drop_eq_getElem_cons hk]
  rw [e1] at hr
  exact hr

set_option maxRecDepth 100000 in
set_option maxHeartbeats 2000000 in
theorem left (A A' Ar : Option Addr) (c c' cr n m B : Nat) (ls zs bs : List (List UInt8)) (w : World) (hn : ls.length = n) (hm : bs.length = m) (hln : n ≤ 1000) (hlm : m ≤ 1000) (hB : B ≤ w.heap.size)
    (hR : RdS w B A ls) (hR' : RdS w B A' bs) (hRr : Rd w B Ar (rowV zs bs)) :
    Calls Try.prog 59 #[.slice A n c, .slice A' m c', .slice Ar (m + 1) cr] w (RowEnd w (m + 1) (rowV (ls ++ zs) bs)) := by
  have HM := Lib.hid hm; clear hm
  have HN := Lib.hid hn; clear hn
  obtain ⟨ar, rfl, _, _⟩ := hRr.at_ (k := 0) (by rw [rowV_length]; omega)
  have hR1 : ∀ o, Rd (w.alloc o) B (some ar) (rowV zs bs) := fun o => hRr.below ((Below.refl _ _).alloc hB o)
  have HR1 := Lib.hid hR1; clear hR1
  refine (callsIn_wide (n := 3)).1 ?_
  refine callsIn_of_wp_marks Try.func59 rfl trivial ?_ rfl
  simp only [Try.ntmps59, List.size_toArray, List.length_cons, List.length_nil, Nat.reduceAdd, Nat.reduceSub, Array.replicate_succ, Array.replicate_zero, List.push_toArray, List.append_toArray, List.nil_append, List.cons_append]
  gi_wp2_with fail
  refine ⟨trivial, ?_⟩
  refine (callsIn_wide.2 (CloneR ar cr (m + 1) B (rowV zs bs) _ (by rw [rowV_length, HM.out]) (by omega) (by simp; omega) (HR1.out _) (rowV_one _ _))).mono ?_
  rintro e w2 ⟨v, rfl, hrow, hbel⟩
  obtain ⟨g, cap, rfl⟩ := ownsRow_succ hrow
  have hbox := (show Boxed w2 w.heap.size 22 (.slice A' m c') from (hbel.block _ (by simp)).trans (Boxed.new w _ _))
  have hw2 : Below w.heap.size w w2 := ((Below.refl _ _).alloc (Nat.le_refl _) _).trans (hbel.mono (by simp))
  have hrw := own_mono (base' := w.heap.size) hrow (by simp)
  have hgw := (hrow.lt g rfl)
  have hsz := hw2.size
  clear hrow hbel
  gi_wp2_with fail
  refine ⟨trivial, ?_⟩
  refine (backS_in 2 _ _ _ _).mono ?_
  rintro e w' ⟨rfl, rfl⟩
  gi_wp2
  have hB1 := Boxed.new w2 74 (.slice (some ⟨g, 0, none⟩) (m + 1) cap)
  have hB2 := Boxed.new (w2.alloc (.cells #[.slice (some ⟨g, 0, none⟩) (m + 1) cap] 74)) 22 (.slice A n c)
  rw [World.size_alloc] at hB2
  have hw4 : Below w.heap.size w ((w2.alloc (.cells #[.slice (some ⟨g, 0, none⟩) (m + 1) cap] 74)).alloc (.cells #[.slice A n c] 22)) := (hw2.alloc hsz _).alloc (by simp; omega) _
  refine range_law' (n := 3) (gf := 66) (lb := #[.pointer (some ⟨w2.heap.size + 1, 0, none⟩)]) rfl (enters_of Try.func66 (by kernel_rfl) rfl) (Free := Plain) (fun _ h => h)
    (backS_gives 2 (w2.heap.size + 1) w.heap.size c n A (ls.map strV) (by simpa using HN.out) (by omega) _ hB2 (by simp; omega) ((hR.up hB).below hw4)) kpB_t (kpB_b (by simp; omega) (by simp)) kpB_r (fun _ => rfl)
    (LeftInv w w2.heap.size m n (.slice A' m c') (.slice (some ⟨g, 0, none⟩) (m + 1) cap) ls zs bs) (fun _ _ _ => False) (leftInv_ab _ _ _ _ _ _ _ _ _ (by simp; omega)) (fun _ => ab_pure _ _ _) ?h0 ?a1 ?assign ?body ?done ?stop
  case h0 =>
    refine ⟨⟨(hbox.alloc _).alloc _, hB1.alloc _⟩, ?_, hw4⟩
    rw [List.length_nil, Nat.sub_zero, List.drop_of_length_le (by rw [HN.out]; exact Nat.le_refl _)]
    exact (hrw.alloc _).alloc _
  case assign =>
    intro l x W K hK
    gi_wp2
    exact hK
  case body =>
    rintro l pre post ⟨k, v⟩ W hfull hI
    obtain ⟨hk, hv, hp⟩ := bk_split hfull
    dsimp only at hk hv hp
    clear hfull
    have hkb : k < ls.length := by simpa using hk
    obtain rfl : v = strV ls[k] := by rw [← hv]; simp
    clear hv hk
    rw [List.length_map, HN.out] at hp
    obtain ⟨⟨h3, h4⟩, hrw', hgr⟩ := id hI
    have HI := Lib.hid hI; clear hI
    have hc3 := h3.cell
    have hc4 := h4.cell
    have hsW := hgr.size
    have HP := Lib.hid hp; clear hp
    gi_wp2_with fail
    refine ⟨trivial, ?_⟩
    refine (CallsIn.inRound l (callsIn_wide.2 (stepBack A' c' m w.heap.size g cap ls[k] (ls.drop (n - pre.length) ++ zs) bs _ HM.out hlm ((hR'.up hB).below hgr) hsW hrw'))).mono ?_
    rintro e W' ⟨⟨v, rfl⟩, hr2, hg2⟩
    have hend := left_next (Bs := w2.heap.size + 1) (u := strV ls[k]) hkb HN.out HP.out HI.out hr2 hg2
    gi_wp2
    exact ⟨hend.1 _, hend.2⟩
  case done =>
    rintro D W hD ⟨⟨_, h4⟩, hrow', hgr⟩ hK
    have hc := h4.cell
    gi_wp2
    refine ⟨by simp, .inl ⟨_, _, rfl, run_takeDeferred hK, ?_⟩⟩
    refine ⟨_, results_tmp rfl _ _ _, _, rfl, ?_, ?_⟩
    · have := ownsRow_putObj hrow' (.deferred none) hK rfl
      rw [bk_length, List.length_map, HN.out, Nat.sub_self, List.drop_zero] at this
      exact this
    · exact hgr.grown (grownBy_putObj' _ D _) hgr.size (fun j e => by cases e; simp at hD; omega)
  case stop =>
    rintro D c pre post W _ _ h _
    exact h.elim

end Lc
end Go.Proofs.Ytkpgkbllcdpobaa

namespace Go.Proofs.Ytkpgkbllcdpobaa
open Go.RowKit Go.Shelf
set_option linter.unusedVariables false
namespace Lc
open Tx Rg
attribute [local go_sem] Oper.semAt_some

/-- The parts of a slice of m items at A, from item i on, as values. -/
def chV (A : Option Addr) (sz m i : Nat) : List Value :=
  if i < m ∧ 0 < sz then .slice (A.map (·.add i)) (min sz (m - i)) (min sz (m - i)) :: chV A sz m (i + sz) else []
  termination_by m - i
/-- .. as lists. -/
def ch {α : Type} (sz : Nat) (ls : List α) (i : Nat) : List (List α) :=
  if i < ls.length ∧ 0 < sz then (ls.drop i).take sz :: ch sz ls (i + sz) else []
  termination_by ls.length - i

theorem chV_some {A : Option Addr} {sz m i : Nat} (h : i < m) (hz : 0 < sz) : chV A sz m i = .slice (A.map (·.add i)) (min sz (m - i)) (min sz (m - i)) :: chV A sz m (i + sz) := by
  conv => lhs; unfold chV; rw [if_pos ⟨h, hz⟩]
theorem chV_none {A : Option Addr} {sz m i : Nat} (h : m ≤ i) : chV A sz m i = [] := by
  unfold chV; rw [if_neg (by omega)]
theorem ch_some {α : Type} {sz i : Nat} {ls : List α} (h : i < ls.length) (hz : 0 < sz) : ch sz ls i = (ls.drop i).take sz :: ch sz ls (i + sz) := by
  conv => lhs; unfold ch; rw [if_pos ⟨h, hz⟩]
theorem ch_none {α : Type} {sz i : Nat} {ls : List α} (h : ls.length ≤ i) : ch sz ls i = [] := by
  unfold ch; rw [if_neg (by omega)]
theorem ch_join {α : Type} {sz : Nat} (hz : 0 < sz) (ls : List α) : ∀ (f i : Nat), ls.length - i ≤ f → (ch sz ls i).flatten = ls.drop i
  | f, i, hf => by
    by_cases h : i < ls.length
    · rw [ch_some h hz, List.flatten_cons]
      cases f with
      | zero => omega
      | succ f => rw [ch_join hz ls f (i + sz) (by omega), ← List.drop_drop, List.take_append_drop]
    · rw [ch_none (by omega), List.drop_of_length_le (by omega)]; rfl
theorem ch_one {α : Type} (ls : List α) : ∀ (f i : Nat), ls.length - i ≤ f → ch 1 ls i = (ls.drop i).map fun x => [x]
  | f, i, hf => by
    by_cases h : i < ls.length
    · rw [ch_some h (by omega)]
      cases f with
      | zero => omega
      | succ f => rw [ch_one ls f (i + 1) (by omega), List.drop_eq_getElem_cons h, List.map_cons, List.take_succ_cons, List.take_zero]
    · rw [ch_none (by omega), List.drop_of_length_le (by omega)]; rfl

/-- A value that reads as a list of lines; values that read as lists of lines. -/
def Part (w : World) (B : Nat) (v : Value) (p : List (List UInt8)) : Prop := ∃ A c, v = .slice A p.length c ∧ p.length ≤ c ∧ RdS w B A p
def Parts (w : World) (B : Nat) (vs : List Value) (ps : List (List (List UInt8))) : Prop := vs.length = ps.length ∧ ∀ (i : Nat) (v : Value) (p : List (List UInt8)), vs[i]? = some v → ps[i]? = some p → Part w B v p
theorem Part.below {w w' : World} {B : Nat} {v : Value} {p : List (List UInt8)} (h : Part w B v p) (hb : Below B w w') : Part w' B v p := let ⟨A, c, e, l, h⟩ := h; ⟨A, c, e, l, h.below hb⟩
theorem Part.up {w : World} {B B' : Nat} {v : Value} {p : List (List UInt8)} (h : Part w B v p) (hb : B ≤ B') : Part w B' v p := let ⟨A, c, e, l, h⟩ := h; ⟨A, c, e, l, h.up hb⟩
theorem Parts.below {w w' : World} {B : Nat} {vs : List Value} {ps : List (List (List UInt8))} (h : Parts w B vs ps) (hb : Below B w w') : Parts w' B vs ps := ⟨h.1, fun i v p h1 h2 => (h.2 i v p h1 h2).below hb⟩
theorem Parts.up {w : World} {B B' : Nat} {vs : List Value} {ps : List (List (List UInt8))} (h : Parts w B vs ps) (hb : B ≤ B') : Parts w B' vs ps := ⟨h.1, fun i v p h1 h2 => (h.2 i v p h1 h2).up hb⟩
theorem parts_nil (w : World) (B : Nat) : Parts w B [] [] := ⟨rfl, fun i v p h => by simp at h⟩
theorem parts_cons {w : World} {B : Nat} {v : Value} {p : List (List UInt8)} {vs : List Value} {ps : List (List (List UInt8))} (h : Part w B v p) (hs : Parts w B vs ps) : Parts w B (v :: vs) (p :: ps) :=
  ⟨by simp [hs.1], fun i v' p' h1 h2 => by
    cases i with
    | zero => simp at h1 h2; subst h1; subst h2; exact h
    | succ i => simp at h1 h2; exact hs.2 i v' p' h1 h2⟩
theorem Parts.at_ {w : World} {B : Nat} {vs : List Value} {ps : List (List (List UInt8))} (h : Parts w B vs ps) {k : Nat} (h1 : k < vs.length) (h2 : k < ps.length) : Part w B vs[k] ps[k] := h.2 k _ _ (List.getElem?_eq_getElem h1) (List.getElem?_eq_getElem h2)

theorem parts_ch {w : World} {B : Nat} {A : Option Addr} {ls : List (List UInt8)} (hR : RdS w B A ls) {sz : Nat} (hz : 0 < sz) : ∀ (f i : Nat), ls.length - i ≤ f → Parts w B (chV A sz ls.length i) (ch sz ls i)
  | f, i, hf => by
    by_cases h : i < ls.length
    · rw [chV_some h hz, ch_some h hz]
      cases f with
      | zero => omega
      | succ f =>
        refine parts_cons ⟨_, _, by rw [List.length_take, List.length_drop], by rw [List.length_take, List.length_drop]; exact Nat.le_refl _, ?_⟩ (parts_ch hR hz f (i + sz) (by omega))
        have h1 : Rd w B (A.map (·.add i)) ((ls.map strV).drop i) := by
          have := Rd.drop (k := i) (cap := ls.length) hR (by simp)
          rwa [if_neg (by omega)] at this
        have h2 := h1.take sz
        unfold RdS
        rw [List.map_take, List.map_drop]
        exact h2
    · rw [chV_none (by omega), ch_none (by omega)]; exact parts_nil _ _
theorem chV_len (A : Option Addr) (sz m : Nat) : ∀ (f i : Nat), m - i ≤ f → (chV A sz m i).length ≤ m - i
  | f, i, hf => by
    unfold chV
    split
    · rename_i h
      cases f with
      | zero => omega
      | succ f => have := chV_len A sz m f (i + sz) (by omega); simp only [List.length_cons]; omega
    · simp

/-- What a round must keep: what lies below n₁, and two boxes. -/
def KpC (n₁ Bs : Nat) (t : TypeId) (Bn : Nat) (t' : TypeId) (W W' : World) : Prop := Below n₁ W W' ∧ (∀ v, Boxed W Bs t v → Boxed W' Bs t v) ∧ ∀ v, Boxed W Bn t' v → Boxed W' Bn t' v
theorem kpC_t {n₁ Bs Bn : Nat} {t t' : TypeId} {A B C : World} (h : KpC n₁ Bs t Bn t' A B) (k : KpC n₁ Bs t Bn t' B C) : KpC n₁ Bs t Bn t' A C := ⟨h.1.trans k.1, fun v hv => k.2.1 v (h.2.1 v hv), fun v hv => k.2.2 v (h.2.2 v hv)⟩
theorem kpC_r {n₁ Bs Bn : Nat} {t t' : TypeId} (W : World) : KpC n₁ Bs t Bn t' W W := ⟨Below.refl _ _, fun _ h => h, fun _ h => h⟩
theorem kpC_b {n₁ Bs Bn l : Nat} {t t' : TypeId} (hn : n₁ ≤ l) (hB : Bs ≠ l) (hB' : Bn ≠ l) (W : World) (o o' : Obj) (h : W.heap[l]? = some o) (_ : o.isCells = false) : KpC n₁ Bs t Bn t' W (W.putObj l o') :=
  ⟨(Below.refl n₁ W).grown (grownBy_putObj' W l o') (by have := (Array.getElem?_eq_some_iff.1 h).1; omega) (fun k e => by cases e; exact hn), fun v hv => hv.kept (grownBy_putObj' W l o') (by simpa using hB), fun v hv => hv.kept (grownBy_putObj' W l o') (by simpa using hB')⟩

theorem chunk_in (n : Nat) (A : Option Addr) (l c sz : Nat) (w : World) (hz : 1 ≤ sz) (hz' : sz ≤ 1000) :
    CallsIn Fence.wide n Try.prog 57 #[.slice A l c, .int .i64 (sz : Int)] w fun e w' => e = .returned (.func (.func 61) #[] #[.pointer (some ⟨w.heap.size, 0, none⟩), .pointer (some ⟨w.heap.size + 1, 0, none⟩)]) ∧ w' = (w.alloc (.cells #[.slice A l c] 22)).alloc (.cells #[.int .i64 (sz : Int)] 3) := by
  have h1 : ¬ (sz : Int) < 1 := by omega
  refine callsIn_of_wp Try.func57 rfl trivial ?_ rfl
  simp only [Try.ntmps57, List.size_toArray, List.length_cons, List.length_nil, Nat.reduceAdd, Nat.reduceSub, Array.replicate_succ, Array.replicate_zero, List.push_toArray, List.append_toArray, List.nil_append, List.cons_append]
  gi_wp2
  go_ret
  exact ⟨rfl, rfl⟩

set_option maxRecDepth 100000 in
set_option maxHeartbeats 1000000 in
theorem chunk1_in (n l Bs Bn n₁ cap m sz : Nat) (A : Option Addr) (ls : List (List UInt8)) (hm : ls.length = m) (hmc : m ≤ cap) (hle : m ≤ 1000) (hz : 1 ≤ sz) (hz' : sz ≤ 1000) (J Jx : List Value → World → Prop)
    (hY : ∀ pre x post W1, chV A sz m 0 = pre ++ x :: post → J pre W1 → YieldAt Fence.wide (n - 1) Try.prog l #[x] W1 fun e W' =>
      (e = .returned (.bool true) ∧ J (pre ++ [x]) W' ∧ KpC n₁ Bs 22 Bn 3 W1 W') ∨ (e = .returned (.bool false) ∧ Jx (pre ++ [x]) W'))
    (hJd : ∀ s W d, J s W → J s (W.drewN d)) (W : World) (hBs : Boxed W Bs 22 (.slice A m cap)) (hBn : Boxed W Bn 3 (.int .i64 (sz : Int))) (hR : RdS W n₁ A ls) (h0 : J [] W) :
    CallsIn Fence.wide n Try.prog 61 #[.func (.yield l) #[] #[], .pointer (some ⟨Bs, 0, none⟩), .pointer (some ⟨Bn, 0, none⟩)] W fun e W' => (∃ v, e = .returned v) ∧ (J (chV A sz m 0) W' ∨ ∃ pre post, chV A sz m 0 = pre ++ post ∧ Jx pre W') := by
  have HM := Lib.hid hm; clear hm
  refine callsIn_of_wp Try.func61 rfl trivial ?_ rfl
  simp only [Try.ntmps61, List.size_toArray, List.length_cons, List.length_nil, Nat.reduceAdd, Nat.reduceSub, Array.replicate_succ, Array.replicate_zero, List.push_toArray, List.append_toArray, List.nil_append, List.cons_append]
  gi_wp2
  gi_loopw [4] (fun i wr => ∃ k pre, k ≤ m + sz ∧ i = .int .i64 (k : Int) ∧ chV A sz m 0 = pre ++ chV A sz m k ∧ J pre wr ∧ Boxed wr Bs 22 (.slice A m cap) ∧ Boxed wr Bn 3 (.int .i64 (sz : Int)) ∧ RdS wr n₁ A ls) (fun i _ => m - (intOf i).toNat)
  case atStart => exact ⟨0, [], by omega, rfl, rfl, h0, hBs, hBn, hR⟩
  case round =>
    obtain ⟨k, pre, hk, rfl, hb, hJs, hBs', hBn', hR'⟩ := hrel
    have HB := Lib.hid hb; clear hb
    have hc := hBs'.cell
    have hcn := hBn'.cell
    by_cases hlt : k < m
    · obtain ⟨a, rfl, hab⟩ := hR'.at' (k := k) (by rw [HM.out]; exact hlt)
      clear hab
      have HB2 : Hid (chV (some a) sz m 0 = pre ++ .slice (some (a.add k)) (min sz (m - k)) (min sz (m - k)) :: chV (some a) sz m (k + sz)) := Lib.hid (by rw [HB.out, chV_some hlt (by omega)]; rfl)
      clear HB
      obtain ⟨e, he⟩ : ∃ e, min sz (m - k) = e := ⟨_, rfl⟩
      rw [he] at HB2
      have h1 : 1 ≤ e := by omega
      have h2 : k + e ≤ m := by omega
      have hcap : ¬ cap = k := by omega
      have hki : (k : Int) ≤ (m : Int) := by omega
      have HE := Lib.hid he; clear he
      by_cases hmin : (m : Int) - (k : Int) < (sz : Int)
      · gi_wp2
        refine wpIn_wide.2 ?_
        go_quiet (fail)
        rw [show m - k = e by have := HE.out; omega]
        clear hmin
        obtain ⟨fn, tmps, assign, body, hy, hRR⟩ := hY pre _ _ (wr.drewN nq) HB2.out (hJd _ _ _ hJs)
        gi_wp2
        refine ⟨(fun h => by cases h), ?_⟩
        refine hRR.mono ?_
        rintro e' W3 (⟨rfl, hJ3, hk3⟩ | ⟨rfl, hJx3⟩)
        · have hb3 := hk3.2.1 _ hBs'
          have hn3 := hk3.2.2 _ hBn'
          have hc3 := hb3.cell
          have hcn3 := hn3.cell
          gi_wp2
          go_roundw
          case rel => exact ⟨k + sz, _, by omega, by go_num, by rw [HB2.out, List.append_assoc]; rfl, hJ3, hb3, hn3, (Rd.drewN hR' nq).below hk3.1⟩
          case measure => simp [intOf]; omega
        · gi_wp2
          refine bodyPost_ret (results_none rfl _ _ _) rfl ?_
          exact ⟨⟨_, rfl⟩, .inr ⟨_, chV (some a) sz m (k + sz), by rw [HB2.out, List.append_assoc]; rfl, hJx3⟩⟩
      · gi_wp2
        refine wpIn_wide.2 ?_
        go_quiet (fail)
        obtain rfl : e = sz := by have := HE.out; omega
        clear hmin
        obtain ⟨fn, tmps, assign, body, hy, hRR⟩ := hY pre _ _ (wr.drewN nq) HB2.out (hJd _ _ _ hJs)
        gi_wp2
        refine ⟨(fun h => by cases h), ?_⟩
        refine hRR.mono ?_
        rintro e' W3 (⟨rfl, hJ3, hk3⟩ | ⟨rfl, hJx3⟩)
        · have hb3 := hk3.2.1 _ hBs'
          have hn3 := hk3.2.2 _ hBn'
          have hc3 := hb3.cell
          have hcn3 := hn3.cell
          gi_wp2
          go_roundw
          case rel => exact ⟨k + e, _, by omega, by go_num, by rw [HB2.out, List.append_assoc]; rfl, hJ3, hb3, hn3, (Rd.drewN hR' nq).below hk3.1⟩
          case measure => simp [intOf]; omega
        · gi_wp2
          refine bodyPost_ret (results_none rfl _ _ _) rfl ?_
          exact ⟨⟨_, rfl⟩, .inr ⟨_, chV (some a) e m (k + e), by rw [HB2.out, List.append_assoc]; rfl, hJx3⟩⟩
    · have hge : ¬ (k : Int) < (m : Int) := by omega
      gi_wp2
      go_end0
      exact ⟨⟨_, rfl⟩, .inl (by have := HB.out; rw [chV_none (i := k) (by omega), List.append_nil] at this; rw [this]; exact hJs)⟩

theorem drew_new (w : World) (d : Nat) : w.grownBy (w.drewN d) none := ⟨rfl, rfl, rfl, Nat.le_refl _, fun _ _ _ => rfl⟩

theorem chunk_gives (n Bs Bn n₁ cap m sz : Nat) (A : Option Addr) (ls : List (List UInt8)) (hm : ls.length = m) (hmc : m ≤ cap) (hle : m ≤ 1000) (hz : 1 ≤ sz) (hz' : sz ≤ 1000) (w : World) (hBs : Boxed w Bs 22 (.slice A m cap)) (hBn : Boxed w Bn 3 (.int .i64 (sz : Int))) (hn : n₁ ≤ w.heap.size) (hR : RdS w n₁ A ls) :
    Gives Try.prog Plain n 61 #[.pointer (some ⟨Bs, 0, none⟩), .pointer (some ⟨Bn, 0, none⟩)] (fun x : Value => #[x]) (chV A sz m 0) (KpC n₁ Bs 22 Bn 3) w := fun J Jx W hW _ hJ _ hY h0 =>
  chunk1_in n _ Bs Bn n₁ cap m sz A ls hm hmc hle hz hz' J Jx (fun pre x post W1 h1 h2 => yield_less (hY pre x post _ W1 h1 h2 rfl)) (fun s W d hs => hJ.new hs (drew_new W d)) W ((hW.block Bs hBs.lt).trans hBs) ((hW.block Bn hBn.lt).trans hBn) (hR.below (hW.mono hn)) h0

end Lc
end Go.Proofs.Ytkpgkbllcdpobaa
