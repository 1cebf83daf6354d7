/-
  Words and contracts, joined: TrMem TrMay TrOpen TrRef TrParts TrApp TrRefDel TrLeaf TrAgain TrRefPut TrRefSame TrWide TrFind TrGet.
-/
import Derived.Test.YtjhjmfodpnipiaaGreatDoorGQ
import Derived.Test.YtjhjmfodpnipiaaGreatDoorGP
import Derived.IntWalk
import Derived.Test.YtjhjmfodpnipiaaGreatDoorGX
import Derived.Deep.QuietTactic
import Derived.BigQuiet
import Derived.Deep.Slices
import Derived.Deep.Strs
import Derived.Deep.AppendLies
import Derived.Deep.RegionHeld3
import Derived.Laws.Rows
import Derived.SizedLaws
set_option maxRecDepth 100000
namespace Go.Proofs.YtjhjmfodpnipiaaGreatDoor
open Go.RowKit
set_option linter.unusedVariables false
namespace Tr
open Tx

/-- The value of a file. -/
abbrev flV (s : List UInt8) (A : Option Addr) (n c : Nat) : Value := .agg #[strV s, .slice A n c]

/-- The cells of a file at the address a, its lines below block B. -/
structure FlAt (w : World) (B : Nat) (a : Addr) (k : Nat) (x : FL) : Prop where
  c0 : w.cell? (a.add (k * 2)) = some (strV x.1)
  c1 : ∃ A c, w.cell? ⟨(a.add (k * 2)).block, (a.add (k * 2)).off + 1, none⟩ = some (.slice A x.2.length c) ∧ x.2.length ≤ c ∧ RdS w B A x.2

/-- The address A leads, below block B, to files; or there are none. -/
def RdT (w : World) (B : Nat) (A : Option Addr) (t : TR) : Prop :=
  t = [] ∨ ∃ a, A = some a ∧ a.block < B ∧ ∀ (k : Nat) x, t[k]? = some x → FlAt w B a k x

/-- What is small enough for all walks. -/
structure SmallF (x : FL) : Prop where
  n : x.1.length ≤ 100000
  l : x.2.length ≤ 100000
  s : ∀ l ∈ x.2, l.length ≤ 100000
structure Small (t : TR) : Prop where
  len : t.length ≤ 100000
  all : ∀ x ∈ t, SmallF x

/-- What the walks of the program's own functions need: what fits a memory. -/
structure Wide (t : TR) : Prop where
  len : t.length ≤ 3518437208800
  all : ∀ x ∈ t, x.2.length ≤ 8796093021952
theorem Small.wide {t : TR} (h : Small t) : Wide t := ⟨by have := h.len; omega, fun x hx => by have := (h.all x hx).l; omega⟩
theorem small_fit {t : TR} (h : Small t) : ∀ x ∈ t, x.1.length ≤ maxLen ∧ x.2.length ≤ maxLen := fun x hx => by
  have := h.all x hx
  exact ⟨Nat.le_trans this.n (by decide), Nat.le_trans this.l (by decide)⟩

section
variable {w w' : World} {B B' : Nat} {A : Option Addr} {t : TR} {x : FL}
theorem FlAt.below {a : Addr} {k : Nat} (h : FlAt w B a k x) (ha : a.block < B) (hb : Below B w w') : FlAt w' B a k x := by
  obtain ⟨c0, A, c, c1, c2, c3⟩ := h
  exact ⟨(hb.cell (by rw [add_block]; exact ha)).trans c0, A, c, (hb.cell (by show (a.add (k * 2)).block < B; rw [add_block]; exact ha)).trans c1, c2, Rd.below c3 hb⟩
theorem FlAt.up {a : Addr} {k : Nat} (h : FlAt w B a k x) (hB : B ≤ B') : FlAt w B' a k x := by
  obtain ⟨c0, A, c, c1, c2, c3⟩ := h
  exact ⟨c0, A, c, c1, c2, Rd.up c3 hB⟩
theorem RdT.below (h : RdT w B A t) (hb : Below B w w') : RdT w' B A t := by
  rcases h with h | ⟨a, e, hlt, hc⟩
  · exact .inl h
  · exact .inr ⟨a, e, hlt, fun k x hx => (hc k x hx).below hlt hb⟩
theorem RdT.up (h : RdT w B A t) (hB : B ≤ B') : RdT w B' A t := by
  rcases h with h | ⟨a, e, hlt, hc⟩
  · exact .inl h
  · exact .inr ⟨a, e, by omega, fun k x hx => (hc k x hx).up hB⟩
theorem RdT.to (h : RdT w B A t) (hB : B ≤ w.heap.size) (hb : Below w.heap.size w w') : RdT w' w'.heap.size A t := ((h.up hB).below hb).up hb.size
theorem RdT.at_ (h : RdT w B A t) {k : Nat} (hk : k < t.length) : ∃ a, A = some a ∧ a.block < B ∧ FlAt w B a k t[k] := by
  rcases h with rfl | ⟨a, e, hlt, hc⟩
  · exact absurd hk (by simp)
  · exact ⟨a, e, hlt, hc k _ (List.getElem?_eq_getElem hk)⟩
theorem RdT.drewN (h : RdT w B A t) (d : Nat) : RdT (w.drewN d) B A t := by
  rcases h with h | ⟨a, e, hlt, hc⟩
  · exact .inl h
  · refine .inr ⟨a, e, hlt, fun k x hx => ?_⟩
    obtain ⟨c0, A, c, c1, c2, c3⟩ := hc k x hx
    exact ⟨by simpa using c0, A, c, by simpa using c1, c2, Rd.drewN c3 d⟩
theorem RdT.nil (w : World) (B : Nat) (A : Option Addr) : RdT w B A [] := .inl rfl
end

/-- How a function that makes a tree ends. -/
def TreeEnd (w : World) (t : TR) (e : Ending) (w' : World) : Prop :=
  ∃ A c, e = .returned (.slice A t.length c) ∧ t.length ≤ c ∧ RdT w' w'.heap.size A t ∧ Below w.heap.size w w'
/-- How a function that makes lines ends. -/
def LinesEnd (w : World) (l : List (List UInt8)) (e : Ending) (w' : World) : Prop :=
  ∃ A c, e = .returned (.slice A l.length c) ∧ l.length ≤ c ∧ RdS w' w'.heap.size A l ∧ Below w.heap.size w w'
/-- How a function ends that tells lines, or that there are none. -/
def GetEnd (w : World) (o : Option (List (List UInt8))) (e : Ending) (w' : World) : Prop :=
  ∃ A c, e = .returned (.tuple #[.slice A (o.getD []).length c, .bool o.isSome]) ∧ (o.getD []).length ≤ c ∧ RdS w' w'.heap.size A (o.getD []) ∧ Below w.heap.size w w'
/-- The same, the lines in memory that is new. -/
def GetEndH (w : World) (o : Option (List (List UInt8))) (e : Ending) (w' : World) : Prop :=
  ∃ A c, e = .returned (.tuple #[.slice A (o.getD []).length c, .bool o.isSome]) ∧ (o.getD []).length ≤ c ∧ RdS w' w'.heap.size A (o.getD []) ∧ Hi w.heap.size A ∧ Below w.heap.size w w'
theorem GetEndH.end_ {w w' : World} {o : Option (List (List UInt8))} {e : Ending} (h : GetEndH w o e w') : GetEnd w o e w' := by
  obtain ⟨A, c, h1, h2, h3, _, h4⟩ := h
  exact ⟨A, c, h1, h2, h3, h4⟩
def BoolEnd (w : World) (b : Bool) (e : Ending) (w' : World) : Prop := e = .returned (.bool b) ∧ Below w.heap.size w w'
def IntEnd (w : World) (i : Int) (e : Ending) (w' : World) : Prop := e = .returned (.int .i64 i) ∧ Below w.heap.size w w'

/-- Lines that are read, in another block than row. -/
def RdX (W : World) (row : Option Nat) (A : Option Addr) (ls : List (List UInt8)) : Prop :=
  RdS W W.heap.size A ls ∧ (ls = [] ∨ ∀ a, A = some a → some a.block ≠ row)
theorem RdX.gr {W W' : World} {row : Option Nat} {A : Option Addr} {ls : List (List UInt8)} (h : RdX W row A ls) (hg : W.grownBy W' row) : RdX W' row A ls := by
  refine ⟨?_, h.2⟩
  rcases h.2 with rfl | hne
  · exact .inl rfl
  · rcases h.1 with hn | ⟨a, e, hlt, hc⟩
    · exact .inl hn
    · exact .inr ⟨a, e, Nat.lt_of_lt_of_le hlt hg.size, fun j u hu => cell_gr hg (by rw [add_block]; exact hne a e) (hc j u hu)⟩
theorem below_gr_row {W W' : World} (hb : Below W.heap.size W W') : W.grownBy W' none := ⟨hb.os, hb.tape, hb.output, hb.size, fun k hk _ => hb.block k hk⟩
theorem gr_none {W W' : World} {row : Option Nat} (hg : W.grownBy W' none) : W.grownBy W' row := ⟨hg.os, hg.tape, hg.output, hg.size, fun k hk _ => hg.block k hk (nn k)⟩
theorem gr_below {W W' : World} (hb : Below W.heap.size W W') (row : Option Nat) : W.grownBy W' row := ⟨hb.os, hb.tape, hb.output, hb.size, fun k hk _ => hb.block k hk⟩
theorem RdX.of {W : World} {B : Nat} {row : Option Nat} {A : Option Addr} {ls : List (List UInt8)} (h : RdS W B A ls) (hB : B ≤ W.heap.size) (hr : ∀ g, row = some g → B ≤ g) : RdX W row A ls := by
  refine ⟨Rd.up h hB, ?_⟩
  rcases h with h | ⟨a, e, hlt, _⟩
  · exact .inl (List.map_eq_nil_iff.1 h)
  · exact .inr fun a' e' hne => by
      rw [e] at e'; injection e' with e'; subst e'
      have := hr a.block hne.symm
      omega
/-- Lines in a row of one's own, behind the row of files. -/
theorem RdX.own {W : World} {base n g : Nat} {A : Option Addr} {c : Nat} {ls : List (List UInt8)} (h : W.ownsRow base 9 1 (.slice A n c) n (ls.map strV)) (hg : g < base) : RdX W (some g) A ls := by
  obtain ⟨A', c', e, _, hr⟩ := rd_of_own h
  cases e
  refine ⟨hr, ?_⟩
  cases A with
  | none => exact .inr fun a e => by cases e
  | some a =>
    refine .inr fun a' e hne => ?_
    have := own_ge h a.block rfl
    injection e with e; subst e
    injection hne with hne
    omega

/-- The cells of files, as far as they go; their lines lie in other blocks than row. -/
def FCells (W : World) (row : Option Nat) (t : TR) (xs : List Value) : Prop :=
  ∀ (k : Nat) x, t[k]? = some x → ∃ A c, xs[k * 2]? = some (strV x.1) ∧ xs[k * 2 + 1]? = some (.slice A x.2.length c) ∧ x.2.length ≤ c ∧ RdX W row A x.2
theorem FCells.gr {W W' : World} {row : Option Nat} {t : TR} {xs : List Value} (h : FCells W row t xs) (hg : W.grownBy W' row) : FCells W' row t xs := fun k x hx => by
  obtain ⟨A, c, h1, h2, h3, h4⟩ := h k x hx
  exact ⟨A, c, h1, h2, h3, h4.gr hg⟩
/-- Where the row turns to a new one. -/
theorem FCells.turn {W W' : World} {row row' : Option Nat} {t : TR} {xs : List Value} (h : FCells W row t xs) (hb : Below W.heap.size W W') (hr : ∀ g, row' = some g → W.heap.size ≤ g) : FCells W' row' t xs := fun k x hx => by
  obtain ⟨A, c, h1, h2, h3, h4⟩ := h k x hx
  exact ⟨A, c, h1, h2, h3, RdX.of (Rd.below h4.1 hb) hb.size hr⟩
theorem FCells.nil (W : World) (row : Option Nat) (xs : List Value) : FCells W row [] xs := fun k x hx => by simp at hx

/-- Where a test of files holds first. -/
def ixF (p : FL → Bool) : TR → Option Nat
  | [] => none
  | x :: t => if p x then some 0 else (ixF p t).map (· + 1)
def ixV (o : Option Nat) : Int := match o with | some k => (k : Int) | none => -1
theorem ixF_at {p : FL → Bool} : ∀ {t : TR} {k : Nat} (hk : k < t.length), p t[k] = true → (∀ j (hj : j < k), p (t[j]'(by omega)) = false) → ixF p t = some k
  | x :: t, 0, _, h, _ => by unfold ixF; rw [if_pos (show p x = true from h)]
  | x :: t, k + 1, hk, h, hb => by
    have h0 : p x = false := hb 0 (by omega)
    unfold ixF
    rw [h0, ixF_at (t := t) (k := k) (by simpa using hk) h fun j hj => hb (j + 1) (by omega)]
    rfl
theorem ixF_no {p : FL → Bool} : ∀ {t : TR}, (∀ j (hj : j < t.length), p t[j] = false) → ixF p t = none
  | [], _ => rfl
  | x :: t, h => by
    have h0 : p x = false := h 0 (by simp)
    unfold ixF
    rw [h0, ixF_no (t := t) fun j hj => h (j + 1) (by simpa using hj)]
    rfl
theorem ixF_some {p : FL → Bool} : ∀ {t : TR} {k : Nat}, ixF p t = some k → ∃ hk : k < t.length, p t[k] = true ∧ ∀ j (hj : j < k), p (t[j]'(by omega)) = false
  | [], k, h => by cases h
  | x :: t, k, h => by
    unfold ixF at h
    by_cases h0 : p x = true
    · rw [if_pos h0] at h; cases h; exact ⟨by simp, h0, fun j hj => by omega⟩
    · rw [if_neg h0] at h
      cases h1 : ixF p t with
      | none => rw [h1] at h; cases h
      | some i =>
        rw [h1] at h
        cases h
        obtain ⟨hi, h2, h3⟩ := ixF_some h1
        refine ⟨by simp; omega, h2, fun j hj => ?_⟩
        cases j with
        | zero => simpa using h0
        | succ j => exact h3 j (Nat.lt_of_succ_lt_succ hj)
theorem ixF_none {p : FL → Bool} {t : TR} (h : ixF p t = none) : ∀ x ∈ t, p x = false := by
  induction t with
  | nil => intro x hx; cases hx
  | cons y t ih =>
    unfold ixF at h
    by_cases h0 : p y = true
    · rw [if_pos h0] at h; cases h
    · rw [if_neg h0] at h
      intro x hx
      rcases List.mem_cons.1 hx with rfl | hx
      · simpa using h0
      · exact ih (by cases h1 : ixF p t with | none => rfl | some i => rw [h1] at h; cases h) x hx

/-- A file's name is this one; a file's name is greater. -/
def isN (n : List UInt8) (x : FL) : Bool := decide (x.1 = n)
def gtN (n : List UInt8) (x : FL) : Bool := Op.bytesLess n x.1

theorem get_ix {t : TR} {n : List UInt8} {k : Nat} (h : ixF (isN n) t = some k) : ∃ hk : k < t.length, t[k].1 = n ∧ get t n = some t[k].2 ∧ (∀ j (hj : j < k), (t[j]'(by omega)).1 ≠ n) := by
  obtain ⟨hk, h1, h2⟩ := ixF_some h
  have e : t[k].1 = n := by simpa [isN] using h1
  have hne : ∀ j (hj : j < k), (t[j]'(by omega)).1 ≠ n := fun j hj => by have := h2 j hj; simpa [isN] using this
  exact ⟨hk, e, get_at hk e hne, hne⟩
theorem get_ix_none {t : TR} {n : List UInt8} (h : ixF (isN n) t = none) : get t n = none := by
  rw [get_none]
  intro f hf
  have := ixF_none h f hf
  simpa [isN] using this
/-- A file ahead of the first one of a greater name. -/
theorem ins_ix : ∀ {t : TR} {n : List UInt8} {l : List (List UInt8)}, ins Op.bytesLess t n l = t.take ((ixF (gtN n) t).getD t.length) ++ (n, l) :: t.drop ((ixF (gtN n) t).getD t.length)
  | [], n, l => rfl
  | x :: t, n, l => by
    unfold ins ixF
    by_cases h : Op.bytesLess n x.1 = true
    · rw [if_pos h, if_pos (show gtN n x = true from h)]; rfl
    · rw [if_neg h, if_neg (show ¬ gtN n x = true from h), ins_ix]
      cases ixF (gtN n) t with
      | none => rfl
      | some k => rfl
theorem place_le {t : TR} {n : List UInt8} : (ixF (gtN n) t).getD t.length ≤ t.length := by
  cases h : ixF (gtN n) t with
  | none => exact Nat.le_refl _
  | some k => exact Nat.le_of_lt (ixF_some h).1

end Tr
end Go.Proofs.YtjhjmfodpnipiaaGreatDoor

namespace Go.Proofs.YtjhjmfodpnipiaaGreatDoor
open Go.RowKit
set_option linter.unusedVariables false
namespace Tr
open Tx

theorem ge_eq (s n : List UInt8) : Op.bytesLess s n = true → Op.bytesLess n s = false := fun h => lin.asym h

/-- What holds of the files gone through. -/
structure MayT (t : TR) (k : Nat) : Prop where
  m : ∀ x ∈ t.take k, name x.1 = true ∧ allMay x.2 = true
  u : upB Op.bytesLess ((t.take k).map (·.1)) = true
theorem MayT.zero (t : TR) : MayT t 0 := ⟨fun x hx => by simp at hx, rfl⟩
theorem MayT.done {t : TR} (h : MayT t t.length) (hl : t.length ≤ 30) : mayT t = true := by
  obtain ⟨h1, h2⟩ := h
  rw [List.take_length] at h1 h2
  unfold mayT
  rw [h2, Bool.and_true, Bool.and_eq_true, decide_eq_true_eq, List.all_eq_true]
  exact ⟨hl, fun x hx => by rw [Bool.and_eq_true]; exact h1 x hx⟩
theorem mayT_bad {t : TR} {x : FL} (hm : x ∈ t) (h : name x.1 = false ∨ allMay x.2 = false) : mayT t = false := by
  have : (t.all fun f => name f.1 && allMay f.2) = false := by
    rw [List.all_eq_false]
    exact ⟨x, hm, by rcases h with h | h <;> rw [h] <;> simp⟩
  unfold mayT
  rw [this]; simp
theorem mayT_fall {t : TR} {j : Nat} (hj : j + 1 < t.length) (h : Op.bytesLess t[j].1 t[j + 1].1 = false) : mayT t = false := by
  cases hm : mayT t with
  | false => rfl
  | true =>
    have hu := mayT_up hm
    have := List.pairwise_iff_getElem.1 hu j (j + 1) (by omega) hj (by omega)
    rw [h] at this; cases this
theorem MayT.first {t : TR} (hk : 0 < t.length) (h1 : name t[0].1 = true) (h2 : allMay t[0].2 = true) : MayT t 1 := by
  cases t with
  | nil => simp at hk
  | cons x t =>
    refine ⟨fun y hy => ?_, rfl⟩
    simp at hy
    subst hy
    exact ⟨h1, h2⟩
theorem MayT.next {t : TR} {j : Nat} (h : MayT t (j + 1)) (hj : j + 1 < t.length) (h1 : name t[j + 1].1 = true) (h2 : allMay t[j + 1].2 = true) (h3 : Op.bytesLess t[j].1 t[j + 1].1 = true) : MayT t (j + 1 + 1) := by
  refine ⟨fun y hy => ?_, ?_⟩
  · rw [take_snoc' hj] at hy
    rcases List.mem_append.1 hy with hy | hy
    · exact h.m y hy
    · simp at hy; subst hy; exact ⟨h1, h2⟩
  · have := h.u
    rw [List.map_take] at this ⊢
    rw [upB_take (by simpa using hj), this, Bool.true_and]
    simpa using h3

theorem NameV (x : List UInt8) (w : World) (n : Nat) (b : Bool) (hx : x.length ≤ maxLen) (hb : name x = b) : Calls Tryz.prog 29 #[strV x] (w.drewN n) fun e w' => e = .returned (.bool b) ∧ w' = w.drewN n := by
  have := Name ⟨x.toArray⟩ (w.drewN n) (by rw [size_strV]; exact hx)
  refine this.mono fun e w' ⟨h1, h2⟩ => ⟨?_, h2.symm⟩
  rw [h1, ← hb]
theorem AllV (A : Option Addr) (c n B : Nat) (ls : List (List UInt8)) (w : World) (m : Nat) (b : Bool) (hn : ls.length = n) (hR : RdS w B A ls) (hb : allMay ls = b) : Calls Tryz.prog 88 #[.slice A n c] (w.drewN m) fun e w' => e = .returned (.bool b) ∧ w' = w.drewN m := by
  refine (All A c n B ls (w.drewN m) hn (Rd.drewN hR m)).mono fun e w' ⟨h1, h2⟩ => ⟨?_, h2.symm⟩
  rw [h1, hb]

end Tr
end Go.Proofs.YtjhjmfodpnipiaaGreatDoor

namespace Go.Proofs.YtjhjmfodpnipiaaGreatDoor
open Go.ChangeShapes Go.WideShapes Go.ChangeAt Go.RowKit Go.Deep
set_option linter.unusedVariables false
namespace Tr
open Tx

/-- What is told of a file that is handed in. -/
structure FitF (x : FL) : Prop where
  n : x.1.length ≤ maxLen
  l : x.2.length ≤ maxLen
  s : ∀ l ∈ x.2, l.length ≤ maxLen

/-- A tree that is handed in: it reads as t. -/
structure TreeArg (w : World) (A : Option Addr) (n c : Nat) (t : TR) : Prop where
  len : t.length = n
  cap : n ≤ c
  le : n ≤ maxLen
  rd : RdT w w.heap.size A t
  fit : ∀ x ∈ t, FitF x

section
variable {H : Type} {enc : TypeId × Value → H} {W : World} {base : Nat} {spare : Nat → Bool} {held : Bool}

end

def lightT (t : TR) : Bool := decide (t.length ≤ 40) && t.all fun x => light x.2 300 && decide (x.1.length ≤ 100)
theorem lightT_no {t : TR} {x : FL} (hm : x ∈ t) (h : light x.2 300 = false ∨ 100 < x.1.length) : lightT t = false := by
  have : (t.all fun x => light x.2 300 && decide (x.1.length ≤ 100)) = false := by
    rw [List.all_eq_false]
    refine ⟨x, hm, ?_⟩
    rcases h with h | h
    · rw [h]; simp
    · simp; intro _; exact h
  simp [lightT, this]
theorem lightT_small {t : TR} (h : lightT t = true) : t.length ≤ 40 ∧ Small t := by
  simp only [lightT, Bool.and_eq_true, decide_eq_true_eq, List.all_eq_true] at h
  refine ⟨h.1, ⟨by omega, fun x hx => ?_⟩⟩
  obtain ⟨h1, h2⟩ := h.2 x hx
  simp only [light, Bool.and_eq_true, decide_eq_true_eq, List.all_eq_true] at h1
  exact ⟨by omega, by omega, fun l hl => by have := h1.2 l hl; omega⟩

end Tr
end Go.Proofs.YtjhjmfodpnipiaaGreatDoor

namespace Go.Proofs.YtjhjmfodpnipiaaGreatDoor
open Go.RowKit
set_option linter.unusedVariables false
namespace Tr
open Tx

end Tr
end Go.Proofs.YtjhjmfodpnipiaaGreatDoor

namespace Go.Proofs.YtjhjmfodpnipiaaGreatDoor
open Go.RowKit
set_option linter.unusedVariables false
namespace Tr
open Tx

theorem FCells.take {W : World} {row : Option Nat} {t : TR} {xs : List Value} (h : FCells W row t xs) (p : Nat) : FCells W row (t.take p) (xs.take (p * 2)) := fun k x hx => by
  rw [List.getElem?_take] at hx
  split at hx
  · rename_i hk
    obtain ⟨A, c, h1, h2, h3, h4⟩ := h k x hx
    exact ⟨A, c, by rw [List.getElem?_take, if_pos (by omega)]; exact h1, by rw [List.getElem?_take, if_pos (by omega)]; exact h2, h3, h4⟩
  · cases hx
theorem FCells.drop {W : World} {row : Option Nat} {t : TR} {xs : List Value} (h : FCells W row t xs) (p : Nat) : FCells W row (t.drop p) (xs.drop (p * 2)) := fun k x hx => by
  rw [List.getElem?_drop] at hx
  obtain ⟨A, c, h1, h2, h3, h4⟩ := h (p + k) x hx
  exact ⟨A, c, by rw [List.getElem?_drop, show p * 2 + k * 2 = (p + k) * 2 by omega]; exact h1, by rw [List.getElem?_drop, show p * 2 + (k * 2 + 1) = (p + k) * 2 + 1 by omega]; exact h2, h3, h4⟩
theorem FCells.append {W : World} {row : Option Nat} {t u : TR} {xs ys : List Value} (h : FCells W row t xs) (hl : xs.length = t.length * 2) (h' : FCells W row u ys) : FCells W row (t ++ u) (xs ++ ys) := fun k x hx => by
  rcases Nat.lt_or_ge k t.length with hk | hk
  · rw [List.getElem?_append_left hk] at hx
    obtain ⟨A, c, h1, h2, h3, h4⟩ := h k x hx
    exact ⟨A, c, by rw [List.getElem?_append_left (by omega)]; exact h1, by rw [List.getElem?_append_left (by omega)]; exact h2, h3, h4⟩
  · rw [List.getElem?_append_right hk] at hx
    obtain ⟨A, c, h1, h2, h3, h4⟩ := h' _ x hx
    refine ⟨A, c, ?_, ?_, h3, h4⟩
    · rw [List.getElem?_append_right (by omega), hl, show k * 2 - t.length * 2 = (k - t.length) * 2 by omega]; exact h1
    · rw [List.getElem?_append_right (by omega), hl, show k * 2 + 1 - t.length * 2 = (k - t.length) * 2 + 1 by omega]; exact h2
theorem FCells.one {W : World} {row : Option Nat} {x : FL} {A : Option Addr} {m c : Nat} (hm : x.2.length = m) (hc : m ≤ c) (hr : RdX W row A x.2) : FCells W row [x] [strV x.1, .slice A m c] := fun k y hy => by
  cases k with
  | zero =>
    cases hy
    subst hm
    exact ⟨A, c, rfl, rfl, hc, hr⟩
  | succ k => simp at hy
/-- One file more. -/
theorem FCells.ins {W : World} {row : Option Nat} {t : TR} {xs : List Value} {s : List UInt8} {l : List (List UInt8)} {A : Option Addr} {m c p : Nat} (h : FCells W row t xs) (hl : xs.length = t.length * 2) (hp : p ≤ t.length) (hm : l.length = m) (hc : m ≤ c) (hr : RdX W row A l) :
    FCells W row (t.take p ++ (s, l) :: t.drop p) (xs.take (p * 2) ++ ([strV s, .slice A m c] ++ xs.drop (p * 2))) :=
  (h.take p).append (by rw [List.length_take, List.length_take, hl]; omega) ((FCells.one (x := (s, l)) hm hc hr).append rfl (h.drop p))
/-- One file less. -/
theorem FCells.del {W : World} {row : Option Nat} {t : TR} {xs : List Value} {p : Nat} (h : FCells W row t xs) (hl : xs.length = t.length * 2) (hp : p ≤ t.length) : FCells W row (t.take p ++ t.drop (p + 1)) (xs.take (p * 2) ++ xs.drop ((p + 1) * 2)) :=
  (h.take p).append (by rw [List.length_take, List.length_take, hl]; omega) (h.drop (p + 1))

theorem FCells.one_cell {W : World} {row : Option Nat} {t : TR} {xs : List Value} (h : FCells W row t xs) (hl : xs.length = t.length * 2) : ∀ u ∈ xs, u.oneCell' = true := by
  intro u hu
  obtain ⟨j, hj, rfl⟩ := List.mem_iff_getElem.1 hu
  have hk : j / 2 < t.length := by omega
  obtain ⟨A, c, h1, h2, _⟩ := h (j / 2) t[j / 2] (List.getElem?_eq_getElem hk)
  rcases Nat.mod_two_eq_zero_or_one j with e | e
  · have : xs[j]? = some (strV t[j / 2].1) := by rw [← h1]; congr 1; omega
    rw [List.getElem?_eq_getElem hj] at this
    injection this with this
    rw [this]; simp [Value.oneCell']
  · have : xs[j]? = some (.slice A t[j / 2].2.length c) := by rw [← h2]; congr 1; omega
    rw [List.getElem?_eq_getElem hj] at this
    injection this with this
    rw [this]; simp [Value.oneCell']

theorem upd_set {t : TR} {n : List UInt8} {l : List (List UInt8)} {k : Nat} (h : ixF (isN n) t = some k) : upd t n l = t.set k (n, l) := by
  obtain ⟨hk, h1, _, h3⟩ := get_ix h
  rw [upd_at hk h1 h3, List.set_eq_take_append_cons_drop, if_pos hk]

end Tr
end Go.Proofs.YtjhjmfodpnipiaaGreatDoor

namespace Go.Proofs.YtjhjmfodpnipiaaGreatDoor
open Go.RowKit
set_option linter.unusedVariables false
namespace Tr
open Tx

theorem add_succ (a : Addr) (i : Nat) : (⟨(a.add i).block, (a.add i).off + 1, none⟩ : Addr) = a.add (i + 1) := by
  unfold Addr.add
  by_cases h : i = 0
  · subst h; simp
  · simp [h, Nat.add_assoc]

/-- The cells of a tree that is read. -/
theorem flat_cells {w : World} {B : Nat} {row : Option Nat} {A : Option Addr} {t : TR} (h : RdT w B A t) (hB : B ≤ w.heap.size) (hr : ∀ g, row = some g → B ≤ g) :
    ∃ xs : List Value, xs.length = t.length * 2 ∧ FCells w row t xs ∧ (xs = [] ∨ ∃ a, A = some a ∧ ∀ j u, xs[j]? = some u → w.cell? (a.add j) = some u) := by
  rcases h with rfl | ⟨a, rfl, hlt, hc⟩
  · exact ⟨[], rfl, FCells.nil _ _ _, .inl rfl⟩
  · have key : ∀ (u : TR) (p : Nat), (∀ (k : Nat) x, u[k]? = some x → FlAt w B a (p + k) x) → ∃ xs : List Value, xs.length = u.length * 2 ∧ FCells w row u xs ∧ ∀ j v, xs[j]? = some v → w.cell? (a.add (p * 2 + j)) = some v := by
      intro u
      induction u with
      | nil => intro p _; exact ⟨[], rfl, FCells.nil _ _ _, fun j v hv => by simp at hv⟩
      | cons x u ih =>
        intro p hu
        obtain ⟨xs, h1, h2, h3⟩ := ih (p + 1) fun k y hy => by
          have := hu (k + 1) y (by simpa using hy)
          rw [show p + 1 + k = p + (k + 1) by omega]; exact this
        obtain ⟨c0, A1, c1, k1, kc, kr⟩ := hu 0 x rfl
        rw [Nat.add_zero] at c0 k1
        rw [add_succ] at k1
        refine ⟨strV x.1 :: .slice A1 x.2.length c1 :: xs, by simp [h1]; omega, ?_, fun j v hv => ?_⟩
        · exact FCells.append (t := [x]) (xs := [strV x.1, .slice A1 x.2.length c1]) (FCells.one rfl kc (RdX.of kr hB hr)) rfl h2
        · rcases j with _ | _ | j
          · cases hv; exact c0
          · cases hv; exact k1
          · have := h3 j v (by simpa using hv)
            rw [show p * 2 + (j + 2) = (p + 1) * 2 + j by omega]; exact this
    obtain ⟨xs, h1, h2, h3⟩ := key t 0 fun k x hx => by rw [Nat.zero_add]; exact hc k x hx
    exact ⟨xs, h1, h2, .inr ⟨a, rfl, fun j u hu => by have := h3 j u hu; rw [Nat.zero_mul, Nat.zero_add] at this; exact this⟩⟩

section
variable {P : Program} {w : World}
theorem run_append_none {t ty e : TypeId} {i : TypeInfo} {A A' : Option Addr} {n c c' : Nat} (ht : P.underlying t = some (.slice e)) (hi : P.info? e = some i) (hnc : n ≤ c) :
    (Builtin.append_ #[t, t] ty #[.slice A n c, .slice A' 0 c']).run P w = .ok (.slice A n c) w := by
  have hl : ∀ a : Addr, (loadCells a 0).run P w = .ok #[] w := fun a => by
    have := run_loadCells_list (P := P) w a [] (by simp)
    exact this
  cases A <;> cases A' <;> simp [Builtin.append_, run_underlying ht, sizeOf, typeInfo, hi, Builtin.lenOf, Builtin.firstCells, hnc, storeCells, hl]
end

end Tr
end Go.Proofs.YtjhjmfodpnipiaaGreatDoor

namespace Go.Proofs.YtjhjmfodpnipiaaGreatDoor
open Go.RowKit
set_option linter.unusedVariables false
namespace Tr
open Tx

/-- What is left of the files gone through. -/
def delTo (o : Option Nat) (t : TR) (k : Nat) : TR :=
  match o with
  | none => t.take k
  | some i => if k ≤ i then t.take k else t.take i ++ (t.take k).drop (i + 1)
theorem delTo_here {t : TR} {i : Nat} : delTo (some i) t (i + 1) = delTo (some i) t i := by
  unfold delTo
  simp only
  rw [if_neg (by omega), if_pos (Nat.le_refl _), List.drop_of_length_le (by rw [List.length_take]; omega), List.append_nil]
theorem delTo_next {o : Option Nat} {t : TR} {k : Nat} (hk : k < t.length) (h : o ≠ some k) : delTo o t (k + 1) = delTo o t k ++ [t[k]] := by
  cases o with
  | none => exact take_snoc' hk
  | some i =>
    have hne : i ≠ k := fun e => h (by rw [e])
    unfold delTo
    simp only
    by_cases hki : k ≤ i
    · rw [if_pos (by omega), if_pos hki]; exact take_snoc' hk
    · rw [if_neg (by omega), if_neg hki, take_snoc' hk, List.drop_append_of_le_length (by rw [List.length_take]; omega), List.append_assoc]
theorem delTo_end {t : TR} {s : List UInt8} : delTo (ixF (isN s) t) t t.length = del t s := by
  cases hi : ixF (isN s) t with
  | none => rw [del_no (get_ix_none hi)]; exact List.take_length
  | some i =>
    obtain ⟨hk, h1, _, h3⟩ := get_ix hi
    rw [del_at hk h1 h3]
    unfold delTo
    simp only
    rw [if_neg (by omega), List.take_length]
theorem delTo_len {o : Option Nat} {t : TR} {k : Nat} : (delTo o t k).length ≤ t.length := by
  cases o with
  | none => unfold delTo; rw [List.length_take]; omega
  | some i => unfold delTo; simp only; split <;> simp only [List.length_append, List.length_take, List.length_drop] <;> omega

end Tr
end Go.Proofs.YtjhjmfodpnipiaaGreatDoor

namespace Go.Proofs.YtjhjmfodpnipiaaGreatDoor
open Go.RowKit
set_option linter.unusedVariables false
namespace Tr
open Tx

theorem fill_set {α : Type} {ls : List α} {n k : Nat} (z : α) (hn : ls.length = n) (hk : k < ls.length) : (ls.take k ++ List.replicate (n - k) z).set k ls[k] = ls.take (k + 1) ++ List.replicate (n - (k + 1)) z := by
  have h1 : (ls.take k).length = k := by rw [List.length_take]; omega
  rw [List.set_append_right _ _ (by omega), h1, Nat.sub_self, show n - k = (n - (k + 1)) + 1 by omega, List.replicate_succ, List.set_cons_zero, take_snoc' hk, List.append_assoc]
  rfl
theorem fill_len {α : Type} {ls : List α} {n k : Nat} (z : α) (hn : ls.length = n) (hk : k ≤ n) : (ls.take k ++ List.replicate (n - k) z).length = n := by
  rw [List.length_append, List.length_take, List.length_replicate]; omega

/-- How a copy of lines ends. -/
def CopyEnd (w : World) (n : Nat) (ls : List (List UInt8)) (e : Ending) (w' : World) : Prop :=
  e = .returned (.slice (some ⟨w.heap.size, 0, none⟩) n n) ∧ w'.ownsRow w.heap.size 9 1 (.slice (some ⟨w.heap.size, 0, none⟩) n n) n (ls.map strV) ∧ w.grownBy w' none

/-- How file ends. -/
def FileEnd (w : World) (s : List UInt8) (n : Nat) (ls : List (List UInt8)) (e : Ending) (w' : World) : Prop :=
  ∃ g, e = .returned (flV s (some ⟨g, 0, none⟩) n n) ∧ w'.ownsRow w.heap.size 9 1 (.slice (some ⟨g, 0, none⟩) n n) n (ls.map strV) ∧ Below w.heap.size w w'

end Tr
end Go.Proofs.YtjhjmfodpnipiaaGreatDoor

namespace Go.Proofs.YtjhjmfodpnipiaaGreatDoor
open Go.RowKit
set_option linter.unusedVariables false
namespace Tr
open Tx

theorem FCells.set {W : World} {g k c : Nat} {t1 t2 : TR} {xs : List Value} {x : FL} {A : Option Addr} (h : FCells W (some g) t1 xs) (hj : ∀ j y, j ≠ k → t2[j]? = some y → t1[j]? = some y) (hk : ∀ y, t2[k]? = some y → y = x)
    (hlen : k * 2 + 1 < xs.length) (hc : x.2.length ≤ c) (hr : RdX W (some g) A x.2) : FCells W (some g) t2 ((xs.set (k * 2) (strV x.1)).set (k * 2 + 1) (.slice A x.2.length c)) := by
  intro j y hy
  by_cases e : j = k
  · subst e
    obtain rfl := hk y hy
    refine ⟨A, c, ?_, ?_, hc, hr⟩
    · rw [List.getElem?_set_ne (by omega), List.getElem?_set_self (by omega)]
    · rw [List.getElem?_set_self (by rw [List.length_set]; omega)]
  · obtain ⟨A', c', h1, h2, h3, h4⟩ := h j y (hj j y e hy)
    refine ⟨A', c', ?_, ?_, h3, h4⟩
    · rw [List.getElem?_set_ne (by omega), List.getElem?_set_ne (by omega)]; exact h1
    · rw [List.getElem?_set_ne (by omega), List.getElem?_set_ne (by omega)]; exact h2

end Tr
end Go.Proofs.YtjhjmfodpnipiaaGreatDoor

namespace Go.Proofs.YtjhjmfodpnipiaaGreatDoor
open Go.RowKit
set_option linter.unusedVariables false
namespace Tr
open Tx

/-- The files gone through, with the one that is put, if it is ahead of one of them. -/
def insTo (s : List UInt8) (l : List (List UInt8)) (t : TR) (k : Nat) (b : Bool) : TR := if b then ins Op.bytesLess (t.take k) s l else t.take k
theorem any_take {t : TR} {s : List UInt8} {k : Nat} (hk : k < t.length) : (t.take (k + 1)).any (gtN s) = ((t.take k).any (gtN s) || gtN s t[k]) := by
  rw [take_snoc' hk, List.any_append]; simp
theorem any_no {t : TR} {s : List UInt8} (h : t.any (gtN s) = false) : ∀ f ∈ t, Op.bytesLess s f.1 = false := fun f hf => by
  rw [List.any_eq_false] at h
  simpa [gtN] using h f hf
theorem any_yes {t : TR} {s : List UInt8} (h : t.any (gtN s) = true) : ∃ f ∈ t, Op.bytesLess s f.1 = true := by
  rw [List.any_eq_true] at h
  exact h
theorem insTo_past {s : List UInt8} {l : List (List UInt8)} {t : TR} {k : Nat} (hk : k < t.length) (h : (t.take k).any (gtN s) = true) : insTo s l t (k + 1) true = insTo s l t k true ++ [t[k]] := by
  unfold insTo
  rw [if_pos rfl, if_pos rfl, take_snoc' hk]
  exact ins_past (any_yes h)
theorem insTo_none {s : List UInt8} {l : List (List UInt8)} {t : TR} {k : Nat} (hk : k < t.length) : insTo s l t (k + 1) false = insTo s l t k false ++ [t[k]] := take_snoc' hk
theorem insTo_here {s : List UInt8} {l : List (List UInt8)} {t : TR} {k : Nat} (hk : k < t.length) (h : (t.take k).any (gtN s) = false) (hg : gtN s t[k] = true) : insTo s l t (k + 1) true = (insTo s l t k false ++ [(s, l)]) ++ [t[k]] := by
  unfold insTo
  rw [if_pos rfl, if_neg (by decide), take_snoc' hk, ins_here (any_no h) hg, List.append_assoc]
  rfl
theorem insTo_end {s : List UInt8} {l : List (List UInt8)} {t : TR} (h : t.any (gtN s) = false) : ins Op.bytesLess t s l = insTo s l t t.length false ++ [(s, l)] := by
  unfold insTo
  rw [if_neg (by decide), List.take_length]
  exact ins_none (any_no h)
theorem insTo_len {s : List UInt8} {l : List (List UInt8)} {t : TR} {k : Nat} {b : Bool} : (insTo s l t k b).length ≤ t.length + 1 := by
  unfold insTo
  split
  · rw [ins_len, List.length_take]; omega
  · rw [List.length_take]; omega

end Tr
end Go.Proofs.YtjhjmfodpnipiaaGreatDoor

namespace Go.Proofs.YtjhjmfodpnipiaaGreatDoor
open Go.RowKit
set_option linter.unusedVariables false
namespace Tr
open Tx

theorem SameQ (A A' : Option Addr) (c c' n n' B : Nat) (ls ms : List (List UInt8)) (w : World) (d : Nat) (b : Bool) (hn : ls.length = n) (hn' : ms.length = n') (hnm : n ≤ maxLen) (hR : RdS w B A ls) (hR' : RdS w B A' ms) (hb : decide (ls = ms) = b) :
    Calls Tryz.prog 58 #[.slice A n c, .slice A' n' c'] (w.drewN d) fun e w' => e = .returned (.bool b) ∧ ∃ m, w' = (w.drewN d).drewN m := by
  subst hb
  exact (Tx.Same A A' c c' n n' B ls ms (w.drewN d) hn hn' hnm (Rd.drewN hR d) (Rd.drewN hR' d)).mono fun e w' h => h

theorem RefNameV (x : List UInt8) (w : World) (hx : x.length ≤ maxLen) : Calls Tryz.prog 55 #[strV x] w fun e w' => e = .returned (.bool (name x)) ∧ w = w' := by
  have := RefName ⟨x.toArray⟩ w (by rw [size_strV]; exact hx)
  simpa using this

theorem MayT.done' {t : TR} (h : MayT t t.length) : mayT t = decide (t.length ≤ 30) := by
  by_cases hl : t.length ≤ 30
  · rw [h.done hl, decide_eq_true hl]
  · rw [decide_eq_false hl]; unfold mayT; rw [decide_eq_false hl]; rfl

end Tr
end Go.Proofs.YtjhjmfodpnipiaaGreatDoor

namespace Go.Proofs.YtjhjmfodpnipiaaGreatDoor
open Go.ChangeShapes Go.WideShapes Go.ChangeAt Go.RowKit Go.Deep
set_option linter.unusedVariables false
namespace Tr
open Tx

theorem bytes_str : Tryz.prog.bytesOf 9 = 16 := by kernel_rfl
section
variable {H : Type} {enc : TypeId × Value → H} {W : World} {base : Nat} {spare : Nat → Bool} {held : Bool}

theorem weights_all_mem {P : Program} {e : TypeId} : ∀ {ds : List (DataW H)} {d : DataW H}, d ∈ ds → ∀ n ∈ d.weights P e, n ∈ DataW.weightsAll P e ds
  | d0 :: r, d, hd, n, hn => by
    simp only [DataW.weightsAll, List.mem_append]
    rcases List.mem_cons.1 hd with rfl | hd
    · exact .inl hn
    · exact .inr (weights_all_mem hd n hn)

theorem strs_wide {fuel : Nat} {A : Option Addr} {n c : Nat} {x : DataW H × List MemPlace} (h : DataW.trod enc Tryz.prog W base spare held fuel 30 [.slice A n c] = some x) (hz : ∀ k ∈ x.1.weights Tryz.prog 30, k ≤ reachBytes) : n * 16 ≤ reachBytes := by
  rcases open_slice Tryz.underlying30 h with ⟨h', _⟩ | ⟨a, len, cap, m, nn, D, Pl, h', _, hl, _, hmm, rfl, _⟩
  · simp at h'
    obtain ⟨_, rfl, _⟩ := h'
    unfold reachBytes
    omega
  · simp at h'
    obtain ⟨_, rfl, _⟩ := h'
    have := hz ((n + (m - n)) * 16) (by simp [DataW.weights, Tryz.underlying30, bytes_str])
    omega

end

end Tr
end Go.Proofs.YtjhjmfodpnipiaaGreatDoor

namespace Go.Proofs.YtjhjmfodpnipiaaGreatDoor
open Go.RowKit
set_option linter.unusedVariables false
namespace Tr
open Tx

theorem isN_eq (nm : List UInt8) (x : FL) : isN nm x = decide (x.1 = nm) := rfl

end Tr
end Go.Proofs.YtjhjmfodpnipiaaGreatDoor

namespace Go.Proofs.YtjhjmfodpnipiaaGreatDoor
open Go.RowKit
set_option linter.unusedVariables false
namespace Tr
open Tx

end Tr
end Go.Proofs.YtjhjmfodpnipiaaGreatDoor
