/-
  Words and contracts, joined: TrMem TrMay TrOpen TrRef TrParts TrApp TrRefDel TrLeaf TrAgain TrRefPut TrRefSame TrWide TrFind TrGet.
-/
import Derived.Test.YtbiiabfhngdeiaaGQ
import Derived.Test.YtbiiabfhngdeiaaGP
import Derived.IntWalk
import Derived.Test.YtbiiabfhngdeiaaGX
import Derived.Deep.QuietTactic
import Derived.BigQuiet
import Derived.Deep.Slices
import Derived.Deep.Strs
import Derived.Deep.AppendLies
import Derived.Deep.RegionHeld3
import Derived.Laws.Rows
import Derived.SizedLaws
set_option maxRecDepth 100000
namespace Go.Proofs.Ytbiiabfhngdeiaa
open Go.RowKit
set_option linter.unusedVariables false
namespace Tr
open Tx

/-- The value of a file. -/
abbrev flV (s : List UInt8) (A : Option Addr) (n c : Nat) : Value := .agg #[strV s, .slice A n c]

/-- The cells of a file at the address a, its lines below block B. -/
structure FlAt (w : World) (B : Nat) (a : Addr) (k : Nat) (x : FL) : Prop where
  c0 : w.cell? (a.add (k * 2)) = some (strV x.1)
  c1 : ∃ A c, w.cell? ⟨(a.add (k * 2)).block, (a.add (k * 2)).off + 1, none⟩ = some (.slice A x.2.length c) ∧ x.2.length ≤ c ∧ RdS w B A x.2

/-- The address A leads, below block B, to files; or there are none. -/
def RdT (w : World) (B : Nat) (A : Option Addr) (t : TR) : Prop :=
  t = [] ∨ ∃ a, A = some a ∧ a.block < B ∧ ∀ (k : Nat) x, t[k]? = some x → FlAt w B a k x

/-- What is small enough for all walks. -/
structure SmallF (x : FL) : Prop where
  n : x.1.length ≤ 100000
  l : x.2.length ≤ 100000
  s : ∀ l ∈ x.2, l.length ≤ 100000
structure Small (t : TR) : Prop where
  len : t.length ≤ 100000
  all : ∀ x ∈ t, SmallF x

/-- What the walks of the program's own functions need: what fits a memory. -/
structure Wide (t : TR) : Prop where
  len : t.length ≤ 3518437208800
  all : ∀ x ∈ t, x.2.length ≤ 8796093021952
theorem Small.wide {t : TR} (h : Small t) : Wide t := ⟨by have := h.len; omega, fun x hx => by have := (h.all x hx).l; omega⟩
theorem small_fit {t : TR} (h : Small t) : ∀ x ∈ t, x.1.length ≤ maxLen ∧ x.2.length ≤ maxLen := fun x hx => by
  have := h.all x hx
  exact ⟨Nat.le_trans this.n (by decide), Nat.le_trans this.l (by decide)⟩

section
variable {w w' : World} {B B' : Nat} {A : Option Addr} {t : TR} {x : FL}
theorem FlAt.below {a : Addr} {k : Nat} (h : FlAt w B a k x) (ha : a.block < B) (hb : Below B w w') : FlAt w' B a k x := by
  obtain ⟨c0, A, c, c1, c2, c3⟩ := h
  exact ⟨(hb.cell (by rw [add_block]; exact ha)).trans c0, A, c, (hb.cell (by show (a.add (k * 2)).block < B; rw [add_block]; exact ha)).trans c1, c2, Rd.below c3 hb⟩
theorem FlAt.up {a : Addr} {k : Nat} (h : FlAt w B a k x) (hB : B ≤ B') : FlAt w B' a k x := by
  obtain ⟨c0, A, c, c1, c2, c3⟩ := h
  exact ⟨c0, A, c, c1, c2, Rd.up c3 hB⟩
theorem RdT.below (h : RdT w B A t) (hb : Below B w w') : RdT w' B A t := by
  rcases h with h | ⟨a, e, hlt, hc⟩
  · exact .inl h
  · exact .inr ⟨a, e, hlt, fun k x hx => (hc k x hx).below hlt hb⟩
theorem RdT.up (h : RdT w B A t) (hB : B ≤ B') : RdT w B' A t := by
  rcases h with h | ⟨a, e, hlt, hc⟩
  · exact .inl h
  · exact .inr ⟨a, e, by omega, fun k x hx => (hc k x hx).up hB⟩
theorem RdT.to (h : RdT w B A t) (hB : B ≤ w.heap.size) (hb : Below w.heap.size w w') : RdT w' w'.heap.size A t := ((h.up hB).below hb).up hb.size
theorem RdT.at_ (h : RdT w B A t) {k : Nat} (hk : k < t.length) : ∃ a, A = some a ∧ a.block < B ∧ FlAt w B a k t[k] := by
  rcases h with rfl | ⟨a, e, hlt, hc⟩
  · exact absurd hk (by simp)
  · exact ⟨a, e, hlt, hc k _ (List.getElem?_eq_getElem hk)⟩
theorem RdT.drewN (h : RdT w B A t) (d : Nat) : RdT (w.drewN d) B A t := by
  rcases h with h | ⟨a, e, hlt, hc⟩
  · exact .inl h
  · refine .inr ⟨a, e, hlt, fun k x hx => ?_⟩
    obtain ⟨c0, A, c, c1, c2, c3⟩ := hc k x hx
    exact ⟨by simpa using c0, A, c, by simpa using c1, c2, Rd.drewN c3 d⟩
theorem RdT.nil (w : World) (B : Nat) (A : Option Addr) : RdT w B A [] := .inl rfl
end

/-- How a function that makes a tree ends. -/
def TreeEnd (w : World) (t : TR) (e : Ending) (w' : World) : Prop :=
  ∃ A c, e = .returned (.slice A t.length c) ∧ t.length ≤ c ∧ RdT w' w'.heap.size A t ∧ Below w.heap.size w w'
/-- How a function that makes lines ends. -/
def LinesEnd (w : World) (l : List (List UInt8)) (e : Ending) (w' : World) : Prop :=
  ∃ A c, e = .returned (.slice A l.length c) ∧ l.length ≤ c ∧ RdS w' w'.heap.size A l ∧ Below w.heap.size w w'
/-- How a function ends that tells lines, or that there are none. -/
def GetEnd (w : World) (o : Option (List (List UInt8))) (e : Ending) (w' : World) : Prop :=
  ∃ A c, e = .returned (.tuple #[.slice A (o.getD []).length c, .bool o.isSome]) ∧ (o.getD []).length ≤ c ∧ RdS w' w'.heap.size A (o.getD []) ∧ Below w.heap.size w w'
/-- The same, the lines in memory that is new. -/
def GetEndH (w : World) (o : Option (List (List UInt8))) (e : Ending) (w' : World) : Prop :=
  ∃ A c, e = .returned (.tuple #[.slice A (o.getD []).length c, .bool o.isSome]) ∧ (o.getD []).length ≤ c ∧ RdS w' w'.heap.size A (o.getD []) ∧ Hi w.heap.size A ∧ Below w.heap.size w w'
theorem GetEndH.end_ {w w' : World} {o : Option (List (List UInt8))} {e : Ending} (h : GetEndH w o e w') : GetEnd w o e w' := by
  obtain ⟨A, c, h1, h2, h3, _, h4⟩ := h
  exact ⟨A, c, h1, h2, h3, h4⟩
def BoolEnd (w : World) (b : Bool) (e : Ending) (w' : World) : Prop := e = .returned (.bool b) ∧ Below w.heap.size w w'
def IntEnd (w : World) (i : Int) (e : Ending) (w' : World) : Prop := e = .returned (.int .i64 i) ∧ Below w.heap.size w w'

/-- Lines that are read, in another block than row. -/
def RdX (W : World) (row : Option Nat) (A : Option Addr) (ls : List (List UInt8)) : Prop :=
  RdS W W.heap.size A ls ∧ (ls = [] ∨ ∀ a, A = some a → some a.block ≠ row)
theorem RdX.gr {W W' : World} {row : Option Nat} {A : Option Addr} {ls : List (List UInt8)} (h : RdX W row A ls) (hg : W.grownBy W' row) : RdX W' row A ls := by
  refine ⟨?_, h.2⟩
  rcases h.2 with rfl | hne
  · exact .inl rfl
  · rcases h.1 with hn | ⟨a, e, hlt, hc⟩
    · exact .inl hn
    · exact .inr ⟨a, e, Nat.lt_of_lt_of_le hlt hg.size, fun j u hu => cell_gr hg (by rw [add_block]; exact hne a e) (hc j u hu)⟩
theorem below_gr_row {W W' : World} (hb : Below W.heap.size W W') : W.grownBy W' none := ⟨hb.os, hb.tape, hb.output, hb.size, fun k hk _ => hb.block k hk⟩
theorem gr_none {W W' : World} {row : Option Nat} (hg : W.grownBy W' none) : W.grownBy W' row := ⟨hg.os, hg.tape, hg.output, hg.size, fun k hk _ => hg.block k hk (nn k)⟩
theorem gr_below {W W' : World} (hb : Below W.heap.size W W') (row : Option Nat) : W.grownBy W' row := ⟨hb.os, hb.tape, hb.output, hb.size, fun k hk _ => hb.block k hk⟩
theorem RdX.of {W : World} {B : Nat} {row : Option Nat} {A : Option Addr} {ls : List (List UInt8)} (h : RdS W B A ls) (hB : B ≤ W.heap.size) (hr : ∀ g, row = some g → B ≤ g) : RdX W row A ls := by
  refine ⟨Rd.up h hB, ?_⟩
  rcases h with h | ⟨a, e, hlt, _⟩
  · exact .inl (List.map_eq_nil_iff.1 h)
  · exact .inr fun a' e' hne => by
      rw [e] at e'; injection e' with e'; subst e'
      have := hr a.block hne.symm
      omega
/-- Lines in a row of one's own, behind the row of files. -/
theorem RdX.own {W : World} {base n g : Nat} {A : Option Addr} {c : Nat} {ls : List (List UInt8)} (h : W.ownsRow base 9 1 (.slice A n c) n (ls.map strV)) (hg : g < base) : RdX W (some g) A ls := by
  obtain ⟨A', c', e, _, hr⟩ := rd_of_own h
  cases e
  refine ⟨hr, ?_⟩
  cases A with
  | none => exact .inr fun a e => by cases e
  | some a =>
    refine .inr fun a' e hne => ?_
    have := own_ge h a.block rfl
    injection e with e; subst e
    injection hne with hne
    omega

/-- The cells of files, as far as they go; their lines lie in other blocks than row. -/
def FCells (W : World) (row : Option Nat) (t : TR) (xs : List Value) : Prop :=
  ∀ (k : Nat) x, t[k]? = some x → ∃ A c, xs[k * 2]? = some (strV x.1) ∧ xs[k * 2 + 1]? = some (.slice A x.2.length c) ∧ x.2.length ≤ c ∧ RdX W row A x.2
theorem FCells.gr {W W' : World} {row : Option Nat} {t : TR} {xs : List Value} (h : FCells W row t xs) (hg : W.grownBy W' row) : FCells W' row t xs := fun k x hx => by
  obtain ⟨A, c, h1, h2, h3, h4⟩ := h k x hx
  exact ⟨A, c, h1, h2, h3, h4.gr hg⟩
/-- Where the row turns to a new one. -/
theorem FCells.turn {W W' : World} {row row' : Option Nat} {t : TR} {xs : List Value} (h : FCells W row t xs) (hb : Below W.heap.size W W') (hr : ∀ g, row' = some g → W.heap.size ≤ g) : FCells W' row' t xs := fun k x hx => by
  obtain ⟨A, c, h1, h2, h3, h4⟩ := h k x hx
  exact ⟨A, c, h1, h2, h3, RdX.of (Rd.below h4.1 hb) hb.size hr⟩
theorem FCells.nil (W : World) (row : Option Nat) (xs : List Value) : FCells W row [] xs := fun k x hx => by simp at hx

/-- Files in a row of one's own. -/
def OwnT (W : World) (base : Nat) (v : Value) (t : TR) : Prop := ∃ xs, W.ownsRow base 66 2 v t.length xs ∧ FCells W v.ownBlock t xs

/-- A row of files of one's own is read as files. -/
theorem rdT_own {W : World} {base : Nat} {v : Value} {t : TR} (h : OwnT W base v t) : ∃ A c, v = .slice A t.length c ∧ t.length ≤ c ∧ RdT W W.heap.size A t := by
  obtain ⟨xs, hr, hF⟩ := h
  rcases hr.2 with ⟨rfl, h0⟩ | ⟨g, cap, cur, rfl, _, hg, hc, _⟩
  · have : t = [] := List.eq_nil_of_length_eq_zero h0
    subst this
    exact ⟨none, 0, rfl, Nat.le_refl _, .inl rfl⟩
  · refine ⟨_, cap, rfl, hc, .inr ⟨_, rfl, (Array.getElem?_eq_some_iff.1 hg).1, fun k x hx => ?_⟩⟩
    obtain ⟨A, c, g1, g2, g3, g4⟩ := hF k x hx
    have hk : k < t.length := (List.getElem?_eq_some_iff.1 hx).1
    have ea : (⟨g, 0, none⟩ : Addr).add (k * 2) = ⟨g, k * 2, none⟩ := by unfold Addr.add; split <;> simp_all
    refine ⟨?_, A, c, ?_, g3, g4.1⟩
    · rw [ea, hr.cellAt (k * 2) (by omega)]; exact g1
    · rw [ea]; show W.cell? ⟨g, k * 2 + 1, none⟩ = _; rw [hr.cellAt (k * 2 + 1) (by omega)]; exact g2
theorem treeEnd_own {w w' : World} {base : Nat} {v : Value} {t : TR} (h : OwnT w' base v t) (hb : Below w.heap.size w w') : TreeEnd w t (.returned v) w' := by
  obtain ⟨A, c, rfl, hc, hr⟩ := rdT_own h
  exact ⟨A, c, rfl, hc, hr, hb⟩

theorem info_file : (Try.prog.info? 66).map (fun i => (i.zero, i.size, i.bytes)) = some (some (.agg #[.string ⟨#[]⟩, .slice none 0 0]), 2, 40) := by kernel_rfl

/-- Where a test of files holds first. -/
def ixF (p : FL → Bool) : TR → Option Nat
  | [] => none
  | x :: t => if p x then some 0 else (ixF p t).map (· + 1)
def ixV (o : Option Nat) : Int := match o with | some k => (k : Int) | none => -1
theorem ixF_at {p : FL → Bool} : ∀ {t : TR} {k : Nat} (hk : k < t.length), p t[k] = true → (∀ j (hj : j < k), p (t[j]'(by omega)) = false) → ixF p t = some k
  | x :: t, 0, _, h, _ => by unfold ixF; rw [if_pos (show p x = true from h)]
  | x :: t, k + 1, hk, h, hb => by
    have h0 : p x = false := hb 0 (by omega)
    unfold ixF
    rw [h0, ixF_at (t := t) (k := k) (by simpa using hk) h fun j hj => hb (j + 1) (by omega)]
    rfl
theorem ixF_no {p : FL → Bool} : ∀ {t : TR}, (∀ j (hj : j < t.length), p t[j] = false) → ixF p t = none
  | [], _ => rfl
  | x :: t, h => by
    have h0 : p x = false := h 0 (by simp)
    unfold ixF
    rw [h0, ixF_no (t := t) fun j hj => h (j + 1) (by simpa using hj)]
    rfl
theorem ixF_some {p : FL → Bool} : ∀ {t : TR} {k : Nat}, ixF p t = some k → ∃ hk : k < t.length, p t[k] = true ∧ ∀ j (hj : j < k), p (t[j]'(by omega)) = false
  | [], k, h => by cases h
  | x :: t, k, h => by
    unfold ixF at h
    by_cases h0 : p x = true
    · rw [if_pos h0] at h; cases h; exact ⟨by simp, h0, fun j hj => by omega⟩
    · rw [if_neg h0] at h
      cases h1 : ixF p t with
      | none => rw [h1] at h; cases h
      | some i =>
        rw [h1] at h
        cases h
        obtain ⟨hi, h2, h3⟩ := ixF_some h1
        refine ⟨by simp; omega, h2, fun j hj => ?_⟩
        cases j with
        | zero => simpa using h0
        | succ j => exact h3 j (Nat.lt_of_succ_lt_succ hj)
theorem ixF_none {p : FL → Bool} {t : TR} (h : ixF p t = none) : ∀ x ∈ t, p x = false := by
  induction t with
  | nil => intro x hx; cases hx
  | cons y t ih =>
    unfold ixF at h
    by_cases h0 : p y = true
    · rw [if_pos h0] at h; cases h
    · rw [if_neg h0] at h
      intro x hx
      rcases List.mem_cons.1 hx with rfl | hx
      · simpa using h0
      · exact ih (by cases h1 : ixF p t with | none => rfl | some i => rw [h1] at h; cases h) x hx

/-- A file's name is this one; a file's name is greater. -/
def isN (n : List UInt8) (x : FL) : Bool := decide (x.1 = n)
def gtN (n : List UInt8) (x : FL) : Bool := Op.bytesLess n x.1

theorem get_ix {t : TR} {n : List UInt8} {k : Nat} (h : ixF (isN n) t = some k) : ∃ hk : k < t.length, t[k].1 = n ∧ get t n = some t[k].2 ∧ (∀ j (hj : j < k), (t[j]'(by omega)).1 ≠ n) := by
  obtain ⟨hk, h1, h2⟩ := ixF_some h
  have e : t[k].1 = n := by simpa [isN] using h1
  have hne : ∀ j (hj : j < k), (t[j]'(by omega)).1 ≠ n := fun j hj => by have := h2 j hj; simpa [isN] using this
  exact ⟨hk, e, get_at hk e hne, hne⟩
theorem get_ix_none {t : TR} {n : List UInt8} (h : ixF (isN n) t = none) : get t n = none := by
  rw [get_none]
  intro f hf
  have := ixF_none h f hf
  simpa [isN] using this
/-- A file ahead of the first one of a greater name. -/
theorem ins_ix : ∀ {t : TR} {n : List UInt8} {l : List (List UInt8)}, ins Op.bytesLess t n l = t.take ((ixF (gtN n) t).getD t.length) ++ (n, l) :: t.drop ((ixF (gtN n) t).getD t.length)
  | [], n, l => rfl
  | x :: t, n, l => by
    unfold ins ixF
    by_cases h : Op.bytesLess n x.1 = true
    · rw [if_pos h, if_pos (show gtN n x = true from h)]; rfl
    · rw [if_neg h, if_neg (show ¬ gtN n x = true from h), ins_ix]
      cases ixF (gtN n) t with
      | none => rfl
      | some k => rfl
theorem place_le {t : TR} {n : List UInt8} : (ixF (gtN n) t).getD t.length ≤ t.length := by
  cases h : ixF (gtN n) t with
  | none => exact Nat.le_refl _
  | some k => exact Nat.le_of_lt (ixF_some h).1

end Tr
end Go.Proofs.Ytbiiabfhngdeiaa

namespace Go.Proofs.Ytbiiabfhngdeiaa
open Go.RowKit
set_option linter.unusedVariables false
namespace Tr
open Tx

theorem ge_eq (s n : List UInt8) : Op.bytesLess s n = true → Op.bytesLess n s = false := fun h => lin.asym h

/-- What holds of the files gone through. -/
structure MayT (t : TR) (k : Nat) : Prop where
  m : ∀ x ∈ t.take k, name x.1 = true ∧ allMay x.2 = true
  u : upB Op.bytesLess ((t.take k).map (·.1)) = true
theorem MayT.zero (t : TR) : MayT t 0 := ⟨fun x hx => by simp at hx, rfl⟩
theorem MayT.done {t : TR} (h : MayT t t.length) (hl : t.length ≤ 30) : mayT t = true := by
  obtain ⟨h1, h2⟩ := h
  rw [List.take_length] at h1 h2
  unfold mayT
  rw [h2, Bool.and_true, Bool.and_eq_true, decide_eq_true_eq, List.all_eq_true]
  exact ⟨hl, fun x hx => by rw [Bool.and_eq_true]; exact h1 x hx⟩
theorem mayT_bad {t : TR} {x : FL} (hm : x ∈ t) (h : name x.1 = false ∨ allMay x.2 = false) : mayT t = false := by
  have : (t.all fun f => name f.1 && allMay f.2) = false := by
    rw [List.all_eq_false]
    exact ⟨x, hm, by rcases h with h | h <;> rw [h] <;> simp⟩
  unfold mayT
  rw [this]; simp
theorem mayT_fall {t : TR} {j : Nat} (hj : j + 1 < t.length) (h : Op.bytesLess t[j].1 t[j + 1].1 = false) : mayT t = false := by
  cases hm : mayT t with
  | false => rfl
  | true =>
    have hu := mayT_up hm
    have := List.pairwise_iff_getElem.1 hu j (j + 1) (by omega) hj (by omega)
    rw [h] at this; cases this
theorem MayT.first {t : TR} (hk : 0 < t.length) (h1 : name t[0].1 = true) (h2 : allMay t[0].2 = true) : MayT t 1 := by
  cases t with
  | nil => simp at hk
  | cons x t =>
    refine ⟨fun y hy => ?_, rfl⟩
    simp at hy
    subst hy
    exact ⟨h1, h2⟩
theorem MayT.next {t : TR} {j : Nat} (h : MayT t (j + 1)) (hj : j + 1 < t.length) (h1 : name t[j + 1].1 = true) (h2 : allMay t[j + 1].2 = true) (h3 : Op.bytesLess t[j].1 t[j + 1].1 = true) : MayT t (j + 1 + 1) := by
  refine ⟨fun y hy => ?_, ?_⟩
  · rw [take_snoc' hj] at hy
    rcases List.mem_append.1 hy with hy | hy
    · exact h.m y hy
    · simp at hy; subst hy; exact ⟨h1, h2⟩
  · have := h.u
    rw [List.map_take] at this ⊢
    rw [upB_take (by simpa using hj), this, Bool.true_and]
    simpa using h3

theorem NameV (x : List UInt8) (w : World) (n : Nat) (b : Bool) (hx : x.length ≤ maxLen) (hb : name x = b) : Calls Try.prog 30 #[strV x] (w.drewN n) fun e w' => e = .returned (.bool b) ∧ w' = w.drewN n := by
  have := Name ⟨x.toArray⟩ (w.drewN n) (by rw [size_strV]; exact hx)
  refine this.mono fun e w' ⟨h1, h2⟩ => ⟨?_, h2.symm⟩
  rw [h1, ← hb]
theorem AllV (A : Option Addr) (c n B : Nat) (ls : List (List UInt8)) (w : World) (m : Nat) (b : Bool) (hn : ls.length = n) (hR : RdS w B A ls) (hb : allMay ls = b) : Calls Try.prog 31 #[.slice A n c] (w.drewN m) fun e w' => e = .returned (.bool b) ∧ w' = w.drewN m := by
  refine (All A c n B ls (w.drewN m) hn (Rd.drewN hR m)).mono fun e w' ⟨h1, h2⟩ => ⟨?_, h2.symm⟩
  rw [h1, hb]

set_option maxRecDepth 100000 in
set_option maxHeartbeats 4000000 in
theorem May (A : Option Addr) (c n B : Nat) (t : TR) (w : World) (hn : t.length = n) (hfit : ∀ x ∈ t, x.1.length ≤ maxLen ∧ x.2.length ≤ maxLen) (hB : B ≤ w.heap.size) (hR : RdT w B A t) :
    Calls Try.prog 17 #[.slice A n c] w (BoolEnd w (mayT t)) := by
  have HN := Lib.hid hn; have R := Lib.hid hR; have HFIT := Lib.hid hfit
  clear hn hR hfit
  by_cases h30 : 30 < n
  · have HF : Hid (mayT t = false) := Lib.hid (by unfold mayT; rw [HN.out]; simp; omega)
    go_enter Try.func17, Try.ntmps17
    go_wp2
    go_ret
    exact ⟨ret_bool HF.out.symm, Below.refl _ _⟩
  · go_enter Try.func17, Try.ntmps17
    go_wp2
    go_loopw [10] (fun i wr => ∃ k : Nat, k ≤ n ∧ i = .int .i64 k ∧ MayT t k ∧ Below w.heap.size w wr) (fun i _ => n - (intOf i).toNat)
    case atStart => exact ⟨0, Nat.zero_le _, rfl, MayT.zero t, Below.refl _ _⟩
    case round =>
      obtain ⟨k, hk, rfl, hall, hbw⟩ := hrel
      have HA := Lib.hid hall; have HBW := Lib.hid hbw; clear hall hbw
      by_cases hlt : k < n
      · have hkt : k < t.length := by rw [HN.out]; exact hlt
        have RW := Lib.hid (RdT.below R.out (HBW.out.mono hB))
        have HBB : Hid (B ≤ wr.heap.size) := Lib.hid (Nat.le_trans hB HBW.out.size)
        obtain ⟨a, rfl, hab, hat⟩ := RW.out.at_ hkt
        have hfx := HFIT.out _ (List.getElem_mem hkt)
        obtain ⟨x, hx⟩ : ∃ x, t[k] = x := ⟨_, rfl⟩
        rw [hx] at hat hfx
        have HX := Lib.hid hx
        have HMEM : Hid (x ∈ t) := Lib.hid (by rw [← hx]; exact List.getElem_mem hkt)
        obtain ⟨c0, A1, c1, k1, _, r1⟩ := hat
        obtain ⟨m1, hm1⟩ : ∃ m, x.2.length = m := ⟨_, rfl⟩
        rw [hm1] at k1
        have hbl := Blk.new wr 66 #[strV x.1, .slice A1 m1 c1]
        have hba : Below wr.heap.size wr (wr.alloc (.cells #[strV x.1, .slice A1 m1 c1] 66)) := (Below.refl _ _).alloc (Nat.le_refl _) _
        obtain ⟨W, hW⟩ : ∃ W, wr.alloc (.cells #[strV x.1, .slice A1 m1 c1] 66) = W := ⟨_, rfl⟩
        rw [hW] at hbl hba
        have hnm := fun b d hb => NameV x.1 W d b hfx.1 hb
        have hal := fun b d hb => AllV A1 c1 m1 B x.2 W d b hm1 (Rd.below r1 (hba.mono HBB.out)) hb
        have HBL := Lib.hid hbl; have HBA := Lib.hid hba; have HNM := Lib.hid hnm; have HAL := Lib.hid hal
        have HBD : Hid (∀ d, Below w.heap.size w (W.drewN d)) := Lib.hid (fun d => below_drewN (HBW.out.trans (hba.mono HBW.out.size)) d)
        have HW := Lib.hid hW
        clear hbl hba hnm hal hm1 r1 hfx hW
        go_wp2_with fail
        rw [HW.out]
        clear HW
        obtain ⟨g, hg⟩ : ∃ g, wr.heap.size = g := ⟨_, rfl⟩
        rw [hg] at HBL ⊢
        clear hg
        have x0 : W.cell? ⟨g, 0, none⟩ = some (strV x.1) := HBL.out.cell 0 rfl
        have x1 : W.cell? ⟨g, 1, none⟩ = some (.slice A1 m1 c1) := HBL.out.cell 1 rfl
        cases h1 : name x.1 with
        | false =>
          have HM1 := Lib.hid (fun d => HNM.out false d h1)
          have HF := Lib.hid (mayT_bad HMEM.out (.inl h1))
          clear h1 hx
          go_quiet (with_reducible exact Calls.quiet_of_same (HM1.out _))
          go_wp2
          go_ret
          exact ⟨ret_bool HF.out.symm, HBD.out _⟩
        | true =>
          have HM1 := Lib.hid (fun d => HNM.out true d h1)
          cases h2 : allMay x.2 with
          | false =>
            have HM2 := Lib.hid (fun d => HAL.out false d h2)
            have HF := Lib.hid (mayT_bad HMEM.out (.inr h2))
            clear h1 h2 hx
            go_quiet (first | (with_reducible exact Calls.quiet_of_same (HM1.out _)) | (with_reducible exact Calls.quiet_of_same (HM2.out _)))
            go_wp2
            go_ret
            exact ⟨ret_bool HF.out.symm, HBD.out _⟩
          | true =>
            have HM2 := Lib.hid (fun d => HAL.out true d h2)
            rcases Nat.eq_zero_or_pos k with hk0 | hk0
            · subst hk0
              have HNX := Lib.hid (MayT.first hkt (by rw [hx]; exact h1) (by rw [hx]; exact h2))
              clear h1 h2 hx
              go_quiet (first | (with_reducible exact Calls.quiet_of_same (HM1.out _)) | (with_reducible exact Calls.quiet_of_same (HM2.out _)))
              go_wp2
              go_roundw
              case rel => exact ⟨1, by omega, rfl, HNX.out, HBD.out _⟩
              case measure => simp [intOf]; omega
            · obtain ⟨j, hj⟩ : ∃ j, k = j + 1 := ⟨k - 1, by omega⟩
              subst hj
              obtain ⟨a', ea, _, hat'⟩ := RW.out.at_ (show j < t.length by omega)
              injection ea with ea
              subst ea
              obtain ⟨y, hy⟩ : ∃ y, t[j] = y := ⟨_, rfl⟩
              rw [hy] at hat'
              have c0y := hat'.c0
              have y0 : W.cell? (a.add (j * 2)) = some (strV y.1) := (HBA.out.cell (p := a.add (j * 2)) (World.block_lt_of_cell? wr _ c0y)).trans c0y
              clear hat' c0y
              have w1 : IntKind.i64.wrap (((j + 1 : Nat) : Int) - 1) = (j : Int) := by rw [IntWalk.i64_in _ (by omega)]; omega
              have w1' : IntKind.i64.wrap ((j : Int) + 1 - 1) = (j : Int) := by rw [IntWalk.i64_in _ (by omega)]; omega
              have w2 : (0 : Int) < (j : Int) + 1 := by omega
              have w3 : (j : Int) < (n : Int) := by omega
              have w4 : (0 : Int) ≤ (j : Int) := by omega
              cases h3 : Op.bytesLess y.1 x.1 with
              | true =>
                have HNX := Lib.hid (MayT.next HA.out hkt (by rw [hx]; exact h1) (by rw [hx]; exact h2) (by rw [hx, hy]; exact h3))
                clear h1 h2 hx hy
                go_quiet (first | (with_reducible exact Calls.quiet_of_same (HM1.out _)) | (with_reducible exact Calls.quiet_of_same (HM2.out _)))
                clear w1 w1'
                go_wp2
                go_roundw
                case rel => exact ⟨j + 1 + 1, by omega, by go_num, HNX.out, HBD.out _⟩
                case measure => simp [intOf]; omega
              | false =>
                have HF := Lib.hid (mayT_fall hkt (by rw [hx, hy]; exact h3))
                clear h1 h2 hx hy
                go_quiet (first | (with_reducible exact Calls.quiet_of_same (HM1.out _)) | (with_reducible exact Calls.quiet_of_same (HM2.out _)))
                clear w1 w1'
                go_wp2
                go_ret
                exact ⟨ret_bool HF.out.symm, HBD.out _⟩
      · obtain rfl : k = n := by omega
        have HF : Hid (mayT t = true) := Lib.hid (by have := HA.out; rw [← HN.out] at this; exact this.done (by rw [HN.out]; omega))
        go_wp2
        go_ret
        exact ⟨ret_bool HF.out.symm, HBW.out⟩

end Tr
end Go.Proofs.Ytbiiabfhngdeiaa

namespace Go.Proofs.Ytbiiabfhngdeiaa
open Go.ChangeShapes Go.WideShapes Go.ChangeAt Go.RowKit Go.Deep
set_option linter.unusedVariables false
namespace Tr
open Tx

/-- What is told of a file that is handed in. -/
structure FitF (x : FL) : Prop where
  n : x.1.length ≤ maxLen
  l : x.2.length ≤ maxLen
  s : ∀ l ∈ x.2, l.length ≤ maxLen

/-- A tree that is handed in: it reads as t. -/
structure TreeArg (w : World) (A : Option Addr) (n c : Nat) (t : TR) : Prop where
  len : t.length = n
  cap : n ≤ c
  le : n ≤ maxLen
  rd : RdT w w.heap.size A t
  fit : ∀ x ∈ t, FitF x

section
variable {H : Type} {enc : TypeId × Value → H} {W : World} {base : Nat} {spare : Nat → Bool} {held : Bool}

theorem file_in {fuel : Nat} {a : Addr} {i : Nat} {cs : List Value} {x : DataW H × List MemPlace} (hc : W.cells? base (a.add (i * 2)) 2 = some cs) (h : DataW.trod enc Try.prog W base spare held fuel 66 cs = some x) : ∃ f : FL, FlAt W W.heap.size a i f ∧ FitF f := by
  obtain ⟨xs, n, _, rfl, hl0, hlen, hf⟩ := DataW.trod_struct Try.underlying66 h
  obtain ⟨_, hl, hcell⟩ := World.cells?_some hc
  have s9 : Try.prog.cellsOf 9 = 1 := by kernel_rfl
  have s24 : Try.prog.cellsOf 47 = 1 := by kernel_rfl
  match xs, hlen with
  | [y0, y1], _ =>
    have h0 : DataW.trod enc Try.prog W base spare held n 9 ((cs.drop 0).take (Try.prog.cellsOf 9)) = some y0 := by simpa using hf 0 _ rfl
    have h1 : DataW.trod enc Try.prog W base spare held n 47 ((cs.drop 1).take (Try.prog.cellsOf 47)) = some y1 := by simpa using hf 1 _ rfl
    match cs, hl with
    | [v0, v1], _ =>
      simp only [s9, s24, List.drop_zero, List.take_succ_cons, List.take_zero, List.drop_succ_cons] at h0 h1
      obtain ⟨s, e0, _, w0⟩ := DataW.trod_string Try.underlying9 h0
      obtain ⟨A2, n2, c2, ls, rfl, hs⟩ := strs_any h1
      injection e0 with e0
      subst e0
      have k0 := hcell 0 (by decide)
      have k1 := hcell 1 (by decide)
      rw [add_zero'] at k0
      refine ⟨(s.data.toList, ls), ⟨k0, A2, c2, ?_, ?_, hs.rd⟩, ?_, ?_, hs.short⟩
      · simp only [hs.len]; exact k1
      · simp only [hs.len]; exact hs.cap
      · show s.data.toList.length ≤ _; rw [Array.length_toList]; exact w0
      · simp only [hs.len]; exact hs.le

theorem tree_in {fuel : Nat} {cs : List Value} {x : DataW H × List MemPlace} {A : Option Addr} {l c : Nat} (h : DataW.trod enc Try.prog W base spare held fuel 39 cs = some x) (hcs : cs = [.slice A l c]) :
    ∃ t : TR, TreeArg W A l c t := by
  have s37 : Try.prog.cellsOf 66 = 2 := by kernel_rfl
  rcases open_slice Try.underlying39 h with ⟨hcs', _⟩ | ⟨a, len, cap, m, n, D, Pl, hcs', _, hl, hm, hmm, _, hi⟩
  · rw [hcs] at hcs'
    simp at hcs'
    obtain ⟨rfl, rfl, rfl⟩ := hcs'
    exact ⟨[], rfl, Nat.le_refl _, Nat.zero_le _, .inl rfl, fun x hx => by cases hx⟩
  · rw [hcs] at hcs'
    simp at hcs'
    obtain ⟨rfl, rfl, rfl⟩ := hcs'
    have hlm : l ≤ m := by rw [hmm]; split <;> omega
    rw [s37] at hi
    obtain ⟨t, h1, h2⟩ := list_of (P := fun i x => FlAt W W.heap.size a i x ∧ FitF x) l (fun i hil => by
      obtain ⟨cs', hc, ht⟩ := hi i (by omega)
      exact file_in hc ht)
    refine ⟨t, h1, hl, by omega, ?_, fun x hx => ?_⟩
    · cases t with
      | nil => exact .inl rfl
      | cons e es =>
        have hb := lt_of_cell (h2 0 e rfl).1.c0
        rw [add_block] at hb
        exact .inr ⟨a, rfl, hb, fun k x hx => (h2 k x hx).1⟩
    · obtain ⟨j, hj, rfl⟩ := List.mem_iff_getElem.1 hx
      exact (h2 j _ (List.getElem?_eq_getElem hj)).2
end

def lightT (t : TR) : Bool := decide (t.length ≤ 40) && t.all fun x => light x.2 300 && decide (x.1.length ≤ 100)
theorem lightT_no {t : TR} {x : FL} (hm : x ∈ t) (h : light x.2 300 = false ∨ 100 < x.1.length) : lightT t = false := by
  have : (t.all fun x => light x.2 300 && decide (x.1.length ≤ 100)) = false := by
    rw [List.all_eq_false]
    refine ⟨x, hm, ?_⟩
    rcases h with h | h
    · rw [h]; simp
    · simp; intro _; exact h
  simp [lightT, this]
theorem lightT_small {t : TR} (h : lightT t = true) : t.length ≤ 40 ∧ Small t := by
  simp only [lightT, Bool.and_eq_true, decide_eq_true_eq, List.all_eq_true] at h
  refine ⟨h.1, ⟨by omega, fun x hx => ?_⟩⟩
  obtain ⟨h1, h2⟩ := h.2 x hx
  simp only [light, Bool.and_eq_true, decide_eq_true_eq, List.all_eq_true] at h1
  exact ⟨by omega, by omega, fun l hl => by have := h1.2 l hl; omega⟩

set_option maxHeartbeats 1000000 in
theorem LightT (A : Option Addr) (c n B : Nat) (t : TR) (w : World) (hn : t.length = n) (hnm : n ≤ maxLen) (hfit : ∀ x ∈ t, FitF x) (hR : RdT w B A t) :
    Calls Try.prog 16 #[.slice A n c] w fun e w' => e = .returned (.bool (lightT t)) ∧ w = w' := by
  unfold maxLen at hnm
  have HN := Lib.hid hn; have HFIT := Lib.hid hfit; clear hn hfit
  by_cases h1 : 40 < n
  · have HF : Hid (lightT t = false) := Lib.hid (by unfold lightT; rw [HN.out]; simp; omega)
    go_enter Try.func16, Try.ntmps16
    go_wp2
    go_ret
    exact ⟨ret_bool HF.out.symm, rfl⟩
  · go_enter Try.func16, Try.ntmps16
    go_wp2
    go_loop [3] (fun i => ∃ k : Nat, k ≤ n ∧ i = .int .i64 k ∧ ∀ x ∈ t.take k, light x.2 300 = true ∧ x.1.length ≤ 100) (fun i => n - (intOf i).toNat)
    case atStart => exact ⟨0, Nat.zero_le _, rfl, by simp⟩
    case round =>
      obtain ⟨k, hk, rfl, hall⟩ := hrel
      have HA := Lib.hid hall; clear hall
      by_cases hlt : k < n
      · have hkl : k < t.length := by rw [HN.out]; exact hlt
        obtain ⟨a, rfl, hab, hat⟩ := hR.at_ hkl
        have hmem := List.getElem_mem hkl
        have hfx := HFIT.out _ hmem
        have HT := Lib.hid (take_snoc' hkl)
        generalize t[k] = x at *
        have HM := Lib.hid hmem; clear hmem
        obtain ⟨c0, A2, c2, h2, h3, h4⟩ := hat
        obtain ⟨s, l⟩ := x
        dsimp only at c0 h2 h3 h4
        have hl := hfx.l
        dsimp only at hl
        obtain ⟨ll, hll⟩ : ∃ ll, l.length = ll := ⟨_, rfl⟩
        rw [hll] at h2 h3 hl
        have HLL := Lib.hid hll
        obtain ⟨z, hz, hzl⟩ : ∃ z : ByteArray, strV s = .string z ∧ z.size = s.length := ⟨_, rfl, size_strV s⟩
        rw [hz] at c0
        have HZL := Lib.hid hzl
        clear hll hz hfx hzl
        go_wp2_with fail
        refine (Light A2 c2 ll B 300 l w HLL.out hl h4 (by decide)).mono ?_
        rintro e w' ⟨rfl, rfl⟩
        cases hb : light l 300 with
        | false =>
          have HF := Lib.hid (lightT_no HM.out (.inl hb))
          clear hb
          go_wp2
          go_ret
          exact ⟨ret_bool HF.out.symm, rfl⟩
        | true =>
          have HB := Lib.hid hb; clear hb
          by_cases h100 : 100 < z.size
          · have HF := Lib.hid (lightT_no HM.out (.inr (by show 100 < s.length; rw [← HZL.out]; exact h100)))
            go_wp2
            go_ret
            exact ⟨ret_bool HF.out.symm, rfl⟩
          · go_wp2
            go_round
            case rel => exact ⟨k + 1, by omega, by go_num, by rw [HT.out]; intro y hy; rcases List.mem_append.1 hy with h | h; exact HA.out y h; simp at h; rw [h]; exact ⟨HB.out, by have := HZL.out; show s.length ≤ 100; omega⟩⟩
            case measure => simp [intOf]; omega
      · have HF : Hid (lightT t = true) := Lib.hid (by
          have := HA.out; rw [List.take_of_length_le (by rw [HN.out]; omega)] at this
          simp only [lightT, Bool.and_eq_true, decide_eq_true_eq, List.all_eq_true]
          exact ⟨by rw [HN.out]; omega, this⟩)
        go_wp2
        go_ret
        exact ⟨ret_bool HF.out.symm, rfl⟩

end Tr
end Go.Proofs.Ytbiiabfhngdeiaa

namespace Go.Proofs.Ytbiiabfhngdeiaa
open Go.RowKit
set_option linter.unusedVariables false
namespace Tr
open Tx

end Tr
end Go.Proofs.Ytbiiabfhngdeiaa

namespace Go.Proofs.Ytbiiabfhngdeiaa
open Go.RowKit
set_option linter.unusedVariables false
namespace Tr
open Tx

theorem FCells.take {W : World} {row : Option Nat} {t : TR} {xs : List Value} (h : FCells W row t xs) (p : Nat) : FCells W row (t.take p) (xs.take (p * 2)) := fun k x hx => by
  rw [List.getElem?_take] at hx
  split at hx
  · rename_i hk
    obtain ⟨A, c, h1, h2, h3, h4⟩ := h k x hx
    exact ⟨A, c, by rw [List.getElem?_take, if_pos (by omega)]; exact h1, by rw [List.getElem?_take, if_pos (by omega)]; exact h2, h3, h4⟩
  · cases hx
theorem FCells.drop {W : World} {row : Option Nat} {t : TR} {xs : List Value} (h : FCells W row t xs) (p : Nat) : FCells W row (t.drop p) (xs.drop (p * 2)) := fun k x hx => by
  rw [List.getElem?_drop] at hx
  obtain ⟨A, c, h1, h2, h3, h4⟩ := h (p + k) x hx
  exact ⟨A, c, by rw [List.getElem?_drop, show p * 2 + k * 2 = (p + k) * 2 by omega]; exact h1, by rw [List.getElem?_drop, show p * 2 + (k * 2 + 1) = (p + k) * 2 + 1 by omega]; exact h2, h3, h4⟩
theorem FCells.append {W : World} {row : Option Nat} {t u : TR} {xs ys : List Value} (h : FCells W row t xs) (hl : xs.length = t.length * 2) (h' : FCells W row u ys) : FCells W row (t ++ u) (xs ++ ys) := fun k x hx => by
  rcases Nat.lt_or_ge k t.length with hk | hk
  · rw [List.getElem?_append_left hk] at hx
    obtain ⟨A, c, h1, h2, h3, h4⟩ := h k x hx
    exact ⟨A, c, by rw [List.getElem?_append_left (by omega)]; exact h1, by rw [List.getElem?_append_left (by omega)]; exact h2, h3, h4⟩
  · rw [List.getElem?_append_right hk] at hx
    obtain ⟨A, c, h1, h2, h3, h4⟩ := h' _ x hx
    refine ⟨A, c, ?_, ?_, h3, h4⟩
    · rw [List.getElem?_append_right (by omega), hl, show k * 2 - t.length * 2 = (k - t.length) * 2 by omega]; exact h1
    · rw [List.getElem?_append_right (by omega), hl, show k * 2 + 1 - t.length * 2 = (k - t.length) * 2 + 1 by omega]; exact h2
theorem FCells.one {W : World} {row : Option Nat} {x : FL} {A : Option Addr} {m c : Nat} (hm : x.2.length = m) (hc : m ≤ c) (hr : RdX W row A x.2) : FCells W row [x] [strV x.1, .slice A m c] := fun k y hy => by
  cases k with
  | zero =>
    cases hy
    subst hm
    exact ⟨A, c, rfl, rfl, hc, hr⟩
  | succ k => simp at hy
/-- One file more. -/
theorem FCells.ins {W : World} {row : Option Nat} {t : TR} {xs : List Value} {s : List UInt8} {l : List (List UInt8)} {A : Option Addr} {m c p : Nat} (h : FCells W row t xs) (hl : xs.length = t.length * 2) (hp : p ≤ t.length) (hm : l.length = m) (hc : m ≤ c) (hr : RdX W row A l) :
    FCells W row (t.take p ++ (s, l) :: t.drop p) (xs.take (p * 2) ++ ([strV s, .slice A m c] ++ xs.drop (p * 2))) :=
  (h.take p).append (by rw [List.length_take, List.length_take, hl]; omega) ((FCells.one (x := (s, l)) hm hc hr).append rfl (h.drop p))
/-- One file less. -/
theorem FCells.del {W : World} {row : Option Nat} {t : TR} {xs : List Value} {p : Nat} (h : FCells W row t xs) (hl : xs.length = t.length * 2) (hp : p ≤ t.length) : FCells W row (t.take p ++ t.drop (p + 1)) (xs.take (p * 2) ++ xs.drop ((p + 1) * 2)) :=
  (h.take p).append (by rw [List.length_take, List.length_take, hl]; omega) (h.drop (p + 1))

theorem FCells.one_cell {W : World} {row : Option Nat} {t : TR} {xs : List Value} (h : FCells W row t xs) (hl : xs.length = t.length * 2) : ∀ u ∈ xs, u.oneCell' = true := by
  intro u hu
  obtain ⟨j, hj, rfl⟩ := List.mem_iff_getElem.1 hu
  have hk : j / 2 < t.length := by omega
  obtain ⟨A, c, h1, h2, _⟩ := h (j / 2) t[j / 2] (List.getElem?_eq_getElem hk)
  rcases Nat.mod_two_eq_zero_or_one j with e | e
  · have : xs[j]? = some (strV t[j / 2].1) := by rw [← h1]; congr 1; omega
    rw [List.getElem?_eq_getElem hj] at this
    injection this with this
    rw [this]; simp [Value.oneCell']
  · have : xs[j]? = some (.slice A t[j / 2].2.length c) := by rw [← h2]; congr 1; omega
    rw [List.getElem?_eq_getElem hj] at this
    injection this with this
    rw [this]; simp [Value.oneCell']

theorem upd_set {t : TR} {n : List UInt8} {l : List (List UInt8)} {k : Nat} (h : ixF (isN n) t = some k) : upd t n l = t.set k (n, l) := by
  obtain ⟨hk, h1, _, h3⟩ := get_ix h
  rw [upd_at hk h1 h3, List.set_eq_take_append_cons_drop, if_pos hk]

end Tr
end Go.Proofs.Ytbiiabfhngdeiaa

namespace Go.Proofs.Ytbiiabfhngdeiaa
open Go.RowKit
set_option linter.unusedVariables false
namespace Tr
open Tx

theorem add_succ (a : Addr) (i : Nat) : (⟨(a.add i).block, (a.add i).off + 1, none⟩ : Addr) = a.add (i + 1) := by
  unfold Addr.add
  by_cases h : i = 0
  · subst h; simp
  · simp [h, Nat.add_assoc]

/-- The cells of a tree that is read. -/
theorem flat_cells {w : World} {B : Nat} {row : Option Nat} {A : Option Addr} {t : TR} (h : RdT w B A t) (hB : B ≤ w.heap.size) (hr : ∀ g, row = some g → B ≤ g) :
    ∃ xs : List Value, xs.length = t.length * 2 ∧ FCells w row t xs ∧ (xs = [] ∨ ∃ a, A = some a ∧ ∀ j u, xs[j]? = some u → w.cell? (a.add j) = some u) := by
  rcases h with rfl | ⟨a, rfl, hlt, hc⟩
  · exact ⟨[], rfl, FCells.nil _ _ _, .inl rfl⟩
  · have key : ∀ (u : TR) (p : Nat), (∀ (k : Nat) x, u[k]? = some x → FlAt w B a (p + k) x) → ∃ xs : List Value, xs.length = u.length * 2 ∧ FCells w row u xs ∧ ∀ j v, xs[j]? = some v → w.cell? (a.add (p * 2 + j)) = some v := by
      intro u
      induction u with
      | nil => intro p _; exact ⟨[], rfl, FCells.nil _ _ _, fun j v hv => by simp at hv⟩
      | cons x u ih =>
        intro p hu
        obtain ⟨xs, h1, h2, h3⟩ := ih (p + 1) fun k y hy => by
          have := hu (k + 1) y (by simpa using hy)
          rw [show p + 1 + k = p + (k + 1) by omega]; exact this
        obtain ⟨c0, A1, c1, k1, kc, kr⟩ := hu 0 x rfl
        rw [Nat.add_zero] at c0 k1
        rw [add_succ] at k1
        refine ⟨strV x.1 :: .slice A1 x.2.length c1 :: xs, by simp [h1]; omega, ?_, fun j v hv => ?_⟩
        · exact FCells.append (t := [x]) (xs := [strV x.1, .slice A1 x.2.length c1]) (FCells.one rfl kc (RdX.of kr hB hr)) rfl h2
        · rcases j with _ | _ | j
          · cases hv; exact c0
          · cases hv; exact k1
          · have := h3 j v (by simpa using hv)
            rw [show p * 2 + (j + 2) = (p + 1) * 2 + j by omega]; exact this
    obtain ⟨xs, h1, h2, h3⟩ := key t 0 fun k x hx => by rw [Nat.zero_add]; exact hc k x hx
    exact ⟨xs, h1, h2, .inr ⟨a, rfl, fun j u hu => by have := h3 j u hu; rw [Nat.zero_mul, Nat.zero_add] at this; exact this⟩⟩

section
variable {P : Program} {w : World}
theorem run_append_none {t ty e : TypeId} {i : TypeInfo} {A A' : Option Addr} {n c c' : Nat} (ht : P.underlying t = some (.slice e)) (hi : P.info? e = some i) (hnc : n ≤ c) :
    (Builtin.append_ #[t, t] ty #[.slice A n c, .slice A' 0 c']).run P w = .ok (.slice A n c) w := by
  have hl : ∀ a : Addr, (loadCells a 0).run P w = .ok #[] w := fun a => by
    have := run_loadCells_list (P := P) w a [] (by simp)
    exact this
  cases A <;> cases A' <;> simp [Builtin.append_, run_underlying ht, sizeOf, typeInfo, hi, Builtin.lenOf, Builtin.firstCells, hnc, storeCells, hl]
end

/-- Files appended onto a row of one's own. -/
theorem run_ownT {W : World} {ty : TypeId} {base m c : Nat} {v : Value} {A : Option Addr} {t u : TR} {ys : List Value} (h : OwnT W base v t) (hu : FCells W v.ownBlock u ys) (hyl : ys.length = u.length * 2) (hsrc : ys = [] ∨ ∃ a, A = some a ∧ ∀ j x, ys[j]? = some x → W.cell? (a.add j) = some x)
    (hm : u.length = m) (hn : t.length + m ≤ 100000) (hbase : base ≤ W.heap.size) :
    ∃ v' W', (Builtin.append_ #[39, 39] ty #[v, .slice A m c]).run Try.prog W = .ok v' W' ∧ OwnT W' base v' (t ++ u) ∧ W.grownBy W' v.ownBlock := by
  obtain ⟨i0, hi0, hz0, hz1, hz2⟩ := info_parts info_file
  obtain ⟨xs, hrow, hF⟩ := h
  have h1 := hu.one_cell hyl
  by_cases h0 : m = 0
  · have hu0 : u = [] := List.eq_nil_of_length_eq_zero (by omega)
    subst hu0
    obtain ⟨A0, c0, rfl, hc0, _⟩ := rdT_own ⟨xs, hrow, hF⟩
    subst h0
    exact ⟨_, W, run_append_none Try.underlying39 hi0 hc0, by rw [List.append_nil]; exact ⟨xs, hrow, hF⟩, ⟨rfl, rfl, rfl, Nat.le_refl _, fun _ _ _ => rfl⟩⟩
  · obtain ⟨a, rfl, hcell⟩ : ∃ a, A = some a ∧ ∀ j x, ys[j]? = some x → W.cell? (a.add j) = some x := by
      rcases hsrc with hy | h
      · rw [hy] at hyl; simp at hyl; omega
      · exact h
    obtain ⟨g, cap, W', hr, r1, r2, r3, r4⟩ := run_append_lies (P := Try.prog) (w := W) 39 ty base 66 i0 _ 2 40 Try.underlying39 hi0 hz0 hz1 hz2 rfl (by decide) v t.length xs hrow a m c ys (by rw [hyl, hm]) hcell h1 (by omega) (by unfold maxLen; omega) (by omega) hbase W.heap.size rfl
    refine ⟨_, W', hr, ⟨xs ++ ys, by rw [List.length_append, hm]; exact r1, ?_⟩, r2⟩
    have hJ := (hF.append hrow.1 hu)
    rcases r3 with r3 | r3
    · rw [r3] at hJ r2
      exact hJ.gr r2
    · have : FCells W (some g) (t ++ u) (xs ++ ys) := fun k x hx => by
        obtain ⟨A, c, h1, h2, h3, h4, h5⟩ := hJ k x hx
        refine ⟨A, c, h1, h2, h3, RdX.of h4 (Nat.le_refl _) fun g' e => by injection e with e; omega⟩
      intro k x hx
      obtain ⟨A, c, h1, h2, h3, h4, h5⟩ := hJ k x hx
      obtain ⟨A', c', h1', h2', h3', h4', h5'⟩ := this k x hx
      obtain ⟨h6, _⟩ := RdX.gr (row := v.ownBlock) ⟨h4, h5⟩ r2
      have e1 : Value.slice A x.2.length c = Value.slice A' x.2.length c' := by rw [h2] at h2'; injection h2'
      injection e1 with e1 _ e2
      subst e1; subst e2
      exact ⟨A, c, h1, h2, h3, h6, h5'⟩

theorem wpList_ownT {W : World} {ops : Array Oper} {rest : List Oper} {o : Oper} {a : Act} {Q : Exit → Act → World → Prop} (hgd : o.guard = none) (s x : Operand)
    (ho : o.op = .call { callee := .builtin .append, args := #[s, x], argTypes := #[39, 39] })
    (base m c : Nat) (v : Value) (A : Option Addr) (t u : TR) (ys : List Value) (hs : a.eval s = v) (hx : a.eval x = .slice A m c) (h : OwnT W base v t) (hu : FCells W v.ownBlock u ys) (hyl : ys.length = u.length * 2) (hsrc : ys = [] ∨ ∃ a, A = some a ∧ ∀ j x, ys[j]? = some x → W.cell? (a.add j) = some x)
    (hm : u.length = m) (hn : t.length + m ≤ 100000) (hbase : base ≤ W.heap.size)
    (hK : ∀ v' W', OwnT W' base v' (t ++ u) → W.grownBy W' v.ownBlock → wpList Try.prog ops Q rest (a.put o.dst v') W') : wpList Try.prog ops Q (o :: rest) a W := by
  refine wpList_plain hgd fun K hK' => ?_
  obtain ⟨v', W', hrun, h2, h3⟩ := run_ownT (ty := o.type) (c := c) h hu hyl hsrc hm hn hbase
  unfold Oper.wp execOp
  simp only [ho, resolve, invoke, builtin, Sem.run_bind, Sem.run_pure, Result.andThen_ok, List.map_toArray, List.map_cons, List.map_nil, hs, hx, hrun]
  exact hK' _ _ (hK v' W' h2 h3)

theorem ownT_nil (W : World) (base : Nat) : OwnT W base (.slice none 0 0) [] := ⟨[], World.ownsRow_nil _ _ _ _, FCells.nil _ _ _⟩
theorem ownT_ge {W : World} {base : Nat} {v : Value} {t : TR} (h : OwnT W base v t) : ∀ k, v.ownBlock = some k → base ≤ k := fun k hk => (h.elim fun xs h => own_ge h.1 k hk)
theorem OwnT.below {W W' : World} {base : Nat} {v : Value} {t : TR} (h : OwnT W base v t) (hb : Below W.heap.size W W') : OwnT W' base v t := by
  obtain ⟨xs, h1, h2⟩ := h
  exact ⟨xs, own_gr h1 (below_gr_row hb), h2.gr (gr_none (below_gr_row hb))⟩

end Tr
end Go.Proofs.Ytbiiabfhngdeiaa

namespace Go.Proofs.Ytbiiabfhngdeiaa
open Go.RowKit
set_option linter.unusedVariables false
namespace Tr
open Tx

/-- What is left of the files gone through. -/
def delTo (o : Option Nat) (t : TR) (k : Nat) : TR :=
  match o with
  | none => t.take k
  | some i => if k ≤ i then t.take k else t.take i ++ (t.take k).drop (i + 1)
theorem delTo_here {t : TR} {i : Nat} : delTo (some i) t (i + 1) = delTo (some i) t i := by
  unfold delTo
  simp only
  rw [if_neg (by omega), if_pos (Nat.le_refl _), List.drop_of_length_le (by rw [List.length_take]; omega), List.append_nil]
theorem delTo_next {o : Option Nat} {t : TR} {k : Nat} (hk : k < t.length) (h : o ≠ some k) : delTo o t (k + 1) = delTo o t k ++ [t[k]] := by
  cases o with
  | none => exact take_snoc' hk
  | some i =>
    have hne : i ≠ k := fun e => h (by rw [e])
    unfold delTo
    simp only
    by_cases hki : k ≤ i
    · rw [if_pos (by omega), if_pos hki]; exact take_snoc' hk
    · rw [if_neg (by omega), if_neg hki, take_snoc' hk, List.drop_append_of_le_length (by rw [List.length_take]; omega), List.append_assoc]
theorem delTo_end {t : TR} {s : List UInt8} : delTo (ixF (isN s) t) t t.length = del t s := by
  cases hi : ixF (isN s) t with
  | none => rw [del_no (get_ix_none hi)]; exact List.take_length
  | some i =>
    obtain ⟨hk, h1, _, h3⟩ := get_ix hi
    rw [del_at hk h1 h3]
    unfold delTo
    simp only
    rw [if_neg (by omega), List.take_length]
theorem delTo_len {o : Option Nat} {t : TR} {k : Nat} : (delTo o t k).length ≤ t.length := by
  cases o with
  | none => unfold delTo; rw [List.length_take]; omega
  | some i => unfold delTo; simp only; split <;> simp only [List.length_append, List.length_take, List.length_drop] <;> omega

/-- One file that is read, appended. -/
theorem one_src {wr : World} {g B : Nat} {v : Value} {D : TR} {x : FL} {A : Option Addr} {m c : Nat} {t : TypeId} (hown : OwnT wr g v D) (hm : x.2.length = m) (hc : m ≤ c) (hr : RdS wr B A x.2) (hB : B ≤ g) (hg : g ≤ wr.heap.size) :
    OwnT (wr.alloc (.cells #[strV x.1, .slice A m c] t)) g v D ∧ FCells (wr.alloc (.cells #[strV x.1, .slice A m c] t)) v.ownBlock [x] [strV x.1, .slice A m c] ∧
      (∀ j u, ([strV x.1, .slice A m c] : List Value)[j]? = some u → (wr.alloc (.cells #[strV x.1, .slice A m c] t)).cell? ((⟨wr.heap.size, 0, none⟩ : Addr).add j) = some u) ∧ g ≤ (wr.alloc (.cells #[strV x.1, .slice A m c] t)).heap.size := by
  have hb : Below wr.heap.size wr (wr.alloc (.cells #[strV x.1, .slice A m c] t)) := (Below.refl _ _).alloc (Nat.le_refl _) _
  have hBW : B ≤ wr.heap.size := Nat.le_trans hB hg
  refine ⟨hown.below hb, FCells.one hm hc (RdX.of (Rd.below hr (hb.mono hBW)) (Nat.le_trans hBW hb.size) fun k hk => Nat.le_trans hB (ownT_ge hown k hk)), ?_, Nat.le_trans hg hb.size⟩
  exact World.news_of_block (cs := #[strV x.1, .slice A m c]) (t := t) (fr := (0, 0)) (Blk.new wr t _)

end Tr
end Go.Proofs.Ytbiiabfhngdeiaa

namespace Go.Proofs.Ytbiiabfhngdeiaa
open Go.RowKit
set_option linter.unusedVariables false
namespace Tr
open Tx

theorem line (s : ByteArray) (w : World) : Calls Try.prog 103 #[.string s] w fun e w' => e = .returned (.string s) ∧ w = w' := by
  go_enter Try.func103, Try.ntmps103
  go_wp2
  go_ret
  exact ⟨rfl, rfl⟩

theorem fill_set {α : Type} {ls : List α} {n k : Nat} (z : α) (hn : ls.length = n) (hk : k < ls.length) : (ls.take k ++ List.replicate (n - k) z).set k ls[k] = ls.take (k + 1) ++ List.replicate (n - (k + 1)) z := by
  have h1 : (ls.take k).length = k := by rw [List.length_take]; omega
  rw [List.set_append_right _ _ (by omega), h1, Nat.sub_self, show n - k = (n - (k + 1)) + 1 by omega, List.replicate_succ, List.set_cons_zero, take_snoc' hk, List.append_assoc]
  rfl
theorem fill_len {α : Type} {ls : List α} {n k : Nat} (z : α) (hn : ls.length = n) (hk : k ≤ n) : (ls.take k ++ List.replicate (n - k) z).length = n := by
  rw [List.length_append, List.length_take, List.length_replicate]; omega

/-- How a copy of lines ends. -/
def CopyEnd (w : World) (n : Nat) (ls : List (List UInt8)) (e : Ending) (w' : World) : Prop :=
  e = .returned (.slice (some ⟨w.heap.size, 0, none⟩) n n) ∧ w'.ownsRow w.heap.size 9 1 (.slice (some ⟨w.heap.size, 0, none⟩) n n) n (ls.map strV) ∧ w.grownBy w' none

set_option maxHeartbeats 1000000 in
theorem againL (A : Option Addr) (c n B : Nat) (ls : List (List UInt8)) (w : World) (hn : ls.length = n) (hln : n ≤ 8796093022208) (hB : B ≤ w.heap.size) (hR : RdS w B A ls) :
    Calls Try.prog 102 #[.slice A n c, .func (.func 103) #[] #[]] w (CopyEnd w n ls) := by
  have HN := Lib.hid hn; clear hn
  have hmk : ∀ W : World, (Instr.makeSlice 47 (.int .i64 (n : Int)) (.int .i64 (n : Int))).run Try.prog W = .ok (.slice (some ⟨W.heap.size, 0, none⟩) n n) (W.alloc (.cells (madeCells #[strV []] n) 9)) := by
    obtain ⟨i0, hi, hz0, hz1, hz2⟩ := info_parts info_str
    intro W
    have := run_make (P := Try.prog) W 47 9 i0 (.string ⟨#[]⟩) Try.underlying47 hi hz0 .i64 .i64 (n : Int) (n : Int) (by omega) (by omega) (by rw [hz2]; omega) (by omega)
    simp only [Int.toNat_natCast, hz1, Nat.mul_one] at this
    exact this
  have hrow := World.ownsRow_lit (base := w.heap.size) (e := 9) (size := 1) w (madeCells #[strV []] n) n (Nat.le_refl _) (by unfold maxLen; omega) (by rw [size_madeCells, Nat.mul_one])
  rw [toList_madeCells_one] at hrow
  have hb0 : Below w.heap.size w (w.alloc (.cells (madeCells #[strV []] n) 9)) := (Below.refl _ _).alloc (Nat.le_refl _) _
  obtain ⟨Z, hZ⟩ : ∃ Z, madeCells #[strV []] n = Z := ⟨_, rfl⟩
  rw [hZ] at hrow hb0
  have hmk' : ∀ W : World, (Instr.makeSlice 47 (.int .i64 (n : Int)) (.int .i64 (n : Int))).run Try.prog W = .ok (.slice (some ⟨W.heap.size, 0, none⟩) n n) (W.alloc (.cells Z 9)) := fun W => by rw [hmk W, hZ]
  clear hmk hZ
  have HROW := Lib.hid hrow; have HB0 := Lib.hid hb0; clear hrow hb0
  go_enter Try.func102, Try.ntmps102
  go_wp2_with fail
  clear hmk'
  obtain ⟨g, hg⟩ : ∃ g, w.heap.size = g := ⟨_, rfl⟩
  obtain ⟨w0, hw0⟩ : ∃ w0, w.alloc (.cells Z 9) = w0 := ⟨_, rfl⟩
  rw [hw0] at HROW HB0 ⊢
  rw [hg] at HROW HB0 ⊢
  have HG := Lib.hid hg; clear hg hw0
  go_loopw [13] (fun i wr => ∃ k : Nat, k ≤ n ∧ i = .int .i64 (k : Int) ∧ wr.ownsRow g 9 1 (.slice (some ⟨g, 0, none⟩) n n) n ((ls.map strV).take k ++ List.replicate (n - k) (strV [])) ∧ Below g w wr) (fun i _ => n - (intOf i).toNat)
  case atStart => exact ⟨0, Nat.zero_le _, rfl, HROW.out, HB0.out⟩
  case round =>
    obtain ⟨k, hk, rfl, hrow, hb⟩ := hrel
    have HRW := Lib.hid hrow; have HBW := Lib.hid hb; clear hrow hb
    by_cases hlt : k < n
    · have hkl : k < ls.length := by rw [HN.out]; exact hlt
      obtain ⟨a, rfl, hcell⟩ := RdS.at' (Rd.below hR (HBW.out.mono (by rw [← HG.out]; exact hB))) hkl
      have hst := HRW.out.stored k (strV ls[k])
      have hfs := fill_set (ls := ls.map strV) (n := n) (k := k) (strV []) (by rw [List.length_map]; exact HN.out) (by rw [List.length_map]; exact hkl)
      rw [List.getElem_map] at hfs
      rw [hfs] at hst
      have hc := HRW.out.cellAt k (by omega)
      rw [List.getElem?_eq_getElem (by rw [fill_len _ (by rw [List.length_map]; exact HN.out) hk]; exact hlt)] at hc
      have hf := HRW.out.frozenAt k
      have hst2 := HBW.out.setCell (p := ⟨g, k, none⟩) (Nat.le_refl _) (strV ls[k])
      have HST := Lib.hid hst.1; have HST2 := Lib.hid hst2
      clear hst hst2 hfs
      go_wp2_with fail
      refine (line _ _).mono ?_
      rintro e w' ⟨rfl, rfl⟩
      go_wp2
      go_roundw
      case rel => exact ⟨k + 1, by omega, by go_num, HST.out, HST2.out⟩
      case measure => simp [intOf]; omega
    · obtain rfl : k = n := by omega
      have hrow := HRW.out
      rw [Nat.sub_self, List.replicate_zero, List.append_nil, List.take_of_length_le (by rw [List.length_map, HN.out]; exact Nat.le_refl _)] at hrow
      have HR2 := Lib.hid hrow; clear hrow
      go_wp2
      go_ret
      refine ⟨by rw [HG.out]; rfl, by rw [HG.out]; exact HR2.out, ?_⟩
      have := HBW.out
      rw [← HG.out] at this
      exact gr_below this none

/-- How file ends. -/
def FileEnd (w : World) (s : List UInt8) (n : Nat) (ls : List (List UInt8)) (e : Ending) (w' : World) : Prop :=
  ∃ g, e = .returned (flV s (some ⟨g, 0, none⟩) n n) ∧ w'.ownsRow w.heap.size 9 1 (.slice (some ⟨g, 0, none⟩) n n) n (ls.map strV) ∧ Below w.heap.size w w'

set_option maxHeartbeats 1000000 in
theorem file (s : List UInt8) (A : Option Addr) (c n B : Nat) (ls : List (List UInt8)) (w : World) (hn : ls.length = n) (hln : n ≤ 8796093022208) (hB : B ≤ w.heap.size) (hR : RdS w B A ls) :
    Calls Try.prog 105 #[flV s A n c] w (FileEnd w s n ls) := by
  have HN := Lib.hid hn; clear hn
  have R := Lib.hid hR; clear hR
  go_enter Try.func105, Try.ntmps105
  go_wp2_with fail
  have b1 := (Blk.new w 66 #[strV s, .slice A n c]).alloc (.cells #[.string ⟨#[]⟩, .slice none 0 0] 66)
  have b2 := Blk.new (w.alloc (.cells #[strV s, .slice A n c] 66)) 66 #[.string ⟨#[]⟩, .slice none 0 0]
  have hw : Below w.heap.size w ((w.alloc (.cells #[strV s, .slice A n c] 66)).alloc (.cells #[.string ⟨#[]⟩, .slice none 0 0] 66)) := ((Below.refl _ _).alloc (Nat.le_refl _) _).alloc (by simp) _
  simp only [World.size_alloc] at b2
  generalize hW : (w.alloc (.cells #[strV s, .slice A n c] 66)).alloc (.cells #[.string ⟨#[]⟩, .slice none 0 0] 66) = W at *
  clear hW
  have R1 := Lib.hid (Rd.below R.out (hw.mono hB))
  have B1 := Lib.hid b1; have B2 := Lib.hid b2; have HW := Lib.hid hw; clear b1 b2 hw
  have HBW : Hid (B ≤ W.heap.size) := Lib.hid (Nat.le_trans hB HW.out.size)
  obtain ⟨g, hgs⟩ : ∃ g, w.heap.size = g := ⟨_, rfl⟩
  rw [hgs] at HW B1 B2 hB ⊢
  have HGS := Lib.hid hgs; clear hgs
  have x0 : W.cell? ⟨g, 0, none⟩ = some (strV s) := B1.out.cell 0 rfl
  have x1 : W.cell? ⟨g, 1, none⟩ = some (.slice A n c) := B1.out.cell 1 rfl
  go_region_held3 (fun w' => w'.cell? ⟨g, 0, none⟩ = some (strV s) ∧ w'.cell? ⟨g, 1, none⟩ = some (.slice A n c))
    (first | go_keep | (exact ⟨y0, y1⟩))
    (first
      | (go_at_call 102; refine (againL A c n B ls W.drew HN.out hln HBW.out (Rd.drewN R1.out 1)).mono ?_; rintro e w1 ⟨rfl, hr1, hg1⟩;
          have y0 := cell_gr hg1 (nn _) x0; have y1 := cell_gr hg1 (nn _) x1;
          have b3 := (B2.out.drewN 1).gr hg1 (nn _); have q0 : w1.cell? ⟨g + 1, 0, none⟩ = some (.string ⟨#[]⟩) := b3.cell 0 rfl; have q1 : w1.cell? ⟨g + 1, 1, none⟩ = some (.slice none 0 0) := b3.cell 1 rfl; have f0 := b3.frozen 0; have f1 := b3.frozen 1;
          have B3 := Lib.hid b3; clear b3; have HR1 := Lib.hid hr1; have HG1 := Lib.hid hg1; clear hr1 hg1))
  go_wp2_with fail
  obtain ⟨h, hh⟩ : ∃ h, W.drew.heap.size = h := ⟨_, rfl⟩
  have hh2 : W.heap.size = h := hh
  rw [hh] at HR1
  rw [hh2]
  have hgh : g + 1 < h := by have := B2.out.lt; omega
  have HH := Lib.hid hh2; clear hh hh2
  have b4 := (B3.out.set 0 (strV s)).set 1 (.slice (some ⟨h, 0, none⟩) n n)
  have o1 := own_set (own_set HR1.out hgh 0 (strV s)) hgh 1 (.slice (some ⟨h, 0, none⟩) n n)
  have hB3 : Below g w ((w1.setCell ⟨g + 1, 0, none⟩ (strV s)).setCell ⟨g + 1, 1, none⟩ (.slice (some ⟨h, 0, none⟩) n n)) := ((HW.out.trans (((below_drewN (Below.refl W.heap.size W) 1).trans (below_gr HG1.out)).mono (by rw [HH.out]; omega))).setCell (p := ⟨g + 1, 0, none⟩) (by show g ≤ g + 1; omega) _).setCell (p := ⟨g + 1, 1, none⟩) (by show g ≤ g + 1; omega) _
  generalize (w1.setCell ⟨g + 1, 0, none⟩ (strV s)).setCell ⟨g + 1, 1, none⟩ (.slice (some ⟨h, 0, none⟩) n n) = W3 at *
  have q0 : W3.cell? ⟨g + 1, 0, none⟩ = some (strV s) := b4.cell 0 rfl
  have q1 : W3.cell? ⟨g + 1, 1, none⟩ = some (.slice (some ⟨h, 0, none⟩) n n) := b4.cell 1 rfl
  refine bodyPost_ret (v := flV s (some ⟨h, 0, none⟩) n n) (by simp [results, Try.results105, go_sem, q0, q1]) rfl ?_
  exact ⟨h, rfl, own_mono o1 (by rw [HGS.out]; omega), by rw [HGS.out]; exact hB3⟩

end Tr
end Go.Proofs.Ytbiiabfhngdeiaa

namespace Go.Proofs.Ytbiiabfhngdeiaa
open Go.RowKit
set_option linter.unusedVariables false
namespace Tr
open Tx

theorem FCells.set {W : World} {g k c : Nat} {t1 t2 : TR} {xs : List Value} {x : FL} {A : Option Addr} (h : FCells W (some g) t1 xs) (hj : ∀ j y, j ≠ k → t2[j]? = some y → t1[j]? = some y) (hk : ∀ y, t2[k]? = some y → y = x)
    (hlen : k * 2 + 1 < xs.length) (hc : x.2.length ≤ c) (hr : RdX W (some g) A x.2) : FCells W (some g) t2 ((xs.set (k * 2) (strV x.1)).set (k * 2 + 1) (.slice A x.2.length c)) := by
  intro j y hy
  by_cases e : j = k
  · subst e
    obtain rfl := hk y hy
    refine ⟨A, c, ?_, ?_, hc, hr⟩
    · rw [List.getElem?_set_ne (by omega), List.getElem?_set_self (by omega)]
    · rw [List.getElem?_set_self (by rw [List.length_set]; omega)]
  · obtain ⟨A', c', h1, h2, h3, h4⟩ := h j y (hj j y e hy)
    refine ⟨A', c', ?_, ?_, h3, h4⟩
    · rw [List.getElem?_set_ne (by omega), List.getElem?_set_ne (by omega)]; exact h1
    · rw [List.getElem?_set_ne (by omega), List.getElem?_set_ne (by omega)]; exact h2

theorem store_file {W : World} {base g n cap k c : Nat} {t1 t2 : TR} {xs : List Value} {x : FL} {A : Option Addr} (hrow : W.ownsRow base 66 2 (.slice (some ⟨g, 0, none⟩) n cap) n xs) (hF : FCells W (some g) t1 xs)
    (hj : ∀ j y, j ≠ k → t2[j]? = some y → t1[j]? = some y) (hk : ∀ y, t2[k]? = some y → y = x) (hkn : k < n) (hc : x.2.length ≤ c) (hr : RdX W (some g) A x.2) :
    (∃ xs', ((W.setCell ⟨g, k * 2, none⟩ (strV x.1)).setCell ⟨g, k * 2 + 1, none⟩ (.slice A x.2.length c)).ownsRow base 66 2 (.slice (some ⟨g, 0, none⟩) n cap) n xs' ∧ FCells ((W.setCell ⟨g, k * 2, none⟩ (strV x.1)).setCell ⟨g, k * 2 + 1, none⟩ (.slice A x.2.length c)) (some g) t2 xs') ∧
      W.grownBy ((W.setCell ⟨g, k * 2, none⟩ (strV x.1)).setCell ⟨g, k * 2 + 1, none⟩ (.slice A x.2.length c)) (some g) := by
  obtain ⟨h1, g1⟩ := hrow.stored (k * 2) (strV x.1)
  obtain ⟨h2, g2⟩ := h1.stored (k * 2 + 1) (.slice A x.2.length c)
  have g3 : W.grownBy ((W.setCell ⟨g, k * 2, none⟩ (strV x.1)).setCell ⟨g, k * 2 + 1, none⟩ (.slice A x.2.length c)) (some g) := ⟨g2.os.trans g1.os, g2.tape.trans g1.tape, g2.output.trans g1.output, Nat.le_trans g1.size g2.size, fun i hi hne => (g2.block i (Nat.lt_of_lt_of_le hi g1.size) hne).trans (g1.block i hi hne)⟩
  refine ⟨⟨_, h2, ?_⟩, g3⟩
  exact (hF.set hj hk (by rw [hrow.1]; omega) hc hr).gr g3

/-- The cells where a file is stored. -/
theorem file_cells {W : World} {base g n cap k : Nat} {xs : List Value} (hrow : W.ownsRow base 66 2 (.slice (some ⟨g, 0, none⟩) n cap) n xs) (hkn : k < n) :
    ∃ u v, W.cell? ⟨g, k * 2, none⟩ = some u ∧ W.cell? ⟨g, k * 2 + 1, none⟩ = some v ∧ W.frozen? ⟨g, k * 2, none⟩ = false ∧ W.frozen? ⟨g, k * 2 + 1, none⟩ = false := by
  have h1 := hrow.cellAt (k * 2) (by omega)
  have h2 := hrow.cellAt (k * 2 + 1) (by omega)
  rw [List.getElem?_eq_getElem (by rw [hrow.1]; omega)] at h1 h2
  exact ⟨_, _, h1, h2, hrow.frozenAt _, hrow.frozenAt _⟩

/-- How again ends. -/
def AgainEnd (w : World) (n : Nat) (t : TR) (e : Ending) (w' : World) : Prop :=
  e = .returned (.slice (some ⟨w.heap.size, 0, none⟩) n n) ∧ (∃ xs, w'.ownsRow w.heap.size 66 2 (.slice (some ⟨w.heap.size, 0, none⟩) n n) n xs ∧ FCells w' (some w.heap.size) t xs) ∧ Below w.heap.size w w'

theorem again_next {w wr w2 : World} {g n k m h : Nat} {t : TR} {xs : List Value} {x : FL} {o : Obj} (hrow : wr.ownsRow g 66 2 (.slice (some ⟨g, 0, none⟩) n n) n xs) (hF : FCells wr (some g) (t.take k) xs) (hb : Below g w wr)
    (hk : k < t.length) (hn : t.length = n) (hx : t[k] = x) (hm : x.2.length = m) (hr : w2.ownsRow (wr.alloc o).heap.size 9 1 (.slice (some ⟨h, 0, none⟩) m m) m (x.2.map strV)) (hb2 : Below (wr.alloc o).heap.size (wr.alloc o) w2) :
    ∃ xs', ((w2.setCell ⟨g, k * 2, none⟩ (strV x.1)).setCell ⟨g, k * 2 + 1, none⟩ (.slice (some ⟨h, 0, none⟩) m m)).ownsRow g 66 2 (.slice (some ⟨g, 0, none⟩) n n) n xs' ∧
      FCells ((w2.setCell ⟨g, k * 2, none⟩ (strV x.1)).setCell ⟨g, k * 2 + 1, none⟩ (.slice (some ⟨h, 0, none⟩) m m)) (some g) (t.take (k + 1)) xs' ∧ Below g w ((w2.setCell ⟨g, k * 2, none⟩ (strV x.1)).setCell ⟨g, k * 2 + 1, none⟩ (.slice (some ⟨h, 0, none⟩) m m)) := by
  subst hm
  have hg : g < wr.heap.size := (hrow.lt g rfl).2
  have g1 := World.grownBy_alloc wr o none
  have g2 := below_gr_row hb2
  have hrow2 := own_gr (own_gr hrow g1) g2
  have hF2 := (hF.gr (gr_none g1)).gr (gr_none g2)
  obtain ⟨⟨xs', r1, r2⟩, r3⟩ := store_file (k := k) (t2 := t.take (k + 1)) (x := x) (A := some ⟨h, 0, none⟩) (c := x.2.length) hrow2 hF2 (fun j y hne hy => by
      rw [List.getElem?_take] at hy ⊢
      split at hy
      · rw [if_pos (by omega)]; exact hy
      · cases hy) (fun y hy => by
      rw [List.getElem?_take, if_pos (by omega), List.getElem?_eq_getElem hk] at hy
      injection hy with hy
      rw [← hy, hx]) (by omega) (Nat.le_refl _) (RdX.own hr (by simp; omega))
  refine ⟨xs', r1, r2, ?_⟩
  have hbb : Below g w w2 := (hb.alloc (Nat.le_of_lt hg) o).trans (hb2.mono (by simp; omega))
  exact (hbb.setCell (p := ⟨g, k * 2, none⟩) (Nat.le_refl _) _).setCell (p := ⟨g, k * 2 + 1, none⟩) (Nat.le_refl _) _

set_option maxHeartbeats 2000000 in
theorem againT (A : Option Addr) (c n B : Nat) (t : TR) (w : World) (hn : t.length = n) (hs : Wide t) (hB : B ≤ w.heap.size) (hR : RdT w B A t) :
    Calls Try.prog 104 #[.slice A n c, .func (.func 105) #[] #[]] w (AgainEnd w n t) := by
  have hln : n ≤ 3518437208800 := by rw [← hn]; exact hs.len
  have HN := Lib.hid hn; clear hn
  have HS := Lib.hid hs; clear hs
  have hmk : ∀ W : World, (Instr.makeSlice 39 (.int .i64 (n : Int)) (.int .i64 (n : Int))).run Try.prog W = .ok (.slice (some ⟨W.heap.size, 0, none⟩) n n) (W.alloc (.cells (madeCells #[.string ⟨#[]⟩, .slice none 0 0] (n * 2)) 66)) := by
    obtain ⟨i0, hi, hz0, hz1, hz2⟩ := info_parts info_file
    intro W
    have := run_make (P := Try.prog) W 39 66 i0 _ Try.underlying39 hi hz0 .i64 .i64 (n : Int) (n : Int) (by omega) (by omega) (by rw [hz2]; omega) (by omega)
    simp only [Int.toNat_natCast, hz1] at this
    exact this
  have hrow := World.ownsRow_lit (base := w.heap.size) (e := 66) (size := 2) w (madeCells #[.string ⟨#[]⟩, .slice none 0 0] (n * 2)) n (Nat.le_refl _) (by unfold maxLen; omega) (by rw [size_madeCells])
  have hb0 : Below w.heap.size w (w.alloc (.cells (madeCells #[.string ⟨#[]⟩, .slice none 0 0] (n * 2)) 66)) := (Below.refl _ _).alloc (Nat.le_refl _) _
  obtain ⟨Z, hZ⟩ : ∃ Z, madeCells #[.string ⟨#[]⟩, .slice none 0 0] (n * 2) = Z := ⟨_, rfl⟩
  rw [hZ] at hrow hb0
  have hmk' : ∀ W : World, (Instr.makeSlice 39 (.int .i64 (n : Int)) (.int .i64 (n : Int))).run Try.prog W = .ok (.slice (some ⟨W.heap.size, 0, none⟩) n n) (W.alloc (.cells Z 66)) := fun W => by rw [hmk W, hZ]
  clear hmk hZ
  have HROW := Lib.hid hrow; have HB0 := Lib.hid hb0; clear hrow hb0
  go_enter Try.func104, Try.ntmps104
  go_wp2_with fail
  clear hmk'
  obtain ⟨g, hg⟩ : ∃ g, w.heap.size = g := ⟨_, rfl⟩
  obtain ⟨w0, hw0⟩ : ∃ w0, w.alloc (.cells Z 66) = w0 := ⟨_, rfl⟩
  rw [hw0] at HROW HB0 ⊢
  rw [hg] at HROW HB0 ⊢
  have HG := Lib.hid hg; clear hg hw0
  go_loopw [13] (fun i wr => ∃ k : Nat, k ≤ n ∧ i = .int .i64 (k : Int) ∧ (∃ xs, wr.ownsRow g 66 2 (.slice (some ⟨g, 0, none⟩) n n) n xs ∧ FCells wr (some g) (t.take k) xs) ∧ Below g w wr) (fun i _ => n - (intOf i).toNat)
  case atStart => exact ⟨0, Nat.zero_le _, rfl, ⟨_, HROW.out, FCells.nil _ _ _⟩, HB0.out⟩
  case round =>
    obtain ⟨k, hk, rfl, ⟨xs, hrow, hF⟩, hb⟩ := hrel
    have HRW := Lib.hid hrow; have HF := Lib.hid hF; have HBW := Lib.hid hb; clear hrow hb hF
    by_cases hlt : k < n
    · have hkl : k < t.length := by rw [HN.out]; exact hlt
      obtain ⟨a, rfl, hab, hat⟩ := (hR.below (HBW.out.mono (by rw [← HG.out]; exact hB))).at_ hkl
      have hsm := HS.out.all _ (List.getElem_mem hkl)
      obtain ⟨x, hx⟩ : ∃ x, t[k] = x := ⟨_, rfl⟩
      rw [hx] at hat hsm
      have HX := Lib.hid hx; clear hx
      obtain ⟨c0, A1, c1, h1, hc1, hr1⟩ := hat
      obtain ⟨m, hm⟩ : ∃ m, x.2.length = m := ⟨_, rfl⟩
      have hm5 : m ≤ 8796093022208 := by rw [← hm]; exact Nat.le_trans hsm (by decide)
      rw [hm] at h1 hc1
      have HM := Lib.hid hm; have HR1 := Lib.hid hr1
      clear hm hr1 hsm
      have hgs := (HRW.out.lt g rfl).2
      have hBwr : B ≤ wr.heap.size := by rw [HG.out] at hB; omega
      go_wp2_with fail
      refine (file x.1 A1 c1 m B x.2 _ HM.out hm5 (Nat.le_trans hBwr (by simp)) (Rd.below HR1.out ((Below.refl _ _).alloc hBwr _))).mono ?_
      rintro e w2 ⟨h, rfl, hr2, hb2⟩
      have hnx := again_next HRW.out HF.out HBW.out hkl HN.out HX.out HM.out hr2 hb2
      obtain ⟨v0, v1, y0, y1, f0, f1⟩ := file_cells (own_gr (own_gr HRW.out (World.grownBy_alloc wr _ none)) (below_gr_row hb2)) hlt
      have HNX := Lib.hid hnx
      clear hnx hr2 hb2
      go_wp2
      go_roundw
      case rel =>
        obtain ⟨xs', n1, n2, n3⟩ := HNX.out
        exact ⟨k + 1, by omega, by go_num, ⟨xs', n1, n2⟩, n3⟩
      case measure => simp [intOf]; omega
    · obtain rfl : k = n := by omega
      have hF := HF.out
      rw [List.take_of_length_le (by rw [HN.out]; exact Nat.le_refl _)] at hF
      have HF2 := Lib.hid hF; clear hF
      go_wp2
      go_ret
      exact ⟨by rw [HG.out]; rfl, by rw [HG.out]; exact ⟨xs, HRW.out, HF2.out⟩, by rw [HG.out]; exact HBW.out⟩

end Tr
end Go.Proofs.Ytbiiabfhngdeiaa

namespace Go.Proofs.Ytbiiabfhngdeiaa
open Go.RowKit
set_option linter.unusedVariables false
namespace Tr
open Tx

/-- The files gone through, with the one that is put, if it is ahead of one of them. -/
def insTo (s : List UInt8) (l : List (List UInt8)) (t : TR) (k : Nat) (b : Bool) : TR := if b then ins Op.bytesLess (t.take k) s l else t.take k
theorem any_take {t : TR} {s : List UInt8} {k : Nat} (hk : k < t.length) : (t.take (k + 1)).any (gtN s) = ((t.take k).any (gtN s) || gtN s t[k]) := by
  rw [take_snoc' hk, List.any_append]; simp
theorem any_no {t : TR} {s : List UInt8} (h : t.any (gtN s) = false) : ∀ f ∈ t, Op.bytesLess s f.1 = false := fun f hf => by
  rw [List.any_eq_false] at h
  simpa [gtN] using h f hf
theorem any_yes {t : TR} {s : List UInt8} (h : t.any (gtN s) = true) : ∃ f ∈ t, Op.bytesLess s f.1 = true := by
  rw [List.any_eq_true] at h
  exact h
theorem insTo_past {s : List UInt8} {l : List (List UInt8)} {t : TR} {k : Nat} (hk : k < t.length) (h : (t.take k).any (gtN s) = true) : insTo s l t (k + 1) true = insTo s l t k true ++ [t[k]] := by
  unfold insTo
  rw [if_pos rfl, if_pos rfl, take_snoc' hk]
  exact ins_past (any_yes h)
theorem insTo_none {s : List UInt8} {l : List (List UInt8)} {t : TR} {k : Nat} (hk : k < t.length) : insTo s l t (k + 1) false = insTo s l t k false ++ [t[k]] := take_snoc' hk
theorem insTo_here {s : List UInt8} {l : List (List UInt8)} {t : TR} {k : Nat} (hk : k < t.length) (h : (t.take k).any (gtN s) = false) (hg : gtN s t[k] = true) : insTo s l t (k + 1) true = (insTo s l t k false ++ [(s, l)]) ++ [t[k]] := by
  unfold insTo
  rw [if_pos rfl, if_neg (by decide), take_snoc' hk, ins_here (any_no h) hg, List.append_assoc]
  rfl
theorem insTo_end {s : List UInt8} {l : List (List UInt8)} {t : TR} (h : t.any (gtN s) = false) : ins Op.bytesLess t s l = insTo s l t t.length false ++ [(s, l)] := by
  unfold insTo
  rw [if_neg (by decide), List.take_length]
  exact ins_none (any_no h)
theorem insTo_len {s : List UInt8} {l : List (List UInt8)} {t : TR} {k : Nat} {b : Bool} : (insTo s l t k b).length ≤ t.length + 1 := by
  unfold insTo
  split
  · rw [ins_len, List.length_take]; omega
  · rw [List.length_take]; omega

/-- A file in the place of another one, in a row that may have more room. -/
theorem put_upd2 {w w4 : World} {base g n cap k m c : Nat} {t : TR} {xs : List Value} {s : List UInt8} {l : List (List UInt8)} (hrow : w4.ownsRow base 66 2 (.slice (some ⟨g, 0, none⟩) n cap) n xs) (hF : FCells w4 (some g) t xs) (hn : t.length = n) (hi : ixF (isN s) t = some k)
    {A : Option Addr} (hm : l.length = m) (hc : m ≤ c) (hr : RdX w4 (some g) A l) (hb : Below w.heap.size w w4) (hbase : w.heap.size ≤ base) :
    TreeEnd w (upd t s l) (.returned (.slice (some ⟨g, 0, none⟩) n cap)) ((w4.setCell ⟨g, k * 2, none⟩ (strV s)).setCell ⟨g, k * 2 + 1, none⟩ (.slice A m c)) := by
  subst hm
  obtain ⟨hk, _⟩ := ixF_some hi
  have hu := upd_set (l := l) hi
  obtain ⟨⟨xs', r1, r2⟩, r3⟩ := store_file (k := k) (t2 := upd t s l) (x := (s, l)) (A := A) (c := c) hrow hF (fun j y hne hy => by
      rw [hu, List.getElem?_set_ne (fun e => hne e.symm)] at hy
      exact hy) (fun y hy => by
      rw [hu, List.getElem?_set_self hk] at hy
      injection hy with hy
      exact hy.symm) (by omega) hc hr
  have hlen : (upd t s l).length = n := by rw [upd_len]; exact hn
  refine treeEnd_own (base := base) ⟨xs', by rw [hlen]; exact r1, r2⟩ ?_
  have hg : w.heap.size ≤ g := Nat.le_trans hbase (hrow.lt g rfl).1
  exact (hb.setCell (p := ⟨g, k * 2, none⟩) hg _).setCell (p := ⟨g, k * 2 + 1, none⟩) hg _

end Tr
end Go.Proofs.Ytbiiabfhngdeiaa

namespace Go.Proofs.Ytbiiabfhngdeiaa
open Go.RowKit
set_option linter.unusedVariables false
namespace Tr
open Tx

theorem SameQ (A A' : Option Addr) (c c' n n' B : Nat) (ls ms : List (List UInt8)) (w : World) (d : Nat) (b : Bool) (hn : ls.length = n) (hn' : ms.length = n') (hnm : n ≤ maxLen) (hR : RdS w B A ls) (hR' : RdS w B A' ms) (hb : decide (ls = ms) = b) :
    Calls Try.prog 71 #[.slice A n c, .slice A' n' c'] (w.drewN d) fun e w' => e = .returned (.bool b) ∧ ∃ m, w' = (w.drewN d).drewN m := by
  subst hb
  exact (Tx.Same A A' c c' n n' B ls ms (w.drewN d) hn hn' hnm (Rd.drewN hR d) (Rd.drewN hR' d)).mono fun e w' h => h

theorem RefNameV (x : List UInt8) (w : World) (hx : x.length ≤ maxLen) : Calls Try.prog 83 #[strV x] w fun e w' => e = .returned (.bool (name x)) ∧ w = w' := by
  have := RefName ⟨x.toArray⟩ w (by rw [size_strV]; exact hx)
  simpa using this

theorem MayT.done' {t : TR} (h : MayT t t.length) : mayT t = decide (t.length ≤ 30) := by
  by_cases hl : t.length ≤ 30
  · rw [h.done hl, decide_eq_true hl]
  · rw [decide_eq_false hl]; unfold mayT; rw [decide_eq_false hl]; rfl

end Tr
end Go.Proofs.Ytbiiabfhngdeiaa

namespace Go.Proofs.Ytbiiabfhngdeiaa
open Go.ChangeShapes Go.WideShapes Go.ChangeAt Go.RowKit Go.Deep
set_option linter.unusedVariables false
namespace Tr
open Tx

theorem bytes_str : Try.prog.bytesOf 9 = 16 := by kernel_rfl
theorem bytes_file : Try.prog.bytesOf 66 = 40 := by kernel_rfl

section
variable {H : Type} {enc : TypeId × Value → H} {W : World} {base : Nat} {spare : Nat → Bool} {held : Bool}

theorem weights_all_mem {P : Program} {e : TypeId} : ∀ {ds : List (DataW H)} {d : DataW H}, d ∈ ds → ∀ n ∈ d.weights P e, n ∈ DataW.weightsAll P e ds
  | d0 :: r, d, hd, n, hn => by
    simp only [DataW.weightsAll, List.mem_append]
    rcases List.mem_cons.1 hd with rfl | hd
    · exact .inl hn
    · exact .inr (weights_all_mem hd n hn)

theorem strs_wide {fuel : Nat} {A : Option Addr} {n c : Nat} {x : DataW H × List MemPlace} (h : DataW.trod enc Try.prog W base spare held fuel 47 [.slice A n c] = some x) (hz : ∀ k ∈ x.1.weights Try.prog 47, k ≤ reachBytes) : n * 16 ≤ reachBytes := by
  rcases open_slice Try.underlying47 h with ⟨h', _⟩ | ⟨a, len, cap, m, nn, D, Pl, h', _, hl, _, hmm, rfl, _⟩
  · simp at h'
    obtain ⟨_, rfl, _⟩ := h'
    unfold reachBytes
    omega
  · simp at h'
    obtain ⟨_, rfl, _⟩ := h'
    have := hz ((n + (m - n)) * 16) (by simp [DataW.weights, Try.underlying47, bytes_str])
    omega

theorem file_wide {fuel : Nat} {a : Addr} {i : Nat} {cs : List Value} {x : DataW H × List MemPlace} (hc : W.cells? base (a.add (i * 2)) 2 = some cs) (h : DataW.trod enc Try.prog W base spare held fuel 66 cs = some x)
    (hz : ∀ k ∈ x.1.weights Try.prog 66, k ≤ reachBytes) : ∃ f : FL, FlAt W W.heap.size a i f ∧ FitF f ∧ f.2.length * 16 ≤ reachBytes := by
  obtain ⟨xs, n, _, rfl, hl0, hlen, hf⟩ := DataW.trod_struct Try.underlying66 h
  obtain ⟨_, hl, hcell⟩ := World.cells?_some hc
  have s9 : Try.prog.cellsOf 9 = 1 := by kernel_rfl
  have s24 : Try.prog.cellsOf 47 = 1 := by kernel_rfl
  match xs, hlen with
  | [y0, y1], _ =>
    have h0 : DataW.trod enc Try.prog W base spare held n 9 ((cs.drop 0).take (Try.prog.cellsOf 9)) = some y0 := by simpa using hf 0 _ rfl
    have h1 : DataW.trod enc Try.prog W base spare held n 47 ((cs.drop 1).take (Try.prog.cellsOf 47)) = some y1 := by simpa using hf 1 _ rfl
    match cs, hl with
    | [v0, v1], _ =>
      simp only [s9, s24, List.drop_zero, List.take_succ_cons, List.take_zero, List.drop_succ_cons] at h0 h1
      obtain ⟨s, e0, _, w0⟩ := DataW.trod_string Try.underlying9 h0
      obtain ⟨A2, n2, c2, ls, rfl, hs⟩ := strs_any h1
      injection e0 with e0
      subst e0
      have k0 := hcell 0 (by decide)
      have k1 := hcell 1 (by decide)
      rw [add_zero'] at k0
      have hw : n2 * 16 ≤ reachBytes := strs_wide h1 (fun k hk => hz k (by
        simp only [DataW.weights, Try.underlying66]
        exact DataW.weights_mem_each (j := 1) rfl rfl k hk))
      refine ⟨(s.data.toList, ls), ⟨k0, A2, c2, ?_, ?_, hs.rd⟩, ⟨?_, ?_, hs.short⟩, ?_⟩
      · simp only [hs.len]; exact k1
      · simp only [hs.len]; exact hs.cap
      · show s.data.toList.length ≤ _; rw [Array.length_toList]; exact w0
      · simp only [hs.len]; exact hs.le
      · simp only [hs.len]; exact hw

theorem tree_wide {fuel : Nat} {cs : List Value} {x : DataW H × List MemPlace} {A : Option Addr} {l c : Nat} (h : DataW.trod enc Try.prog W base spare held fuel 39 cs = some x) (hcs : cs = [.slice A l c])
    (hz : ∀ k ∈ x.1.weights Try.prog 39, k ≤ reachBytes) : ∃ t : TR, TreeArg W A l c t ∧ Wide t := by
  have s37 : Try.prog.cellsOf 66 = 2 := by kernel_rfl
  rcases open_slice Try.underlying39 h with ⟨hcs', _⟩ | ⟨a, len, cap, m, n, D, Pl, hcs', _, hl, hm, hmm, rfl, hi⟩
  · rw [hcs] at hcs'
    simp at hcs'
    obtain ⟨rfl, rfl, rfl⟩ := hcs'
    exact ⟨[], ⟨rfl, Nat.le_refl _, Nat.zero_le _, .inl rfl, fun x hx => by cases hx⟩, by simp, fun x hx => by cases hx⟩
  · rw [hcs] at hcs'
    simp at hcs'
    obtain ⟨rfl, rfl, rfl⟩ := hcs'
    have hlm : l ≤ m := by rw [hmm]; split <;> omega
    have hw0 := hz ((l + (m - l)) * 40) (by simp [DataW.weights, Try.underlying39, bytes_file])
    have hw1 : ∀ i, i < l → ∀ k ∈ (D i).weights Try.prog 66, k ≤ reachBytes := fun i hi k hk => hz k (by
      simp only [DataW.weights, Try.underlying39, List.mem_cons, List.mem_append]
      exact .inr (.inl (weights_all_mem (List.mem_map.2 ⟨i, List.mem_range.2 hi, rfl⟩) k hk)))
    rw [s37] at hi
    obtain ⟨t, h1, h2⟩ := list_of (P := fun i x => FlAt W W.heap.size a i x ∧ FitF x ∧ x.2.length * 16 ≤ reachBytes) l (fun i hil => by
      obtain ⟨cs', hc, ht⟩ := hi i (by omega)
      exact file_wide hc ht (hw1 i hil))
    refine ⟨t, ⟨h1, hl, by omega, ?_, fun x hx => ?_⟩, ?_, fun x hx => ?_⟩
    · cases t with
      | nil => exact .inl rfl
      | cons e es =>
        have hb := lt_of_cell (h2 0 e rfl).1.c0
        rw [add_block] at hb
        exact .inr ⟨a, rfl, hb, fun k x hx => (h2 k x hx).1⟩
    · obtain ⟨j, hj, rfl⟩ := List.mem_iff_getElem.1 hx
      exact (h2 j _ (List.getElem?_eq_getElem hj)).2.1
    · rw [h1]
      unfold reachBytes at hw0
      omega
    · obtain ⟨j, hj, rfl⟩ := List.mem_iff_getElem.1 hx
      have := (h2 j _ (List.getElem?_eq_getElem hj)).2.2
      unfold reachBytes at this
      omega
end

end Tr
end Go.Proofs.Ytbiiabfhngdeiaa

namespace Go.Proofs.Ytbiiabfhngdeiaa
open Go.RowKit
set_option linter.unusedVariables false
namespace Tr
open Tx

theorem isN_eq (nm : List UInt8) (x : FL) : isN nm x = decide (x.1 = nm) := rfl

theorem find1 (s nm : List UInt8) (A : Option Addr) (n c b : Nat) (W : World) (hb : b < W.heap.size) (hc : W.cell? ⟨b, 0, none⟩ = some (strV nm)) :
    Calls Try.prog 112 #[flV s A n c, .pointer (some ⟨b, 0, none⟩)] W (BoolEnd W (decide (s = nm))) := by
  go_enter Try.func112, Try.ntmps112
  go_wp2
  go_ret
  exact ⟨ret_bool (by rw [Bool.eq_iff_iff]; simp), (Below.refl _ _).alloc (Nat.le_refl _) _⟩

theorem place1 (s nm : List UInt8) (A : Option Addr) (n c b : Nat) (W : World) (hb : b < W.heap.size) (hc : W.cell? ⟨b, 0, none⟩ = some (strV nm)) :
    Calls Try.prog 115 #[flV s A n c, .pointer (some ⟨b, 0, none⟩)] W (BoolEnd W (Op.bytesLess nm s)) := by
  go_enter Try.func115, Try.ntmps115
  go_wp2
  go_ret
  exact ⟨ret_bool (gt_eq s nm), (Below.refl _ _).alloc (Nat.le_refl _) _⟩

set_option maxHeartbeats 1000000 in
/-- slices.IndexFunc at the closure of find. -/
theorem Index_find (nm : List UInt8) (A : Option Addr) (c n b B : Nat) (t : TR) (w : World) (hn : t.length = n) (hln : n ≤ 3518437208800) (hB : B ≤ w.heap.size) (hR : RdT w B A t) (hb : b < w.heap.size) (hcb : w.cell? ⟨b, 0, none⟩ = some (strV nm)) :
    Calls Try.prog 111 #[.slice A n c, .func (.func 112) #[] #[.pointer (some ⟨b, 0, none⟩)]] w (IntEnd w (ixV (ixF (isN nm) t))) := by
  have HN := Lib.hid hn; clear hn
  obtain ⟨g, hg⟩ : ∃ g, w.heap.size = g := ⟨_, rfl⟩
  unfold IntEnd
  rw [hg]
  have HG := Lib.hid hg; clear hg
  have HC := Lib.hid hcb; clear hcb
  obtain ⟨iv, hiv⟩ : ∃ iv, ixV (ixF (isN nm) t) = iv := ⟨_, rfl⟩
  rw [hiv]
  have HIV := Lib.hid hiv; clear hiv
  go_enter Try.func111, Try.ntmps111
  go_wp2_with fail
  go_loopw [8] (fun i wr => ∃ k : Nat, k ≤ n ∧ i = .int .i64 (k : Int) ∧ (∀ j (hj : j < t.length), j < k → isN nm t[j] = false) ∧ Below g w wr) (fun i _ => n - (intOf i).toNat)
  case atStart => exact ⟨0, Nat.zero_le _, rfl, fun j _ hj => by omega, Below.refl _ _⟩
  case round =>
    obtain ⟨k, hk, rfl, hall, hbw⟩ := hrel
    have HA := Lib.hid hall; have HBW := Lib.hid hbw; clear hall hbw
    by_cases hlt : k < n
    · have hkl : k < t.length := by rw [HN.out]; exact hlt
      obtain ⟨a, rfl, hab, hat⟩ := (hR.below (HBW.out.mono (by rw [← HG.out]; exact hB))).at_ hkl
      obtain ⟨x, hx⟩ : ∃ x, t[k] = x := ⟨_, rfl⟩
      rw [hx] at hat
      have HX := Lib.hid hx; clear hx
      obtain ⟨c0, A1, c1, h1, _, _⟩ := hat
      generalize x.2.length = m at h1
      have hsz := HBW.out.size
      have hbwr : b < wr.heap.size := by rw [HG.out] at hb; rw [HG.out] at hsz; omega
      have hcell : wr.cell? ⟨b, 0, none⟩ = some (strV nm) := (HBW.out.cell (p := ⟨b, 0, none⟩) (by rw [← HG.out]; exact hb)).trans HC.out
      have HCELL := Lib.hid hcell
      clear hcell
      cases hq : isN nm x with
      | true =>
        have HE : Hid (iv = (k : Int)) := Lib.hid (by rw [← HIV.out, ixF_at hkl (by rw [HX.out]; exact hq) fun j hj => HA.out j (by omega) hj]; rfl)
        have HQ := Lib.hid hq; clear hq
        go_wp2_with fail
        refine (find1 x.1 nm A1 m c1 b wr hbwr HCELL.out).mono ?_
        rintro e w2 ⟨rfl, hb2⟩
        have hv : decide (x.1 = nm) = true := HQ.out
        rw [hv]
        clear hv
        have HB2 := Lib.hid (HBW.out.trans (hb2.mono (by rw [HG.out] at hsz; exact hsz)))
        clear hb2
        go_wp2
        go_ret
        exact ⟨by rw [HE.out]; rfl, HB2.out⟩
      | false =>
        have HQ := Lib.hid hq; clear hq
        go_wp2_with fail
        refine (find1 x.1 nm A1 m c1 b wr hbwr HCELL.out).mono ?_
        rintro e w2 ⟨rfl, hb2⟩
        have hv : decide (x.1 = nm) = false := HQ.out
        rw [hv]
        clear hv
        have HB2 := Lib.hid (HBW.out.trans (hb2.mono (by rw [HG.out] at hsz; exact hsz)))
        clear hb2
        go_wp2
        go_roundw
        case rel =>
          exact ⟨k + 1, by omega, by go_num, fun j hjl hj => by
            by_cases e : j = k
            · subst e; rw [HX.out]; exact HQ.out
            · exact HA.out j hjl (by omega), HB2.out⟩
        case measure => simp [intOf]; omega
    · obtain rfl : k = n := by omega
      have HE : Hid (iv = -1) := Lib.hid (by rw [← HIV.out, ixF_no fun j hj => HA.out j hj (by rw [← HN.out]; exact hj)]; rfl)
      go_wp2
      go_ret
      exact ⟨by rw [HE.out]; rfl, HBW.out⟩

set_option maxHeartbeats 1000000 in
/-- slices.IndexFunc at the closure of place. -/
theorem Index_place (nm : List UInt8) (A : Option Addr) (c n b B : Nat) (t : TR) (w : World) (hn : t.length = n) (hln : n ≤ 3518437208800) (hB : B ≤ w.heap.size) (hR : RdT w B A t) (hb : b < w.heap.size) (hcb : w.cell? ⟨b, 0, none⟩ = some (strV nm)) :
    Calls Try.prog 111 #[.slice A n c, .func (.func 115) #[] #[.pointer (some ⟨b, 0, none⟩)]] w (IntEnd w (ixV (ixF (gtN nm) t))) := by
  have HN := Lib.hid hn; clear hn
  obtain ⟨g, hg⟩ : ∃ g, w.heap.size = g := ⟨_, rfl⟩
  unfold IntEnd
  rw [hg]
  have HG := Lib.hid hg; clear hg
  have HC := Lib.hid hcb; clear hcb
  obtain ⟨iv, hiv⟩ : ∃ iv, ixV (ixF (gtN nm) t) = iv := ⟨_, rfl⟩
  rw [hiv]
  have HIV := Lib.hid hiv; clear hiv
  go_enter Try.func111, Try.ntmps111
  go_wp2_with fail
  go_loopw [8] (fun i wr => ∃ k : Nat, k ≤ n ∧ i = .int .i64 (k : Int) ∧ (∀ j (hj : j < t.length), j < k → gtN nm t[j] = false) ∧ Below g w wr) (fun i _ => n - (intOf i).toNat)
  case atStart => exact ⟨0, Nat.zero_le _, rfl, fun j _ hj => by omega, Below.refl _ _⟩
  case round =>
    obtain ⟨k, hk, rfl, hall, hbw⟩ := hrel
    have HA := Lib.hid hall; have HBW := Lib.hid hbw; clear hall hbw
    by_cases hlt : k < n
    · have hkl : k < t.length := by rw [HN.out]; exact hlt
      obtain ⟨a, rfl, hab, hat⟩ := (hR.below (HBW.out.mono (by rw [← HG.out]; exact hB))).at_ hkl
      obtain ⟨x, hx⟩ : ∃ x, t[k] = x := ⟨_, rfl⟩
      rw [hx] at hat
      have HX := Lib.hid hx; clear hx
      obtain ⟨c0, A1, c1, h1, _, _⟩ := hat
      generalize x.2.length = m at h1
      have hsz := HBW.out.size
      have hbwr : b < wr.heap.size := by rw [HG.out] at hb; rw [HG.out] at hsz; omega
      have hcell : wr.cell? ⟨b, 0, none⟩ = some (strV nm) := (HBW.out.cell (p := ⟨b, 0, none⟩) (by rw [← HG.out]; exact hb)).trans HC.out
      have HCELL := Lib.hid hcell
      clear hcell
      cases hq : gtN nm x with
      | true =>
        have HE : Hid (iv = (k : Int)) := Lib.hid (by rw [← HIV.out, ixF_at hkl (by rw [HX.out]; exact hq) fun j hj => HA.out j (by omega) hj]; rfl)
        have HQ := Lib.hid hq; clear hq
        go_wp2_with fail
        refine (place1 x.1 nm A1 m c1 b wr hbwr HCELL.out).mono ?_
        rintro e w2 ⟨rfl, hb2⟩
        have hv : Op.bytesLess nm x.1 = true := HQ.out
        rw [hv]
        clear hv
        have HB2 := Lib.hid (HBW.out.trans (hb2.mono (by rw [HG.out] at hsz; exact hsz)))
        clear hb2
        go_wp2
        go_ret
        exact ⟨by rw [HE.out]; rfl, HB2.out⟩
      | false =>
        have HQ := Lib.hid hq; clear hq
        go_wp2_with fail
        refine (place1 x.1 nm A1 m c1 b wr hbwr HCELL.out).mono ?_
        rintro e w2 ⟨rfl, hb2⟩
        have hv : Op.bytesLess nm x.1 = false := HQ.out
        rw [hv]
        clear hv
        have HB2 := Lib.hid (HBW.out.trans (hb2.mono (by rw [HG.out] at hsz; exact hsz)))
        clear hb2
        go_wp2
        go_roundw
        case rel =>
          exact ⟨k + 1, by omega, by go_num, fun j hjl hj => by
            by_cases e : j = k
            · subst e; rw [HX.out]; exact HQ.out
            · exact HA.out j hjl (by omega), HB2.out⟩
        case measure => simp [intOf]; omega
    · obtain rfl : k = n := by omega
      have HE : Hid (iv = -1) := Lib.hid (by rw [← HIV.out, ixF_no fun j hj => HA.out j hj (by rw [← HN.out]; exact hj)]; rfl)
      go_wp2
      go_ret
      exact ⟨by rw [HE.out]; rfl, HBW.out⟩

theorem find (s : List UInt8) (A : Option Addr) (c n B : Nat) (t : TR) (w : World) (hn : t.length = n) (hln : n ≤ 3518437208800) (hB : B ≤ w.heap.size) (hR : RdT w B A t) :
    Calls Try.prog 101 #[.slice A n c, strV s] w (IntEnd w (ixV (ixF (isN s) t))) := by
  have HN := Lib.hid hn; clear hn
  obtain ⟨iv, hiv⟩ : ∃ iv, ixV (ixF (isN s) t) = iv := ⟨_, rfl⟩
  have hI := fun W hB hR hb hcb => Index_find s A c n w.heap.size B t W HN.out hln hB hR hb hcb
  rw [hiv] at hI ⊢
  have HI := Lib.hid hI
  clear hiv hI
  go_enter Try.func101, Try.ntmps101
  go_wp2_with fail
  refine (HI.out (w.alloc (.cells #[strV s] 9)) (Nat.le_trans hB (by simp)) (hR.below ((Below.refl _ _).alloc hB _)) (by simp) ((Blk.new w 9 #[strV s]).cell 0 rfl)).mono ?_
  rintro e w' ⟨rfl, hb⟩
  go_wp2
  go_ret
  exact ⟨rfl, ((Below.refl _ _).alloc (Nat.le_refl _) _).trans (hb.mono (by simp))⟩

theorem place (s : List UInt8) (A : Option Addr) (c n B : Nat) (t : TR) (w : World) (hn : t.length = n) (hln : n ≤ 3518437208800) (hB : B ≤ w.heap.size) (hR : RdT w B A t) :
    Calls Try.prog 107 #[.slice A n c, strV s] w (IntEnd w (((ixF (gtN s) t).getD n : Nat) : Int)) := by
  have HN := Lib.hid hn; clear hn
  have hI := fun W hB hR hb hcb => Index_place s A c n w.heap.size B t W HN.out hln hB hR hb hcb
  obtain ⟨o, ho⟩ : ∃ o, ixF (gtN s) t = o := ⟨_, rfl⟩
  rw [ho] at hI ⊢
  have HI := Lib.hid hI
  clear ho hI
  cases o with
  | none =>
    go_enter Try.func107, Try.ntmps107
    go_wp2_with fail
    refine (HI.out (w.alloc (.cells #[strV s] 9)) (Nat.le_trans hB (by simp)) (hR.below ((Below.refl _ _).alloc hB _)) (by simp) ((Blk.new w 9 #[strV s]).cell 0 rfl)).mono ?_
    rintro e w' ⟨rfl, hb⟩
    simp only [ixV]
    go_wp2
    go_ret
    exact ⟨rfl, ((Below.refl _ _).alloc (Nat.le_refl _) _).trans (hb.mono (by simp))⟩
  | some k =>
    go_enter Try.func107, Try.ntmps107
    go_wp2_with fail
    refine (HI.out (w.alloc (.cells #[strV s] 9)) (Nat.le_trans hB (by simp)) (hR.below ((Below.refl _ _).alloc hB _)) (by simp) ((Blk.new w 9 #[strV s]).cell 0 rfl)).mono ?_
    rintro e w' ⟨rfl, hb⟩
    simp only [ixV]
    go_wp2
    go_ret
    exact ⟨rfl, ((Below.refl _ _).alloc (Nat.le_refl _) _).trans (hb.mono (by simp))⟩

end Tr
end Go.Proofs.Ytbiiabfhngdeiaa

namespace Go.Proofs.Ytbiiabfhngdeiaa
open Go.RowKit
set_option linter.unusedVariables false
namespace Tr
open Tx

set_option maxHeartbeats 1000000 in
theorem GetH (s : List UInt8) (A : Option Addr) (c n B : Nat) (t : TR) (w : World) (hn : t.length = n) (hs : Wide t) (hB : B ≤ w.heap.size) (hR : RdT w B A t) :
    Calls Try.prog 92 #[.slice A n c, strV s] w (GetEndH w (get t s)) := by
  have hln : n ≤ 3518437208800 := by rw [← hn]; exact hs.len
  have hF := fun w hB hR => find s A c n B t w hn hln hB hR
  have HN := Lib.hid hn; clear hn
  have HS := Lib.hid hs; clear hs
  cases hi : ixF (isN s) t with
  | none =>
    have HE := Lib.hid (get_ix_none hi)
    rw [hi] at hF
    have HF := Lib.hid hF; clear hF hi
    go_enter Try.func92, Try.ntmps92
    go_wp2_with fail
    refine (HF.out w hB hR).mono ?_
    rintro e w1 ⟨rfl, hb⟩
    simp only [ixV]
    go_wp2
    go_ret2
    rw [HE.out]
    exact ⟨none, 0, rfl, Nat.le_refl _, .inl rfl, hi_none _, hb⟩
  | some k =>
    obtain ⟨hk, h1, h2, h3⟩ := get_ix hi
    have hsm := HS.out.all _ (List.getElem_mem hk)
    rw [hi] at hF
    have HF := Lib.hid hF; clear hF hi h3
    have HE := Lib.hid h2
    obtain ⟨x, hx⟩ : ∃ x, t[k] = x := ⟨_, rfl⟩
    have hkn : k < n := by rw [← HN.out]; exact hk
    rw [hx] at hsm HE h1
    have HX := Lib.hid hx
    have HK := Lib.hid hk
    clear h1 h2 hx
    go_enter Try.func92, Try.ntmps92
    go_wp2_with fail
    refine (HF.out w hB hR).mono ?_
    rintro e w1 ⟨rfl, hb⟩
    simp only [ixV]
    obtain ⟨a, rfl, hab, hat⟩ := (hR.below (hb.mono hB)).at_ HK.out
    rw [HX.out] at hat
    obtain ⟨c0, A1, c1, k1, hc1, hr1⟩ := hat
    obtain ⟨m, hm⟩ : ∃ m, x.2.length = m := ⟨_, rfl⟩
    have hm5 : m ≤ 8796093022208 := by rw [← hm]; exact Nat.le_trans hsm (by decide)
    rw [hm] at k1 hc1
    have HM := Lib.hid hm; have HR1 := Lib.hid hr1; have HB1 := Lib.hid hb
    clear hm hr1 hsm hb
    go_wp2_with fail
    refine (againL A1 c1 m B x.2 w1 HM.out hm5 (Nat.le_trans hB HB1.out.size) HR1.out).mono ?_
    rintro e w2 ⟨rfl, hr2, hg2⟩
    obtain ⟨A2, c2, e2, hc2, hrd⟩ := rd_of_own hr2
    injection e2 with e2 _ e3
    subst e2; subst e3
    have HRD := Lib.hid hrd; have HG2 := Lib.hid hg2
    clear hr2 hg2 hrd hc2
    go_wp2
    go_ret2
    rw [HE.out]
    refine ⟨some ⟨w1.heap.size, 0, none⟩, m, ?_, ?_, HRD.out, (fun a e => by injection e with e; subst e; exact HB1.out.size), HB1.out.trans ((below_gr HG2.out).mono HB1.out.size)⟩
    · simp only [Option.getD_some, HM.out]; rfl
    · simp only [Option.getD_some, HM.out]; exact Nat.le_refl _

theorem Get (s : List UInt8) (A : Option Addr) (c n B : Nat) (t : TR) (w : World) (hn : t.length = n) (hs : Wide t) (hB : B ≤ w.heap.size) (hR : RdT w B A t) :
    Calls Try.prog 92 #[.slice A n c, strV s] w (GetEnd w (get t s)) :=
  (GetH s A c n B t w hn hs hB hR).mono fun e w' h => h.end_

end Tr
end Go.Proofs.Ytbiiabfhngdeiaa
