/-
  Words for memory, layer 7: a file by value, a slice value that reads as files, and files in a row of one's own. No function of the program is walked here.
-/
import Derived.Test.YtfjllohhjpiphaaGQ
import Derived.Test.YtfjllohhjpiphaaGP
import Derived.IntWalk
set_option maxRecDepth 100000
namespace Go.Proofs.Ytfjllohhjpiphaa
open Go.RowKit
set_option linter.unusedVariables false
namespace Tr
open Tx

/-- The value of a file. -/
abbrev flV (s : List UInt8) (A : Option Addr) (n c : Nat) : Value := .agg #[strV s, .slice A n c]

/-- The cells of a file at the address a, its lines below block B. -/
structure FlAt (w : World) (B : Nat) (a : Addr) (k : Nat) (x : FL) : Prop where
  c0 : w.cell? (a.add (k * 2)) = some (strV x.1)
  c1 : ∃ A c, w.cell? ⟨(a.add (k * 2)).block, (a.add (k * 2)).off + 1, none⟩ = some (.slice A x.2.length c) ∧ x.2.length ≤ c ∧ RdS w B A x.2

/-- The address A leads, below block B, to files; or there are none. -/
def RdT (w : World) (B : Nat) (A : Option Addr) (t : TR) : Prop :=
  t = [] ∨ ∃ a, A = some a ∧ a.block < B ∧ ∀ (k : Nat) x, t[k]? = some x → FlAt w B a k x

/-- What is small enough for all walks. -/
structure SmallF (x : FL) : Prop where
  n : x.1.length ≤ 100000
  l : x.2.length ≤ 100000
  s : ∀ l ∈ x.2, l.length ≤ 100000
structure Small (t : TR) : Prop where
  len : t.length ≤ 100000
  all : ∀ x ∈ t, SmallF x

/-- What the walks of the program's own functions need: what fits a memory. -/
structure Wide (t : TR) : Prop where
  len : t.length ≤ 3518437208800
  all : ∀ x ∈ t, x.2.length ≤ 8796093021952
theorem Small.wide {t : TR} (h : Small t) : Wide t := ⟨by have := h.len; omega, fun x hx => by have := (h.all x hx).l; omega⟩
theorem small_fit {t : TR} (h : Small t) : ∀ x ∈ t, x.1.length ≤ maxLen ∧ x.2.length ≤ maxLen := fun x hx => by
  have := h.all x hx
  exact ⟨Nat.le_trans this.n (by decide), Nat.le_trans this.l (by decide)⟩

section
variable {w w' : World} {B B' : Nat} {A : Option Addr} {t : TR} {x : FL}
theorem FlAt.below {a : Addr} {k : Nat} (h : FlAt w B a k x) (ha : a.block < B) (hb : Below B w w') : FlAt w' B a k x := by
  obtain ⟨c0, A, c, c1, c2, c3⟩ := h
  exact ⟨(hb.cell (by rw [add_block]; exact ha)).trans c0, A, c, (hb.cell (by show (a.add (k * 2)).block < B; rw [add_block]; exact ha)).trans c1, c2, Rd.below c3 hb⟩
theorem FlAt.up {a : Addr} {k : Nat} (h : FlAt w B a k x) (hB : B ≤ B') : FlAt w B' a k x := by
  obtain ⟨c0, A, c, c1, c2, c3⟩ := h
  exact ⟨c0, A, c, c1, c2, Rd.up c3 hB⟩
theorem RdT.below (h : RdT w B A t) (hb : Below B w w') : RdT w' B A t := by
  rcases h with h | ⟨a, e, hlt, hc⟩
  · exact .inl h
  · exact .inr ⟨a, e, hlt, fun k x hx => (hc k x hx).below hlt hb⟩
theorem RdT.up (h : RdT w B A t) (hB : B ≤ B') : RdT w B' A t := by
  rcases h with h | ⟨a, e, hlt, hc⟩
  · exact .inl h
  · exact .inr ⟨a, e, by omega, fun k x hx => (hc k x hx).up hB⟩
theorem RdT.to (h : RdT w B A t) (hB : B ≤ w.heap.size) (hb : Below w.heap.size w w') : RdT w' w'.heap.size A t := ((h.up hB).below hb).up hb.size
theorem RdT.at_ (h : RdT w B A t) {k : Nat} (hk : k < t.length) : ∃ a, A = some a ∧ a.block < B ∧ FlAt w B a k t[k] := by
  rcases h with rfl | ⟨a, e, hlt, hc⟩
  · exact absurd hk (by simp)
  · exact ⟨a, e, hlt, hc k _ (List.getElem?_eq_getElem hk)⟩
theorem RdT.drewN (h : RdT w B A t) (d : Nat) : RdT (w.drewN d) B A t := by
  rcases h with h | ⟨a, e, hlt, hc⟩
  · exact .inl h
  · refine .inr ⟨a, e, hlt, fun k x hx => ?_⟩
    obtain ⟨c0, A, c, c1, c2, c3⟩ := hc k x hx
    exact ⟨by simpa using c0, A, c, by simpa using c1, c2, Rd.drewN c3 d⟩
theorem RdT.nil (w : World) (B : Nat) (A : Option Addr) : RdT w B A [] := .inl rfl
end

/-- How a function that makes a tree ends. -/
def TreeEnd (w : World) (t : TR) (e : Ending) (w' : World) : Prop :=
  ∃ A c, e = .returned (.slice A t.length c) ∧ t.length ≤ c ∧ RdT w' w'.heap.size A t ∧ Below w.heap.size w w'
/-- How a function that makes lines ends. -/
def LinesEnd (w : World) (l : List (List UInt8)) (e : Ending) (w' : World) : Prop :=
  ∃ A c, e = .returned (.slice A l.length c) ∧ l.length ≤ c ∧ RdS w' w'.heap.size A l ∧ Below w.heap.size w w'
/-- How a function ends that tells lines, or that there are none. -/
def GetEnd (w : World) (o : Option (List (List UInt8))) (e : Ending) (w' : World) : Prop :=
  ∃ A c, e = .returned (.tuple #[.slice A (o.getD []).length c, .bool o.isSome]) ∧ (o.getD []).length ≤ c ∧ RdS w' w'.heap.size A (o.getD []) ∧ Below w.heap.size w w'
def BoolEnd (w : World) (b : Bool) (e : Ending) (w' : World) : Prop := e = .returned (.bool b) ∧ Below w.heap.size w w'
def IntEnd (w : World) (i : Int) (e : Ending) (w' : World) : Prop := e = .returned (.int .i64 i) ∧ Below w.heap.size w w'

/-- Lines that are read, in another block than row. -/
def RdX (W : World) (row : Option Nat) (A : Option Addr) (ls : List (List UInt8)) : Prop :=
  RdS W W.heap.size A ls ∧ (ls = [] ∨ ∀ a, A = some a → some a.block ≠ row)
theorem RdX.gr {W W' : World} {row : Option Nat} {A : Option Addr} {ls : List (List UInt8)} (h : RdX W row A ls) (hg : W.grownBy W' row) : RdX W' row A ls := by
  refine ⟨?_, h.2⟩
  rcases h.2 with rfl | hne
  · exact .inl rfl
  · rcases h.1 with hn | ⟨a, e, hlt, hc⟩
    · exact .inl hn
    · exact .inr ⟨a, e, Nat.lt_of_lt_of_le hlt hg.size, fun j u hu => cell_gr hg (by rw [add_block]; exact hne a e) (hc j u hu)⟩
theorem below_gr_row {W W' : World} (hb : Below W.heap.size W W') : W.grownBy W' none := ⟨hb.os, hb.tape, hb.output, hb.size, fun k hk _ => hb.block k hk⟩
theorem gr_none {W W' : World} {row : Option Nat} (hg : W.grownBy W' none) : W.grownBy W' row := ⟨hg.os, hg.tape, hg.output, hg.size, fun k hk _ => hg.block k hk (nn k)⟩
theorem gr_below {W W' : World} (hb : Below W.heap.size W W') (row : Option Nat) : W.grownBy W' row := ⟨hb.os, hb.tape, hb.output, hb.size, fun k hk _ => hb.block k hk⟩
theorem RdX.of {W : World} {B : Nat} {row : Option Nat} {A : Option Addr} {ls : List (List UInt8)} (h : RdS W B A ls) (hB : B ≤ W.heap.size) (hr : ∀ g, row = some g → B ≤ g) : RdX W row A ls := by
  refine ⟨Rd.up h hB, ?_⟩
  rcases h with h | ⟨a, e, hlt, _⟩
  · exact .inl (List.map_eq_nil_iff.1 h)
  · exact .inr fun a' e' hne => by
      rw [e] at e'; injection e' with e'; subst e'
      have := hr a.block hne.symm
      omega
/-- Lines in a row of one's own, behind the row of files. -/
theorem RdX.own {W : World} {base n g : Nat} {A : Option Addr} {c : Nat} {ls : List (List UInt8)} (h : W.ownsRow base 9 1 (.slice A n c) n (ls.map strV)) (hg : g < base) : RdX W (some g) A ls := by
  obtain ⟨A', c', e, _, hr⟩ := rd_of_own h
  cases e
  refine ⟨hr, ?_⟩
  cases A with
  | none => exact .inr fun a e => by cases e
  | some a =>
    refine .inr fun a' e hne => ?_
    have := own_ge h a.block rfl
    injection e with e; subst e
    injection hne with hne
    omega

/-- The cells of files, as far as they go; their lines lie in other blocks than row. -/
def FCells (W : World) (row : Option Nat) (t : TR) (xs : List Value) : Prop :=
  ∀ (k : Nat) x, t[k]? = some x → ∃ A c, xs[k * 2]? = some (strV x.1) ∧ xs[k * 2 + 1]? = some (.slice A x.2.length c) ∧ x.2.length ≤ c ∧ RdX W row A x.2
theorem FCells.gr {W W' : World} {row : Option Nat} {t : TR} {xs : List Value} (h : FCells W row t xs) (hg : W.grownBy W' row) : FCells W' row t xs := fun k x hx => by
  obtain ⟨A, c, h1, h2, h3, h4⟩ := h k x hx
  exact ⟨A, c, h1, h2, h3, h4.gr hg⟩
/-- Where the row turns to a new one. -/
theorem FCells.turn {W W' : World} {row row' : Option Nat} {t : TR} {xs : List Value} (h : FCells W row t xs) (hb : Below W.heap.size W W') (hr : ∀ g, row' = some g → W.heap.size ≤ g) : FCells W' row' t xs := fun k x hx => by
  obtain ⟨A, c, h1, h2, h3, h4⟩ := h k x hx
  exact ⟨A, c, h1, h2, h3, RdX.of (Rd.below h4.1 hb) hb.size hr⟩
theorem FCells.nil (W : World) (row : Option Nat) (xs : List Value) : FCells W row [] xs := fun k x hx => by simp at hx

/-- Files in a row of one's own. -/
def OwnT (W : World) (base : Nat) (v : Value) (t : TR) : Prop := ∃ xs, W.ownsRow base 48 2 v t.length xs ∧ FCells W v.ownBlock t xs

/-- A row of files of one's own is read as files. -/
theorem rdT_own {W : World} {base : Nat} {v : Value} {t : TR} (h : OwnT W base v t) : ∃ A c, v = .slice A t.length c ∧ t.length ≤ c ∧ RdT W W.heap.size A t := by
  obtain ⟨xs, hr, hF⟩ := h
  rcases hr.2 with ⟨rfl, h0⟩ | ⟨g, cap, cur, rfl, _, hg, hc, _⟩
  · have : t = [] := List.eq_nil_of_length_eq_zero h0
    subst this
    exact ⟨none, 0, rfl, Nat.le_refl _, .inl rfl⟩
  · refine ⟨_, cap, rfl, hc, .inr ⟨_, rfl, (Array.getElem?_eq_some_iff.1 hg).1, fun k x hx => ?_⟩⟩
    obtain ⟨A, c, g1, g2, g3, g4⟩ := hF k x hx
    have hk : k < t.length := (List.getElem?_eq_some_iff.1 hx).1
    have ea : (⟨g, 0, none⟩ : Addr).add (k * 2) = ⟨g, k * 2, none⟩ := by unfold Addr.add; split <;> simp_all
    refine ⟨?_, A, c, ?_, g3, g4.1⟩
    · rw [ea, hr.cellAt (k * 2) (by omega)]; exact g1
    · rw [ea]; show W.cell? ⟨g, k * 2 + 1, none⟩ = _; rw [hr.cellAt (k * 2 + 1) (by omega)]; exact g2
theorem treeEnd_own {w w' : World} {base : Nat} {v : Value} {t : TR} (h : OwnT w' base v t) (hb : Below w.heap.size w w') : TreeEnd w t (.returned v) w' := by
  obtain ⟨A, c, rfl, hc, hr⟩ := rdT_own h
  exact ⟨A, c, rfl, hc, hr, hb⟩

theorem info_file : (Try.prog.info? 48).map (fun i => (i.zero, i.size, i.bytes)) = some (some (.agg #[.string ⟨#[]⟩, .slice none 0 0]), 2, 40) := by kernel_rfl

/-- Where a test of files holds first. -/
def ixF (p : FL → Bool) : TR → Option Nat
  | [] => none
  | x :: t => if p x then some 0 else (ixF p t).map (· + 1)
def ixV (o : Option Nat) : Int := match o with | some k => (k : Int) | none => -1
theorem ixF_at {p : FL → Bool} : ∀ {t : TR} {k : Nat} (hk : k < t.length), p t[k] = true → (∀ j (hj : j < k), p (t[j]'(by omega)) = false) → ixF p t = some k
  | x :: t, 0, _, h, _ => by unfold ixF; rw [if_pos (show p x = true from h)]
  | x :: t, k + 1, hk, h, hb => by
    have h0 : p x = false := hb 0 (by omega)
    unfold ixF
    rw [h0, ixF_at (t := t) (k := k) (by simpa using hk) h fun j hj => hb (j + 1) (by omega)]
    rfl
theorem ixF_no {p : FL → Bool} : ∀ {t : TR}, (∀ j (hj : j < t.length), p t[j] = false) → ixF p t = none
  | [], _ => rfl
  | x :: t, h => by
    have h0 : p x = false := h 0 (by simp)
    unfold ixF
    rw [h0, ixF_no (t := t) fun j hj => h (j + 1) (by simpa using hj)]
    rfl
theorem ixF_some {p : FL → Bool} : ∀ {t : TR} {k : Nat}, ixF p t = some k → ∃ hk : k < t.length, p t[k] = true ∧ ∀ j (hj : j < k), p (t[j]'(by omega)) = false
  | [], k, h => by cases h
  | x :: t, k, h => by
    unfold ixF at h
    by_cases h0 : p x = true
    · rw [if_pos h0] at h; cases h; exact ⟨by simp, h0, fun j hj => by omega⟩
    · rw [if_neg h0] at h
      cases h1 : ixF p t with
      | none => rw [h1] at h; cases h
      | some i =>
        rw [h1] at h
        cases h
        obtain ⟨hi, h2, h3⟩ := ixF_some h1
        refine ⟨by simp; omega, h2, fun j hj => ?_⟩
        cases j with
        | zero => simpa using h0
        | succ j => exact h3 j (Nat.lt_of_succ_lt_succ hj)
theorem ixF_none {p : FL → Bool} {t : TR} (h : ixF p t = none) : ∀ x ∈ t, p x = false := by
  induction t with
  | nil => intro x hx; cases hx
  | cons y t ih =>
    unfold ixF at h
    by_cases h0 : p y = true
    · rw [if_pos h0] at h; cases h
    · rw [if_neg h0] at h
      intro x hx
      rcases List.mem_cons.1 hx with rfl | hx
      · simpa using h0
      · exact ih (by cases h1 : ixF p t with | none => rfl | some i => rw [h1] at h; cases h) x hx

/-- A file's name is this one; a file's name is greater. -/
def isN (n : List UInt8) (x : FL) : Bool := decide (x.1 = n)
def gtN (n : List UInt8) (x : FL) : Bool := Op.bytesLess n x.1

theorem get_ix {t : TR} {n : List UInt8} {k : Nat} (h : ixF (isN n) t = some k) : ∃ hk : k < t.length, t[k].1 = n ∧ get t n = some t[k].2 ∧ (∀ j (hj : j < k), (t[j]'(by omega)).1 ≠ n) := by
  obtain ⟨hk, h1, h2⟩ := ixF_some h
  have e : t[k].1 = n := by simpa [isN] using h1
  have hne : ∀ j (hj : j < k), (t[j]'(by omega)).1 ≠ n := fun j hj => by have := h2 j hj; simpa [isN] using this
  exact ⟨hk, e, get_at hk e hne, hne⟩
theorem get_ix_none {t : TR} {n : List UInt8} (h : ixF (isN n) t = none) : get t n = none := by
  rw [get_none]
  intro f hf
  have := ixF_none h f hf
  simpa [isN] using this
/-- A file ahead of the first one of a greater name. -/
theorem ins_ix : ∀ {t : TR} {n : List UInt8} {l : List (List UInt8)}, ins Op.bytesLess t n l = t.take ((ixF (gtN n) t).getD t.length) ++ (n, l) :: t.drop ((ixF (gtN n) t).getD t.length)
  | [], n, l => rfl
  | x :: t, n, l => by
    unfold ins ixF
    by_cases h : Op.bytesLess n x.1 = true
    · rw [if_pos h, if_pos (show gtN n x = true from h)]; rfl
    · rw [if_neg h, if_neg (show ¬ gtN n x = true from h), ins_ix]
      cases ixF (gtN n) t with
      | none => rfl
      | some k => rfl
theorem place_le {t : TR} {n : List UInt8} : (ixF (gtN n) t).getD t.length ≤ t.length := by
  cases h : ixF (gtN n) t with
  | none => exact Nat.le_refl _
  | some k => exact Nat.le_of_lt (ixF_some h).1

end Tr
end Go.Proofs.Ytfjllohhjpiphaa
