/-
  Words and contracts, joined: GT GR GW GZ GF GN.
-/
import Derived.IntWalk
import Derived.Deep.QuietTactic
import Derived.BigQuiet
import Derived.Deep.Slices
import Derived.Deep.Strs
import Derived.Deep.AppendLies
import Derived.Deep.RegionHeld3
import Derived.Laws.Rows
import Derived.SizedLaws
import Derived.Deep.Cut
import Derived.Test.YtfnhjflocfmcoaaGreatBT0
set_option maxRecDepth 100000
namespace Go.Proofs.YtfnhjflocfmcoaaGreat
open Go.RowKit
set_option linter.unusedVariables false
namespace Tr
open Tx

/-- The value of a file. -/
abbrev flV (s : List UInt8) (A : Option Addr) (n c : Nat) : Value := .agg #[strV s, .slice A n c]

/-- The cells of a file at the address a, its lines below block B. -/
structure FlAt (w : World) (B : Nat) (a : Addr) (k : Nat) (x : FL) : Prop where
  c0 : w.cell? (a.add (k * 2)) = some (strV x.1)
  c1 : ∃ A c, w.cell? ⟨(a.add (k * 2)).block, (a.add (k * 2)).off + 1, none⟩ = some (.slice A x.2.length c) ∧ x.2.length ≤ c ∧ RdS w B A x.2

/-- The address A leads, below block B, to files; or there are none. -/
def RdT (w : World) (B : Nat) (A : Option Addr) (t : TR) : Prop :=
  t = [] ∨ ∃ a, A = some a ∧ a.block < B ∧ ∀ (k : Nat) x, t[k]? = some x → FlAt w B a k x

/-- What is small enough for all walks. -/
structure SmallF (x : FL) : Prop where
  n : x.1.length ≤ 100000
  l : x.2.length ≤ 100000
  s : ∀ l ∈ x.2, l.length ≤ 100000
structure Small (t : TR) : Prop where
  len : t.length ≤ 100000
  all : ∀ x ∈ t, SmallF x

/-- What the walks of the program's own functions need: what fits a memory. -/
structure Wide (t : TR) : Prop where
  len : t.length ≤ 3518437208800
  all : ∀ x ∈ t, x.2.length ≤ 8796093021952
theorem Small.wide {t : TR} (h : Small t) : Wide t := ⟨by have := h.len; omega, fun x hx => by have := (h.all x hx).l; omega⟩
section
variable {w w' : World} {B B' : Nat} {A : Option Addr} {t : TR} {x : FL}
theorem FlAt.below {a : Addr} {k : Nat} (h : FlAt w B a k x) (ha : a.block < B) (hb : Below B w w') : FlAt w' B a k x := by
  obtain ⟨c0, A, c, c1, c2, c3⟩ := h
  exact ⟨(hb.cell (by rw [add_block]; exact ha)).trans c0, A, c, (hb.cell (by show (a.add (k * 2)).block < B; rw [add_block]; exact ha)).trans c1, c2, Rd.below c3 hb⟩
theorem FlAt.up {a : Addr} {k : Nat} (h : FlAt w B a k x) (hB : B ≤ B') : FlAt w B' a k x := by
  obtain ⟨c0, A, c, c1, c2, c3⟩ := h
  exact ⟨c0, A, c, c1, c2, Rd.up c3 hB⟩
theorem RdT.below (h : RdT w B A t) (hb : Below B w w') : RdT w' B A t := by
  rcases h with h | ⟨a, e, hlt, hc⟩
  · exact .inl h
  · exact .inr ⟨a, e, hlt, fun k x hx => (hc k x hx).below hlt hb⟩
theorem RdT.up (h : RdT w B A t) (hB : B ≤ B') : RdT w B' A t := by
  rcases h with h | ⟨a, e, hlt, hc⟩
  · exact .inl h
  · exact .inr ⟨a, e, by omega, fun k x hx => (hc k x hx).up hB⟩
theorem RdT.to (h : RdT w B A t) (hB : B ≤ w.heap.size) (hb : Below w.heap.size w w') : RdT w' w'.heap.size A t := ((h.up hB).below hb).up hb.size
theorem RdT.at_ (h : RdT w B A t) {k : Nat} (hk : k < t.length) : ∃ a, A = some a ∧ a.block < B ∧ FlAt w B a k t[k] := by
  rcases h with rfl | ⟨a, e, hlt, hc⟩
  · exact absurd hk (by simp)
  · exact ⟨a, e, hlt, hc k _ (List.getElem?_eq_getElem hk)⟩
theorem RdT.drewN (h : RdT w B A t) (d : Nat) : RdT (w.drewN d) B A t := by
  rcases h with h | ⟨a, e, hlt, hc⟩
  · exact .inl h
  · refine .inr ⟨a, e, hlt, fun k x hx => ?_⟩
    obtain ⟨c0, A, c, c1, c2, c3⟩ := hc k x hx
    exact ⟨by simpa using c0, A, c, by simpa using c1, c2, Rd.drewN c3 d⟩
theorem RdT.nil (w : World) (B : Nat) (A : Option Addr) : RdT w B A [] := .inl rfl
end

/-- How a function that makes a tree ends. -/
def TreeEnd (w : World) (t : TR) (e : Ending) (w' : World) : Prop :=
  ∃ A c, e = .returned (.slice A t.length c) ∧ t.length ≤ c ∧ RdT w' w'.heap.size A t ∧ Below w.heap.size w w'
/-- How a function that makes lines ends. -/
def LinesEnd (w : World) (l : List (List UInt8)) (e : Ending) (w' : World) : Prop :=
  ∃ A c, e = .returned (.slice A l.length c) ∧ l.length ≤ c ∧ RdS w' w'.heap.size A l ∧ Below w.heap.size w w'
/-- How a function ends that tells lines, or that there are none. -/
def GetEnd (w : World) (o : Option (List (List UInt8))) (e : Ending) (w' : World) : Prop :=
  ∃ A c, e = .returned (.tuple #[.slice A (o.getD []).length c, .bool o.isSome]) ∧ (o.getD []).length ≤ c ∧ RdS w' w'.heap.size A (o.getD []) ∧ Below w.heap.size w w'
/-- The same, the lines in memory that is new. -/
def GetEndH (w : World) (o : Option (List (List UInt8))) (e : Ending) (w' : World) : Prop :=
  ∃ A c, e = .returned (.tuple #[.slice A (o.getD []).length c, .bool o.isSome]) ∧ (o.getD []).length ≤ c ∧ RdS w' w'.heap.size A (o.getD []) ∧ Hi w.heap.size A ∧ Below w.heap.size w w'
theorem GetEndH.end_ {w w' : World} {o : Option (List (List UInt8))} {e : Ending} (h : GetEndH w o e w') : GetEnd w o e w' := by
  obtain ⟨A, c, h1, h2, h3, _, h4⟩ := h
  exact ⟨A, c, h1, h2, h3, h4⟩
def BoolEnd (w : World) (b : Bool) (e : Ending) (w' : World) : Prop := e = .returned (.bool b) ∧ Below w.heap.size w w'
def IntEnd (w : World) (i : Int) (e : Ending) (w' : World) : Prop := e = .returned (.int .i64 i) ∧ Below w.heap.size w w'

/-- Lines that are read, in another block than row. -/
def RdX (W : World) (row : Option Nat) (A : Option Addr) (ls : List (List UInt8)) : Prop :=
  RdS W W.heap.size A ls ∧ (ls = [] ∨ ∀ a, A = some a → some a.block ≠ row)
theorem RdX.gr {W W' : World} {row : Option Nat} {A : Option Addr} {ls : List (List UInt8)} (h : RdX W row A ls) (hg : W.grownBy W' row) : RdX W' row A ls := by
  refine ⟨?_, h.2⟩
  rcases h.2 with rfl | hne
  · exact .inl rfl
  · rcases h.1 with hn | ⟨a, e, hlt, hc⟩
    · exact .inl hn
    · exact .inr ⟨a, e, Nat.lt_of_lt_of_le hlt hg.size, fun j u hu => cell_gr hg (by rw [add_block]; exact hne a e) (hc j u hu)⟩
theorem below_gr_row {W W' : World} (hb : Below W.heap.size W W') : W.grownBy W' none := ⟨hb.os, hb.tape, hb.output, hb.size, fun k hk _ => hb.block k hk⟩
theorem gr_none {W W' : World} {row : Option Nat} (hg : W.grownBy W' none) : W.grownBy W' row := ⟨hg.os, hg.tape, hg.output, hg.size, fun k hk _ => hg.block k hk (nn k)⟩
theorem gr_below {W W' : World} (hb : Below W.heap.size W W') (row : Option Nat) : W.grownBy W' row := ⟨hb.os, hb.tape, hb.output, hb.size, fun k hk _ => hb.block k hk⟩
theorem RdX.of {W : World} {B : Nat} {row : Option Nat} {A : Option Addr} {ls : List (List UInt8)} (h : RdS W B A ls) (hB : B ≤ W.heap.size) (hr : ∀ g, row = some g → B ≤ g) : RdX W row A ls := by
  refine ⟨Rd.up h hB, ?_⟩
  rcases h with h | ⟨a, e, hlt, _⟩
  · exact .inl (List.map_eq_nil_iff.1 h)
  · exact .inr fun a' e' hne => by
      rw [e] at e'; injection e' with e'; subst e'
      have := hr a.block hne.symm
      omega
/-- Lines in a row of one's own, behind the row of files. -/
theorem RdX.own {W : World} {base n g : Nat} {A : Option Addr} {c : Nat} {ls : List (List UInt8)} (h : W.ownsRow base 9 1 (.slice A n c) n (ls.map strV)) (hg : g < base) : RdX W (some g) A ls := by
  obtain ⟨A', c', e, _, hr⟩ := rd_of_own h
  cases e
  refine ⟨hr, ?_⟩
  cases A with
  | none => exact .inr fun a e => by cases e
  | some a =>
    refine .inr fun a' e hne => ?_
    have := own_ge h a.block rfl
    injection e with e; subst e
    injection hne with hne
    omega

/-- The cells of files, as far as they go; their lines lie in other blocks than row. -/
def FCells (W : World) (row : Option Nat) (t : TR) (xs : List Value) : Prop :=
  ∀ (k : Nat) x, t[k]? = some x → ∃ A c, xs[k * 2]? = some (strV x.1) ∧ xs[k * 2 + 1]? = some (.slice A x.2.length c) ∧ x.2.length ≤ c ∧ RdX W row A x.2
theorem FCells.gr {W W' : World} {row : Option Nat} {t : TR} {xs : List Value} (h : FCells W row t xs) (hg : W.grownBy W' row) : FCells W' row t xs := fun k x hx => by
  obtain ⟨A, c, h1, h2, h3, h4⟩ := h k x hx
  exact ⟨A, c, h1, h2, h3, h4.gr hg⟩
/-- Where the row turns to a new one. -/
theorem FCells.turn {W W' : World} {row row' : Option Nat} {t : TR} {xs : List Value} (h : FCells W row t xs) (hb : Below W.heap.size W W') (hr : ∀ g, row' = some g → W.heap.size ≤ g) : FCells W' row' t xs := fun k x hx => by
  obtain ⟨A, c, h1, h2, h3, h4⟩ := h k x hx
  exact ⟨A, c, h1, h2, h3, RdX.of (Rd.below h4.1 hb) hb.size hr⟩
theorem FCells.nil (W : World) (row : Option Nat) (xs : List Value) : FCells W row [] xs := fun k x hx => by simp at hx

/-- Files in a row of one's own. -/
def OwnT (W : World) (base : Nat) (v : Value) (t : TR) : Prop := ∃ xs, W.ownsRow base 51 2 v t.length xs ∧ FCells W v.ownBlock t xs

/-- A row of files of one's own is read as files. -/
theorem rdT_own {W : World} {base : Nat} {v : Value} {t : TR} (h : OwnT W base v t) : ∃ A c, v = .slice A t.length c ∧ t.length ≤ c ∧ RdT W W.heap.size A t := by
  obtain ⟨xs, hr, hF⟩ := h
  rcases hr.2 with ⟨rfl, h0⟩ | ⟨g, cap, cur, rfl, _, hg, hc, _⟩
  · have : t = [] := List.eq_nil_of_length_eq_zero h0
    subst this
    exact ⟨none, 0, rfl, Nat.le_refl _, .inl rfl⟩
  · refine ⟨_, cap, rfl, hc, .inr ⟨_, rfl, (Array.getElem?_eq_some_iff.1 hg).1, fun k x hx => ?_⟩⟩
    obtain ⟨A, c, g1, g2, g3, g4⟩ := hF k x hx
    have hk : k < t.length := (List.getElem?_eq_some_iff.1 hx).1
    have ea : (⟨g, 0, none⟩ : Addr).add (k * 2) = ⟨g, k * 2, none⟩ := by unfold Addr.add; split <;> simp_all
    refine ⟨?_, A, c, ?_, g3, g4.1⟩
    · rw [ea, hr.cellAt (k * 2) (by omega)]; exact g1
    · rw [ea]; show W.cell? ⟨g, k * 2 + 1, none⟩ = _; rw [hr.cellAt (k * 2 + 1) (by omega)]; exact g2
theorem treeEnd_own {w w' : World} {base : Nat} {v : Value} {t : TR} (h : OwnT w' base v t) (hb : Below w.heap.size w w') : TreeEnd w t (.returned v) w' := by
  obtain ⟨A, c, rfl, hc, hr⟩ := rdT_own h
  exact ⟨A, c, rfl, hc, hr, hb⟩

theorem info_file : (Tryz.prog.info? 51).map (fun i => (i.zero, i.size, i.bytes)) = some (some (.agg #[.string ⟨#[]⟩, .slice none 0 0]), 2, 40) := by kernel_rfl

/-- Where a test of files holds first. -/
def ixF (p : FL → Bool) : TR → Option Nat
  | [] => none
  | x :: t => if p x then some 0 else (ixF p t).map (· + 1)
def ixV (o : Option Nat) : Int := match o with | some k => (k : Int) | none => -1
theorem ixF_at {p : FL → Bool} : ∀ {t : TR} {k : Nat} (hk : k < t.length), p t[k] = true → (∀ j (hj : j < k), p (t[j]'(by omega)) = false) → ixF p t = some k
  | x :: t, 0, _, h, _ => by unfold ixF; rw [if_pos (show p x = true from h)]
  | x :: t, k + 1, hk, h, hb => by
    have h0 : p x = false := hb 0 (by omega)
    unfold ixF
    rw [h0, ixF_at (t := t) (k := k) (by simpa using hk) h fun j hj => hb (j + 1) (by omega)]
    rfl
theorem ixF_no {p : FL → Bool} : ∀ {t : TR}, (∀ j (hj : j < t.length), p t[j] = false) → ixF p t = none
  | [], _ => rfl
  | x :: t, h => by
    have h0 : p x = false := h 0 (by simp)
    unfold ixF
    rw [h0, ixF_no (t := t) fun j hj => h (j + 1) (by simpa using hj)]
    rfl
theorem ixF_some {p : FL → Bool} : ∀ {t : TR} {k : Nat}, ixF p t = some k → ∃ hk : k < t.length, p t[k] = true ∧ ∀ j (hj : j < k), p (t[j]'(by omega)) = false
  | [], k, h => by cases h
  | x :: t, k, h => by
    unfold ixF at h
    by_cases h0 : p x = true
    · rw [if_pos h0] at h; cases h; exact ⟨by simp, h0, fun j hj => by omega⟩
    · rw [if_neg h0] at h
      cases h1 : ixF p t with
      | none => rw [h1] at h; cases h
      | some i =>
        rw [h1] at h
        cases h
        obtain ⟨hi, h2, h3⟩ := ixF_some h1
        refine ⟨by simp; omega, h2, fun j hj => ?_⟩
        cases j with
        | zero => simpa using h0
        | succ j => exact h3 j (Nat.lt_of_succ_lt_succ hj)
theorem ixF_none {p : FL → Bool} {t : TR} (h : ixF p t = none) : ∀ x ∈ t, p x = false := by
  induction t with
  | nil => intro x hx; cases hx
  | cons y t ih =>
    unfold ixF at h
    by_cases h0 : p y = true
    · rw [if_pos h0] at h; cases h
    · rw [if_neg h0] at h
      intro x hx
      rcases List.mem_cons.1 hx with rfl | hx
      · simpa using h0
      · exact ih (by cases h1 : ixF p t with | none => rfl | some i => rw [h1] at h; cases h) x hx

/-- A file's name is this one; a file's name is greater. -/
def isN (n : List UInt8) (x : FL) : Bool := decide (x.1 = n)
def gtN (n : List UInt8) (x : FL) : Bool := Op.bytesLess n x.1

theorem get_ix {t : TR} {n : List UInt8} {k : Nat} (h : ixF (isN n) t = some k) : ∃ hk : k < t.length, t[k].1 = n ∧ get t n = some t[k].2 ∧ (∀ j (hj : j < k), (t[j]'(by omega)).1 ≠ n) := by
  obtain ⟨hk, h1, h2⟩ := ixF_some h
  have e : t[k].1 = n := by simpa [isN] using h1
  have hne : ∀ j (hj : j < k), (t[j]'(by omega)).1 ≠ n := fun j hj => by have := h2 j hj; simpa [isN] using this
  exact ⟨hk, e, get_at hk e hne, hne⟩
theorem get_ix_none {t : TR} {n : List UInt8} (h : ixF (isN n) t = none) : get t n = none := by
  rw [get_none]
  intro f hf
  have := ixF_none h f hf
  simpa [isN] using this
/-- A file ahead of the first one of a greater name. -/
theorem ins_ix : ∀ {t : TR} {n : List UInt8} {l : List (List UInt8)}, ins Op.bytesLess t n l = t.take ((ixF (gtN n) t).getD t.length) ++ (n, l) :: t.drop ((ixF (gtN n) t).getD t.length)
  | [], n, l => rfl
  | x :: t, n, l => by
    unfold ins ixF
    by_cases h : Op.bytesLess n x.1 = true
    · rw [if_pos h, if_pos (show gtN n x = true from h)]; rfl
    · rw [if_neg h, if_neg (show ¬ gtN n x = true from h), ins_ix]
      cases ixF (gtN n) t with
      | none => rfl
      | some k => rfl
theorem place_le {t : TR} {n : List UInt8} : (ixF (gtN n) t).getD t.length ≤ t.length := by
  cases h : ixF (gtN n) t with
  | none => exact Nat.le_refl _
  | some k => exact Nat.le_of_lt (ixF_some h).1

end Tr
end Go.Proofs.YtfnhjflocfmcoaaGreat

namespace Go.Proofs.YtfnhjflocfmcoaaGreat
open Go.RowKit
set_option linter.unusedVariables false
namespace Tr
open Tx

/-- What holds of the files gone through. -/
structure MayT (t : TR) (k : Nat) : Prop where
  m : ∀ x ∈ t.take k, name x.1 = true ∧ allMay x.2 = true
  u : upB Op.bytesLess ((t.take k).map (·.1)) = true
theorem MayT.zero (t : TR) : MayT t 0 := ⟨fun x hx => by simp at hx, rfl⟩
theorem MayT.done {t : TR} (h : MayT t t.length) (hl : t.length ≤ 30) : mayT t = true := by
  obtain ⟨h1, h2⟩ := h
  rw [List.take_length] at h1 h2
  unfold mayT
  rw [h2, Bool.and_true, Bool.and_eq_true, decide_eq_true_eq, List.all_eq_true]
  exact ⟨hl, fun x hx => by rw [Bool.and_eq_true]; exact h1 x hx⟩
theorem MayT.first {t : TR} (hk : 0 < t.length) (h1 : name t[0].1 = true) (h2 : allMay t[0].2 = true) : MayT t 1 := by
  cases t with
  | nil => simp at hk
  | cons x t =>
    refine ⟨fun y hy => ?_, rfl⟩
    simp at hy
    subst hy
    exact ⟨h1, h2⟩
theorem MayT.next {t : TR} {j : Nat} (h : MayT t (j + 1)) (hj : j + 1 < t.length) (h1 : name t[j + 1].1 = true) (h2 : allMay t[j + 1].2 = true) (h3 : Op.bytesLess t[j].1 t[j + 1].1 = true) : MayT t (j + 1 + 1) := by
  refine ⟨fun y hy => ?_, ?_⟩
  · rw [take_snoc' hj] at hy
    rcases List.mem_append.1 hy with hy | hy
    · exact h.m y hy
    · simp at hy; subst hy; exact ⟨h1, h2⟩
  · have := h.u
    rw [List.map_take] at this ⊢
    rw [upB_take (by simpa using hj), this, Bool.true_and]
    simpa using h3

end Tr
end Go.Proofs.YtfnhjflocfmcoaaGreat

namespace Go.Proofs.YtfnhjflocfmcoaaGreat
open Go.ChangeShapes Go.WideShapes Go.ChangeAt Go.RowKit Go.Deep
set_option linter.unusedVariables false
namespace Tr
open Tx

section
variable {H : Type} {enc : TypeId × Value → H} {W : World} {base : Nat} {spare : Nat → Bool} {held : Bool}

end

def lightT (t : TR) : Bool := decide (t.length ≤ 40) && t.all fun x => light x.2 300 && decide (x.1.length ≤ 100)
theorem lightT_small {t : TR} (h : lightT t = true) : t.length ≤ 40 ∧ Small t := by
  simp only [lightT, Bool.and_eq_true, decide_eq_true_eq, List.all_eq_true] at h
  refine ⟨h.1, ⟨by omega, fun x hx => ?_⟩⟩
  obtain ⟨h1, h2⟩ := h.2 x hx
  simp only [light, Bool.and_eq_true, decide_eq_true_eq, List.all_eq_true] at h1
  exact ⟨by omega, by omega, fun l hl => by have := h1.2 l hl; omega⟩

end Tr
end Go.Proofs.YtfnhjflocfmcoaaGreat

namespace Go.Proofs.YtfnhjflocfmcoaaGreat
open Go.RowKit
set_option linter.unusedVariables false
namespace Tr
open Tx

set_option maxHeartbeats 1000000 in
theorem refWhere (s : List UInt8) (A : Option Addr) (c n B : Nat) (t : TR) (w : World) (hn : t.length = n) (hln : n ≤ 100000) (hR : RdT w B A t) :
    Calls Tryz.prog 96 #[.slice A n c, strV s] w fun e w' => e = .returned (.int .i64 (ixV (ixF (isN s) t))) ∧ w = w' := by
  have HN := Lib.hid hn; clear hn
  obtain ⟨iv, hiv⟩ : ∃ iv, ixV (ixF (isN s) t) = iv := ⟨_, rfl⟩
  rw [hiv]
  have HIV := Lib.hid hiv; clear hiv
  go_enter Tryz.func96, Tryz.ntmps96
  go_wp2_with fail
  go_loop [5] (fun i => ∃ k : Nat, k ≤ n ∧ i = .int .i64 (k : Int) ∧ (∀ j (hj : j < t.length), j < k → isN s t[j] = false)) (fun i => n - (intOf i).toNat)
  case atStart => exact ⟨0, Nat.zero_le _, rfl, fun j _ hj => by omega⟩
  case round =>
    obtain ⟨k, hk, rfl, hall⟩ := hrel
    have HA := Lib.hid hall; clear hall
    by_cases hlt : k < n
    · have hkl : k < t.length := by rw [HN.out]; exact hlt
      obtain ⟨a, rfl, hab, hat⟩ := hR.at_ hkl
      obtain ⟨x, hx⟩ : ∃ x, t[k] = x := ⟨_, rfl⟩
      rw [hx] at hat
      have HX := Lib.hid hx; clear hx
      have c0 := hat.c0
      clear hat
      by_cases he : x.1 = s
      · have HE : Hid (iv = (k : Int)) := Lib.hid (by rw [← HIV.out, ixF_at hkl (by rw [HX.out]; exact decide_eq_true he) fun j hj => HA.out j (by omega) hj]; rfl)
        subst he
        go_wp2
        go_ret
        exact ⟨by rw [HE.out]; rfl, rfl⟩
      · have h1 : (x.1 == s) = false := by simpa using he
        have HE := Lib.hid he
        clear he
        go_wp2
        go_round
        case rel =>
          exact ⟨k + 1, by omega, by go_num, fun j hjl hj => by
            by_cases e : j = k
            · subst e; rw [HX.out]; exact decide_eq_false HE.out
            · exact HA.out j hjl (by omega)⟩
        case measure => simp [intOf]; omega
    · obtain rfl : k = n := by omega
      have HE : Hid (iv = -1) := Lib.hid (by rw [← HIV.out, ixF_no fun j hj => HA.out j hj (by rw [← HN.out]; exact hj)]; rfl)
      go_wp2
      go_ret
      exact ⟨by rw [HE.out]; rfl, rfl⟩

set_option maxHeartbeats 1000000 in
theorem refGetH (s : List UInt8) (A : Option Addr) (c n B : Nat) (t : TR) (w : World) (hn : t.length = n) (hs : Small t) (hB : B ≤ w.heap.size) (hR : RdT w B A t) :
    Calls Tryz.prog 65 #[.slice A n c, strV s] w (GetEndH w (get t s)) := by
  obtain ⟨j0, hj, hy0, hy1, hy2⟩ := info_parts info_str
  have hln : n ≤ 100000 := by rw [← hn]; exact hs.len
  have hW := refWhere s A c n B t w hn hln hR
  have HN := Lib.hid hn; clear hn
  have HS := Lib.hid hs; clear hs
  cases hi : ixF (isN s) t with
  | none =>
    have HE := Lib.hid (get_ix_none hi)
    rw [hi] at hW
    have HW := Lib.hid hW; clear hW hi
    go_enter Tryz.func65, Tryz.ntmps65
    go_wp2_with fail
    refine HW.out.mono ?_
    rintro e w1 ⟨rfl, rfl⟩
    simp only [ixV]
    go_wp2
    go_ret2
    rw [HE.out]
    exact ⟨none, 0, rfl, Nat.le_refl _, .inl rfl, hi_none _, Below.refl _ _⟩
  | some k =>
    obtain ⟨hk, h1, h2, h3⟩ := get_ix hi
    have hsm := HS.out.all _ (List.getElem_mem hk)
    rw [hi] at hW
    have HW := Lib.hid hW; clear hW hi h3
    have HE := Lib.hid h2
    obtain ⟨a, rfl, hab, hat⟩ := hR.at_ hk
    obtain ⟨x, hx⟩ : ∃ x, t[k] = x := ⟨_, rfl⟩
    have hkn : k < n := by rw [← HN.out]; exact hk
    rw [hx] at hsm HE h1 hat
    clear h1 h2 hx
    obtain ⟨c0, A1, c1, k1, hc1, hr1⟩ := hat
    obtain ⟨m, hm⟩ : ∃ m, x.2.length = m := ⟨_, rfl⟩
    have hm5 : m ≤ 100000 := by rw [← hm]; exact hsm.l
    rw [hm] at k1 hc1
    have HM := Lib.hid hm; have HR1 := Lib.hid hr1
    clear hm hr1 hsm hk
    go_enter Tryz.func65, Tryz.ntmps65
    go_wp2_with fail
    refine HW.out.mono ?_
    rintro e w1 ⟨rfl, rfl⟩
    simp only [ixV]
    go_wp2_with (at_builtin; refine wpList_nil' rfl (.const (.slice none 0 0)) (.tmp 16) 49 rfl 9 j0 (.string ⟨#[]⟩) 16 Tryz.underlying49 hj hy0 hy1 hy2 rfl rfl B A1 m c1 (x.2.map strV) rfl (by rw [List.length_map]; exact HM.out) HR1.out (strs_one _) (by unfold maxLen; omega) (by omega) ?_; intro A' c' w' hA hg; have HA := Lib.hid hA; have HG := Lib.hid hg; clear hA hg)
    obtain ⟨A2, c2, e2, hc2, hrd⟩ := rd_of_own HA.out
    injection e2 with e2 _ e3
    subst e2; subst e3
    have HRD := Lib.hid hrd
    have HHI := Lib.hid (hi_own HA.out)
    clear hrd
    go_ret2
    rw [HE.out]
    refine ⟨A', c', ?_, ?_, HRD.out, HHI.out, below_gr HG.out⟩
    · simp only [Option.getD_some, HM.out]; rfl
    · simp only [Option.getD_some, HM.out]; exact hc2

theorem refGet (s : List UInt8) (A : Option Addr) (c n B : Nat) (t : TR) (w : World) (hn : t.length = n) (hs : Small t) (hB : B ≤ w.heap.size) (hR : RdT w B A t) :
    Calls Tryz.prog 65 #[.slice A n c, strV s] w (GetEnd w (get t s)) :=
  (refGetH s A c n B t w hn hs hB hR).mono fun e w' h => h.end_

end Tr
end Go.Proofs.YtfnhjflocfmcoaaGreat

namespace Go.Proofs.YtfnhjflocfmcoaaGreat
open Go.RowKit
set_option linter.unusedVariables false
namespace Tr
open Tx

theorem FCells.take {W : World} {row : Option Nat} {t : TR} {xs : List Value} (h : FCells W row t xs) (p : Nat) : FCells W row (t.take p) (xs.take (p * 2)) := fun k x hx => by
  rw [List.getElem?_take] at hx
  split at hx
  · rename_i hk
    obtain ⟨A, c, h1, h2, h3, h4⟩ := h k x hx
    exact ⟨A, c, by rw [List.getElem?_take, if_pos (by omega)]; exact h1, by rw [List.getElem?_take, if_pos (by omega)]; exact h2, h3, h4⟩
  · cases hx
theorem FCells.drop {W : World} {row : Option Nat} {t : TR} {xs : List Value} (h : FCells W row t xs) (p : Nat) : FCells W row (t.drop p) (xs.drop (p * 2)) := fun k x hx => by
  rw [List.getElem?_drop] at hx
  obtain ⟨A, c, h1, h2, h3, h4⟩ := h (p + k) x hx
  exact ⟨A, c, by rw [List.getElem?_drop, show p * 2 + k * 2 = (p + k) * 2 by omega]; exact h1, by rw [List.getElem?_drop, show p * 2 + (k * 2 + 1) = (p + k) * 2 + 1 by omega]; exact h2, h3, h4⟩
theorem FCells.append {W : World} {row : Option Nat} {t u : TR} {xs ys : List Value} (h : FCells W row t xs) (hl : xs.length = t.length * 2) (h' : FCells W row u ys) : FCells W row (t ++ u) (xs ++ ys) := fun k x hx => by
  rcases Nat.lt_or_ge k t.length with hk | hk
  · rw [List.getElem?_append_left hk] at hx
    obtain ⟨A, c, h1, h2, h3, h4⟩ := h k x hx
    exact ⟨A, c, by rw [List.getElem?_append_left (by omega)]; exact h1, by rw [List.getElem?_append_left (by omega)]; exact h2, h3, h4⟩
  · rw [List.getElem?_append_right hk] at hx
    obtain ⟨A, c, h1, h2, h3, h4⟩ := h' _ x hx
    refine ⟨A, c, ?_, ?_, h3, h4⟩
    · rw [List.getElem?_append_right (by omega), hl, show k * 2 - t.length * 2 = (k - t.length) * 2 by omega]; exact h1
    · rw [List.getElem?_append_right (by omega), hl, show k * 2 + 1 - t.length * 2 = (k - t.length) * 2 + 1 by omega]; exact h2
theorem FCells.one {W : World} {row : Option Nat} {x : FL} {A : Option Addr} {m c : Nat} (hm : x.2.length = m) (hc : m ≤ c) (hr : RdX W row A x.2) : FCells W row [x] [strV x.1, .slice A m c] := fun k y hy => by
  cases k with
  | zero =>
    cases hy
    subst hm
    exact ⟨A, c, rfl, rfl, hc, hr⟩
  | succ k => simp at hy
/-- One file more. -/
theorem FCells.ins {W : World} {row : Option Nat} {t : TR} {xs : List Value} {s : List UInt8} {l : List (List UInt8)} {A : Option Addr} {m c p : Nat} (h : FCells W row t xs) (hl : xs.length = t.length * 2) (hp : p ≤ t.length) (hm : l.length = m) (hc : m ≤ c) (hr : RdX W row A l) :
    FCells W row (t.take p ++ (s, l) :: t.drop p) (xs.take (p * 2) ++ ([strV s, .slice A m c] ++ xs.drop (p * 2))) :=
  (h.take p).append (by rw [List.length_take, List.length_take, hl]; omega) ((FCells.one (x := (s, l)) hm hc hr).append rfl (h.drop p))
/-- One file less. -/
theorem FCells.del {W : World} {row : Option Nat} {t : TR} {xs : List Value} {p : Nat} (h : FCells W row t xs) (hl : xs.length = t.length * 2) (hp : p ≤ t.length) : FCells W row (t.take p ++ t.drop (p + 1)) (xs.take (p * 2) ++ xs.drop ((p + 1) * 2)) :=
  (h.take p).append (by rw [List.length_take, List.length_take, hl]; omega) (h.drop (p + 1))

theorem FCells.one_cell {W : World} {row : Option Nat} {t : TR} {xs : List Value} (h : FCells W row t xs) (hl : xs.length = t.length * 2) : ∀ u ∈ xs, u.oneCell' = true := by
  intro u hu
  obtain ⟨j, hj, rfl⟩ := List.mem_iff_getElem.1 hu
  have hk : j / 2 < t.length := by omega
  obtain ⟨A, c, h1, h2, _⟩ := h (j / 2) t[j / 2] (List.getElem?_eq_getElem hk)
  rcases Nat.mod_two_eq_zero_or_one j with e | e
  · have : xs[j]? = some (strV t[j / 2].1) := by rw [← h1]; congr 1; omega
    rw [List.getElem?_eq_getElem hj] at this
    injection this with this
    rw [this]; simp [Value.oneCell']
  · have : xs[j]? = some (.slice A t[j / 2].2.length c) := by rw [← h2]; congr 1; omega
    rw [List.getElem?_eq_getElem hj] at this
    injection this with this
    rw [this]; simp [Value.oneCell']

theorem upd_set {t : TR} {n : List UInt8} {l : List (List UInt8)} {k : Nat} (h : ixF (isN n) t = some k) : upd t n l = t.set k (n, l) := by
  obtain ⟨hk, h1, _, h3⟩ := get_ix h
  rw [upd_at hk h1 h3, List.set_eq_take_append_cons_drop, if_pos hk]

end Tr
end Go.Proofs.YtfnhjflocfmcoaaGreat

namespace Go.Proofs.YtfnhjflocfmcoaaGreat
open Go.RowKit
set_option linter.unusedVariables false
namespace Tr
open Tx

theorem add_succ (a : Addr) (i : Nat) : (⟨(a.add i).block, (a.add i).off + 1, none⟩ : Addr) = a.add (i + 1) := by
  unfold Addr.add
  by_cases h : i = 0
  · subst h; simp
  · simp [h, Nat.add_assoc]

/-- The cells of a tree that is read. -/
theorem flat_cells {w : World} {B : Nat} {row : Option Nat} {A : Option Addr} {t : TR} (h : RdT w B A t) (hB : B ≤ w.heap.size) (hr : ∀ g, row = some g → B ≤ g) :
    ∃ xs : List Value, xs.length = t.length * 2 ∧ FCells w row t xs ∧ (xs = [] ∨ ∃ a, A = some a ∧ ∀ j u, xs[j]? = some u → w.cell? (a.add j) = some u) := by
  rcases h with rfl | ⟨a, rfl, hlt, hc⟩
  · exact ⟨[], rfl, FCells.nil _ _ _, .inl rfl⟩
  · have key : ∀ (u : TR) (p : Nat), (∀ (k : Nat) x, u[k]? = some x → FlAt w B a (p + k) x) → ∃ xs : List Value, xs.length = u.length * 2 ∧ FCells w row u xs ∧ ∀ j v, xs[j]? = some v → w.cell? (a.add (p * 2 + j)) = some v := by
      intro u
      induction u with
      | nil => intro p _; exact ⟨[], rfl, FCells.nil _ _ _, fun j v hv => by simp at hv⟩
      | cons x u ih =>
        intro p hu
        obtain ⟨xs, h1, h2, h3⟩ := ih (p + 1) fun k y hy => by
          have := hu (k + 1) y (by simpa using hy)
          rw [show p + 1 + k = p + (k + 1) by omega]; exact this
        obtain ⟨c0, A1, c1, k1, kc, kr⟩ := hu 0 x rfl
        rw [Nat.add_zero] at c0 k1
        rw [add_succ] at k1
        refine ⟨strV x.1 :: .slice A1 x.2.length c1 :: xs, by simp [h1]; omega, ?_, fun j v hv => ?_⟩
        · exact FCells.append (t := [x]) (xs := [strV x.1, .slice A1 x.2.length c1]) (FCells.one rfl kc (RdX.of kr hB hr)) rfl h2
        · rcases j with _ | _ | j
          · cases hv; exact c0
          · cases hv; exact k1
          · have := h3 j v (by simpa using hv)
            rw [show p * 2 + (j + 2) = (p + 1) * 2 + j by omega]; exact this
    obtain ⟨xs, h1, h2, h3⟩ := key t 0 fun k x hx => by rw [Nat.zero_add]; exact hc k x hx
    exact ⟨xs, h1, h2, .inr ⟨a, rfl, fun j u hu => by have := h3 j u hu; rw [Nat.zero_mul, Nat.zero_add] at this; exact this⟩⟩

section
variable {P : Program} {w : World}
theorem run_append_none {t ty e : TypeId} {i : TypeInfo} {A A' : Option Addr} {n c c' : Nat} (ht : P.underlying t = some (.slice e)) (hi : P.info? e = some i) (hnc : n ≤ c) :
    (Builtin.append_ #[t, t] ty #[.slice A n c, .slice A' 0 c']).run P w = .ok (.slice A n c) w := by
  have hl : ∀ a : Addr, (loadCells a 0).run P w = .ok #[] w := fun a => by
    have := run_loadCells_list (P := P) w a [] (by simp)
    exact this
  cases A <;> cases A' <;> simp [Builtin.append_, run_underlying ht, sizeOf, typeInfo, hi, Builtin.lenOf, Builtin.firstCells, hnc, storeCells, hl]
end

/-- Files appended onto a row of one's own. -/
theorem run_ownT {W : World} {ty : TypeId} {base m c : Nat} {v : Value} {A : Option Addr} {t u : TR} {ys : List Value} (h : OwnT W base v t) (hu : FCells W v.ownBlock u ys) (hyl : ys.length = u.length * 2) (hsrc : ys = [] ∨ ∃ a, A = some a ∧ ∀ j x, ys[j]? = some x → W.cell? (a.add j) = some x)
    (hm : u.length = m) (hn : t.length + m ≤ 100000) (hbase : base ≤ W.heap.size) :
    ∃ v' W', (Builtin.append_ #[43, 43] ty #[v, .slice A m c]).run Tryz.prog W = .ok v' W' ∧ OwnT W' base v' (t ++ u) ∧ W.grownBy W' v.ownBlock := by
  obtain ⟨i0, hi0, hz0, hz1, hz2⟩ := info_parts info_file
  obtain ⟨xs, hrow, hF⟩ := h
  have h1 := hu.one_cell hyl
  by_cases h0 : m = 0
  · have hu0 : u = [] := List.eq_nil_of_length_eq_zero (by omega)
    subst hu0
    obtain ⟨A0, c0, rfl, hc0, _⟩ := rdT_own ⟨xs, hrow, hF⟩
    subst h0
    exact ⟨_, W, run_append_none Tryz.underlying43 hi0 hc0, by rw [List.append_nil]; exact ⟨xs, hrow, hF⟩, ⟨rfl, rfl, rfl, Nat.le_refl _, fun _ _ _ => rfl⟩⟩
  · obtain ⟨a, rfl, hcell⟩ : ∃ a, A = some a ∧ ∀ j x, ys[j]? = some x → W.cell? (a.add j) = some x := by
      rcases hsrc with hy | h
      · rw [hy] at hyl; simp at hyl; omega
      · exact h
    obtain ⟨g, cap, W', hr, r1, r2, r3, r4⟩ := run_append_lies (P := Tryz.prog) (w := W) 43 ty base 51 i0 _ 2 40 Tryz.underlying43 hi0 hz0 hz1 hz2 rfl (by decide) v t.length xs hrow a m c ys (by rw [hyl, hm]) hcell h1 (by omega) (by unfold maxLen; omega) (by omega) hbase W.heap.size rfl
    refine ⟨_, W', hr, ⟨xs ++ ys, by rw [List.length_append, hm]; exact r1, ?_⟩, r2⟩
    have hJ := (hF.append hrow.1 hu)
    rcases r3 with r3 | r3
    · rw [r3] at hJ r2
      exact hJ.gr r2
    · have : FCells W (some g) (t ++ u) (xs ++ ys) := fun k x hx => by
        obtain ⟨A, c, h1, h2, h3, h4, h5⟩ := hJ k x hx
        refine ⟨A, c, h1, h2, h3, RdX.of h4 (Nat.le_refl _) fun g' e => by injection e with e; omega⟩
      intro k x hx
      obtain ⟨A, c, h1, h2, h3, h4, h5⟩ := hJ k x hx
      obtain ⟨A', c', h1', h2', h3', h4', h5'⟩ := this k x hx
      obtain ⟨h6, _⟩ := RdX.gr (row := v.ownBlock) ⟨h4, h5⟩ r2
      have e1 : Value.slice A x.2.length c = Value.slice A' x.2.length c' := by rw [h2] at h2'; injection h2'
      injection e1 with e1 _ e2
      subst e1; subst e2
      exact ⟨A, c, h1, h2, h3, h6, h5'⟩

theorem wpList_ownT {W : World} {ops : Array Oper} {rest : List Oper} {o : Oper} {a : Act} {Q : Exit → Act → World → Prop} (hgd : o.guard = none) (s x : Operand)
    (ho : o.op = .call { callee := .builtin .append, args := #[s, x], argTypes := #[43, 43] })
    (base m c : Nat) (v : Value) (A : Option Addr) (t u : TR) (ys : List Value) (hs : a.eval s = v) (hx : a.eval x = .slice A m c) (h : OwnT W base v t) (hu : FCells W v.ownBlock u ys) (hyl : ys.length = u.length * 2) (hsrc : ys = [] ∨ ∃ a, A = some a ∧ ∀ j x, ys[j]? = some x → W.cell? (a.add j) = some x)
    (hm : u.length = m) (hn : t.length + m ≤ 100000) (hbase : base ≤ W.heap.size)
    (hK : ∀ v' W', OwnT W' base v' (t ++ u) → W.grownBy W' v.ownBlock → wpList Tryz.prog ops Q rest (a.put o.dst v') W') : wpList Tryz.prog ops Q (o :: rest) a W := by
  refine wpList_plain hgd fun K hK' => ?_
  obtain ⟨v', W', hrun, h2, h3⟩ := run_ownT (ty := o.type) (c := c) h hu hyl hsrc hm hn hbase
  unfold Oper.wp execOp
  simp only [ho, resolve, invoke, builtin, Sem.run_bind, Sem.run_pure, Result.andThen_ok, List.map_toArray, List.map_cons, List.map_nil, hs, hx, hrun]
  exact hK' _ _ (hK v' W' h2 h3)

theorem ownT_nil (W : World) (base : Nat) : OwnT W base (.slice none 0 0) [] := ⟨[], World.ownsRow_nil _ _ _ _, FCells.nil _ _ _⟩
theorem ownT_ge {W : World} {base : Nat} {v : Value} {t : TR} (h : OwnT W base v t) : ∀ k, v.ownBlock = some k → base ≤ k := fun k hk => (h.elim fun xs h => own_ge h.1 k hk)
theorem OwnT.below {W W' : World} {base : Nat} {v : Value} {t : TR} (h : OwnT W base v t) (hb : Below W.heap.size W W') : OwnT W' base v t := by
  obtain ⟨xs, h1, h2⟩ := h
  exact ⟨xs, own_gr h1 (below_gr_row hb), h2.gr (gr_none (below_gr_row hb))⟩

end Tr
end Go.Proofs.YtfnhjflocfmcoaaGreat

namespace Go.Proofs.YtfnhjflocfmcoaaGreat
open Go.RowKit
set_option linter.unusedVariables false
namespace Tr
open Tx

/-- What is left of the files gone through. -/
def delTo (o : Option Nat) (t : TR) (k : Nat) : TR :=
  match o with
  | none => t.take k
  | some i => if k ≤ i then t.take k else t.take i ++ (t.take k).drop (i + 1)
theorem delTo_here {t : TR} {i : Nat} : delTo (some i) t (i + 1) = delTo (some i) t i := by
  unfold delTo
  simp only
  rw [if_neg (by omega), if_pos (Nat.le_refl _), List.drop_of_length_le (by rw [List.length_take]; omega), List.append_nil]
theorem delTo_next {o : Option Nat} {t : TR} {k : Nat} (hk : k < t.length) (h : o ≠ some k) : delTo o t (k + 1) = delTo o t k ++ [t[k]] := by
  cases o with
  | none => exact take_snoc' hk
  | some i =>
    have hne : i ≠ k := fun e => h (by rw [e])
    unfold delTo
    simp only
    by_cases hki : k ≤ i
    · rw [if_pos (by omega), if_pos hki]; exact take_snoc' hk
    · rw [if_neg (by omega), if_neg hki, take_snoc' hk, List.drop_append_of_le_length (by rw [List.length_take]; omega), List.append_assoc]
theorem delTo_end {t : TR} {s : List UInt8} : delTo (ixF (isN s) t) t t.length = del t s := by
  cases hi : ixF (isN s) t with
  | none => rw [del_no (get_ix_none hi)]; exact List.take_length
  | some i =>
    obtain ⟨hk, h1, _, h3⟩ := get_ix hi
    rw [del_at hk h1 h3]
    unfold delTo
    simp only
    rw [if_neg (by omega), List.take_length]
theorem delTo_len {o : Option Nat} {t : TR} {k : Nat} : (delTo o t k).length ≤ t.length := by
  cases o with
  | none => unfold delTo; rw [List.length_take]; omega
  | some i => unfold delTo; simp only; split <;> simp only [List.length_append, List.length_take, List.length_drop] <;> omega

/-- One file that is read, appended. -/
theorem one_src {wr : World} {g B : Nat} {v : Value} {D : TR} {x : FL} {A : Option Addr} {m c : Nat} {t : TypeId} (hown : OwnT wr g v D) (hm : x.2.length = m) (hc : m ≤ c) (hr : RdS wr B A x.2) (hB : B ≤ g) (hg : g ≤ wr.heap.size) :
    OwnT (wr.alloc (.cells #[strV x.1, .slice A m c] t)) g v D ∧ FCells (wr.alloc (.cells #[strV x.1, .slice A m c] t)) v.ownBlock [x] [strV x.1, .slice A m c] ∧
      (∀ j u, ([strV x.1, .slice A m c] : List Value)[j]? = some u → (wr.alloc (.cells #[strV x.1, .slice A m c] t)).cell? ((⟨wr.heap.size, 0, none⟩ : Addr).add j) = some u) ∧ g ≤ (wr.alloc (.cells #[strV x.1, .slice A m c] t)).heap.size := by
  have hb : Below wr.heap.size wr (wr.alloc (.cells #[strV x.1, .slice A m c] t)) := (Below.refl _ _).alloc (Nat.le_refl _) _
  have hBW : B ≤ wr.heap.size := Nat.le_trans hB hg
  refine ⟨hown.below hb, FCells.one hm hc (RdX.of (Rd.below hr (hb.mono hBW)) (Nat.le_trans hBW hb.size) fun k hk => Nat.le_trans hB (ownT_ge hown k hk)), ?_, Nat.le_trans hg hb.size⟩
  exact World.news_of_block (cs := #[strV x.1, .slice A m c]) (t := t) (fr := (0, 0)) (Blk.new wr t _)

set_option maxHeartbeats 2000000 in
theorem refDel (s : List UInt8) (A : Option Addr) (c n B : Nat) (t : TR) (w : World) (hn : t.length = n) (hs : Small t) (hB : B ≤ w.heap.size) (hR : RdT w B A t) (h9 : n ≤ 50000) :
    Calls Tryz.prog 67 #[.slice A n c, strV s] w (TreeEnd w (del t s)) := by
  have hln : n ≤ 100000 := by rw [← hn]; exact hs.len
  have hW := refWhere s A c n B t w hn hln hR
  have hend := delTo_end (t := t) (s := s)
  rw [hn] at hend
  have hin : ∀ i, ixF (isN s) t = some i → i < n := fun i hi => by rw [← hn]; exact (ixF_some hi).1
  obtain ⟨o, ho⟩ : ∃ o, ixF (isN s) t = o := ⟨_, rfl⟩
  rw [ho] at hW hend hin
  obtain ⟨iv, hiv⟩ : ∃ iv, ixV o = iv := ⟨_, rfl⟩
  rw [hiv] at hW
  have hiq : ∀ k : Nat, (o = some k → ((k : Int) != iv) = false ∧ (k : Int) = iv) ∧ (o ≠ some k → ((k : Int) != iv) = true ∧ ¬ (k : Int) = iv) := fun k => by
    have hz : ¬ (k : Int) = iv ↔ o ≠ some k := by
      cases o with
      | none => simp only [ixV] at hiv; constructor
                · intro _ e; cases e
                · intro _; omega
      | some i => simp only [ixV] at hiv; constructor
                  · intro h e; injection e with e; subst e; exact h hiv
                  · intro h e; exact h (by congr 1; omega)
    refine ⟨fun e => ?_, fun e => ?_⟩
    · have : (k : Int) = iv := by
        refine Classical.byContradiction fun h => ?_
        exact (hz.1 h) e
      exact ⟨by simpa using this, this⟩
    · exact ⟨by simpa using hz.2 e, hz.2 e⟩
  have HN := Lib.hid hn; have R := Lib.hid hR; have HW := Lib.hid hW; have HEND := Lib.hid hend; have HIQ := Lib.hid hiq; have HS := Lib.hid hs
  clear hn hR hW hend hiq ho hiv hin hs
  obtain ⟨g, hg⟩ : ∃ g, w.heap.size = g := ⟨_, rfl⟩
  have HG := Lib.hid hg
  rw [hg] at hB
  clear hg
  go_enter Tryz.func67, Tryz.ntmps67
  go_wp2_with fail
  refine HW.out.mono ?_
  rintro e w1 ⟨rfl, rfl⟩
  go_wp2_with fail
  go_loopw [6, 7] (fun v i wr => ∃ k : Nat, k ≤ n ∧ i = .int .i64 (k : Int) ∧ OwnT wr g v (delTo o t k) ∧ Below g w wr) (fun _ i _ => n - (intOf i).toNat)
  case atStart => exact ⟨0, Nat.zero_le _, rfl, by rw [show delTo o t 0 = [] by cases o <;> simp [delTo]]; exact ownT_nil _ _, Below.refl _ _⟩
  case round =>
    obtain ⟨k, hk, rfl, hown, hbw⟩ := hrel
    have HOWN := Lib.hid hown; have HBW := Lib.hid hbw
    clear hown hbw
    have hgw : g ≤ wr.heap.size := by have := HBW.out.size; rw [HG.out] at this; exact this
    by_cases hlt : k < n
    · have hkl : k < t.length := by rw [HN.out]; exact hlt
      obtain ⟨a, rfl, hab, hat⟩ := (RdT.below R.out (HBW.out.mono hB)).at_ hkl
      rcases Classical.em (o = some k) with e | e
      · obtain ⟨h1, h2⟩ := (HIQ.out k).1 e
        have HD : Hid (delTo o t (k + 1) = delTo o t k) := Lib.hid (by rw [e]; exact delTo_here)
        clear h2 e
        go_wp2
        go_roundw
        case rel => exact ⟨k + 1, by omega, by go_num, by rw [HD.out]; exact HOWN.out, HBW.out⟩
        case measure => simp [intOf]; omega
      · obtain ⟨h1, h2⟩ := (HIQ.out k).2 e
        have hd := delTo_next (o := o) hkl e
        have hdl := delTo_len (o := o) (t := t) (k := k)
        rw [HN.out] at hdl
        have hsm := HS.out.all _ (List.getElem_mem hkl)
        obtain ⟨x, hx⟩ : ∃ x, t[k] = x := ⟨_, rfl⟩
        rw [hx] at hat hd hsm
        clear hx h2 e
        obtain ⟨c0, A1, c1, k1, hc1, r1⟩ := hat
        obtain ⟨m, hm⟩ : ∃ m, x.2.length = m := ⟨_, rfl⟩
        rw [hm] at k1 hc1
        obtain ⟨D, hDe⟩ : ∃ D, delTo o t k = D := ⟨_, rfl⟩
        rw [hDe] at hd hdl
        have hown := HOWN.out
        rw [hDe] at hown
        obtain ⟨s1, s2, s3, s4⟩ := one_src (t := 51) hown hm hc1 r1 hB hgw
        have hba : Below g w (wr.alloc (.cells #[strV x.1, .slice A1 m c1] 51)) := HBW.out.alloc hgw _
        have hge := ownT_ge hown
        have HD := Lib.hid hd; have S1 := Lib.hid s1; have S2 := Lib.hid s2; have S3 := Lib.hid s3; have HBA := Lib.hid hba; have HGE := Lib.hid hge
        have hdn : D.length + 1 ≤ 100000 := by omega
        clear hd s1 s2 s3 hba hm r1 hown hge hDe hsm
        go_wp2_with (at_builtin; refine wpList_ownT rfl (.tmp 20) (.tmp 25) rfl g 1 1 u6 (some ⟨wr.heap.size, 0, none⟩) D [x] [strV x.1, .slice A1 m c1] rfl rfl S1.out S2.out rfl (.inr ⟨_, rfl, S3.out⟩) rfl hdn s4 ?_; intro v' W' ho hg; have HO := Lib.hid ho; have HB2 := Lib.hid (HBA.out.grown hg s4 HGE.out); clear ho hg)
        go_roundw
        case rel => exact ⟨k + 1, by omega, by go_num, by rw [HD.out]; exact HO.out, HB2.out⟩
        case measure => simp [intOf]; omega
    · obtain rfl : k = n := by omega
      have hown := HOWN.out
      rw [HEND.out] at hown
      obtain ⟨A1, c1, rfl, hc1, hrd⟩ := rdT_own hown
      have hte : TreeEnd w (del t s) (.returned (.slice A1 (del t s).length c1)) wr := ⟨A1, c1, rfl, hc1, hrd, by rw [HG.out]; exact HBW.out⟩
      have HTE := Lib.hid hte
      clear hown hrd hte hc1 HOWN
      go_wp2
      go_ret
      exact HTE.out

end Tr
end Go.Proofs.YtfnhjflocfmcoaaGreat

namespace Go.Proofs.YtfnhjflocfmcoaaGreat
open Go.RowKit
set_option linter.unusedVariables false
namespace Tr
open Tx

theorem line (s : ByteArray) (w : World) : Calls Tryz.prog 123 #[.string s] w fun e w' => e = .returned (.string s) ∧ w = w' := by
  go_enter Tryz.func123, Tryz.ntmps123
  go_wp2
  go_ret
  exact ⟨rfl, rfl⟩

theorem fill_set {α : Type} {ls : List α} {n k : Nat} (z : α) (hn : ls.length = n) (hk : k < ls.length) : (ls.take k ++ List.replicate (n - k) z).set k ls[k] = ls.take (k + 1) ++ List.replicate (n - (k + 1)) z := by
  have h1 : (ls.take k).length = k := by rw [List.length_take]; omega
  rw [List.set_append_right _ _ (by omega), h1, Nat.sub_self, show n - k = (n - (k + 1)) + 1 by omega, List.replicate_succ, List.set_cons_zero, take_snoc' hk, List.append_assoc]
  rfl
theorem fill_len {α : Type} {ls : List α} {n k : Nat} (z : α) (hn : ls.length = n) (hk : k ≤ n) : (ls.take k ++ List.replicate (n - k) z).length = n := by
  rw [List.length_append, List.length_take, List.length_replicate]; omega

/-- How a copy of lines ends. -/
def CopyEnd (w : World) (n : Nat) (ls : List (List UInt8)) (e : Ending) (w' : World) : Prop :=
  e = .returned (.slice (some ⟨w.heap.size, 0, none⟩) n n) ∧ w'.ownsRow w.heap.size 9 1 (.slice (some ⟨w.heap.size, 0, none⟩) n n) n (ls.map strV) ∧ w.grownBy w' none

set_option maxHeartbeats 1000000 in
theorem againL (A : Option Addr) (c n B : Nat) (ls : List (List UInt8)) (w : World) (hn : ls.length = n) (hln : n ≤ 8796093022208) (hB : B ≤ w.heap.size) (hR : RdS w B A ls) :
    Calls Tryz.prog 122 #[.slice A n c, .func (.func 123) #[] #[]] w (CopyEnd w n ls) := by
  have HN := Lib.hid hn; clear hn
  have hmk : ∀ W : World, (Instr.makeSlice 49 (.int .i64 (n : Int)) (.int .i64 (n : Int))).run Tryz.prog W = .ok (.slice (some ⟨W.heap.size, 0, none⟩) n n) (W.alloc (.cells (madeCells #[strV []] n) 9)) := by
    obtain ⟨i0, hi, hz0, hz1, hz2⟩ := info_parts info_str
    intro W
    have := run_make (P := Tryz.prog) W 49 9 i0 (.string ⟨#[]⟩) Tryz.underlying49 hi hz0 .i64 .i64 (n : Int) (n : Int) (by omega) (by omega) (by rw [hz2]; omega) (by omega)
    simp only [Int.toNat_natCast, hz1, Nat.mul_one] at this
    exact this
  have hrow := World.ownsRow_lit (base := w.heap.size) (e := 9) (size := 1) w (madeCells #[strV []] n) n (Nat.le_refl _) (by unfold maxLen; omega) (by rw [size_madeCells, Nat.mul_one])
  rw [toList_madeCells_one] at hrow
  have hb0 : Below w.heap.size w (w.alloc (.cells (madeCells #[strV []] n) 9)) := (Below.refl _ _).alloc (Nat.le_refl _) _
  obtain ⟨Z, hZ⟩ : ∃ Z, madeCells #[strV []] n = Z := ⟨_, rfl⟩
  rw [hZ] at hrow hb0
  have hmk' : ∀ W : World, (Instr.makeSlice 49 (.int .i64 (n : Int)) (.int .i64 (n : Int))).run Tryz.prog W = .ok (.slice (some ⟨W.heap.size, 0, none⟩) n n) (W.alloc (.cells Z 9)) := fun W => by rw [hmk W, hZ]
  clear hmk hZ
  have HROW := Lib.hid hrow; have HB0 := Lib.hid hb0; clear hrow hb0
  go_enter Tryz.func122, Tryz.ntmps122
  go_wp2_with fail
  clear hmk'
  obtain ⟨g, hg⟩ : ∃ g, w.heap.size = g := ⟨_, rfl⟩
  obtain ⟨w0, hw0⟩ : ∃ w0, w.alloc (.cells Z 9) = w0 := ⟨_, rfl⟩
  rw [hw0] at HROW HB0 ⊢
  rw [hg] at HROW HB0 ⊢
  have HG := Lib.hid hg; clear hg hw0
  go_loopw [13] (fun i wr => ∃ k : Nat, k ≤ n ∧ i = .int .i64 (k : Int) ∧ wr.ownsRow g 9 1 (.slice (some ⟨g, 0, none⟩) n n) n ((ls.map strV).take k ++ List.replicate (n - k) (strV [])) ∧ Below g w wr) (fun i _ => n - (intOf i).toNat)
  case atStart => exact ⟨0, Nat.zero_le _, rfl, HROW.out, HB0.out⟩
  case round =>
    obtain ⟨k, hk, rfl, hrow, hb⟩ := hrel
    have HRW := Lib.hid hrow; have HBW := Lib.hid hb; clear hrow hb
    by_cases hlt : k < n
    · have hkl : k < ls.length := by rw [HN.out]; exact hlt
      obtain ⟨a, rfl, hcell⟩ := RdS.at' (Rd.below hR (HBW.out.mono (by rw [← HG.out]; exact hB))) hkl
      have hst := HRW.out.stored k (strV ls[k])
      have hfs := fill_set (ls := ls.map strV) (n := n) (k := k) (strV []) (by rw [List.length_map]; exact HN.out) (by rw [List.length_map]; exact hkl)
      rw [List.getElem_map] at hfs
      rw [hfs] at hst
      have hc := HRW.out.cellAt k (by omega)
      rw [List.getElem?_eq_getElem (by rw [fill_len _ (by rw [List.length_map]; exact HN.out) hk]; exact hlt)] at hc
      have hf := HRW.out.frozenAt k
      have hst2 := HBW.out.setCell (p := ⟨g, k, none⟩) (Nat.le_refl _) (strV ls[k])
      have HST := Lib.hid hst.1; have HST2 := Lib.hid hst2
      clear hst hst2 hfs
      go_wp2_with fail
      refine (line _ _).mono ?_
      rintro e w' ⟨rfl, rfl⟩
      go_wp2
      go_roundw
      case rel => exact ⟨k + 1, by omega, by go_num, HST.out, HST2.out⟩
      case measure => simp [intOf]; omega
    · obtain rfl : k = n := by omega
      have hrow := HRW.out
      rw [Nat.sub_self, List.replicate_zero, List.append_nil, List.take_of_length_le (by rw [List.length_map, HN.out]; exact Nat.le_refl _)] at hrow
      have HR2 := Lib.hid hrow; clear hrow
      go_wp2
      go_ret
      refine ⟨by rw [HG.out]; rfl, by rw [HG.out]; exact HR2.out, ?_⟩
      have := HBW.out
      rw [← HG.out] at this
      exact gr_below this none

/-- How file ends. -/
def FileEnd (w : World) (s : List UInt8) (n : Nat) (ls : List (List UInt8)) (e : Ending) (w' : World) : Prop :=
  ∃ g, e = .returned (flV s (some ⟨g, 0, none⟩) n n) ∧ w'.ownsRow w.heap.size 9 1 (.slice (some ⟨g, 0, none⟩) n n) n (ls.map strV) ∧ Below w.heap.size w w'

set_option maxHeartbeats 1000000 in
theorem file (s : List UInt8) (A : Option Addr) (c n B : Nat) (ls : List (List UInt8)) (w : World) (hn : ls.length = n) (hln : n ≤ 8796093022208) (hB : B ≤ w.heap.size) (hR : RdS w B A ls) :
    Calls Tryz.prog 125 #[flV s A n c] w (FileEnd w s n ls) := by
  have HN := Lib.hid hn; clear hn
  have R := Lib.hid hR; clear hR
  go_enter Tryz.func125, Tryz.ntmps125
  go_wp2_with fail
  have b1 := (Blk.new w 51 #[strV s, .slice A n c]).alloc (.cells #[.string ⟨#[]⟩, .slice none 0 0] 51)
  have b2 := Blk.new (w.alloc (.cells #[strV s, .slice A n c] 51)) 51 #[.string ⟨#[]⟩, .slice none 0 0]
  have hw : Below w.heap.size w ((w.alloc (.cells #[strV s, .slice A n c] 51)).alloc (.cells #[.string ⟨#[]⟩, .slice none 0 0] 51)) := ((Below.refl _ _).alloc (Nat.le_refl _) _).alloc (by simp) _
  simp only [World.size_alloc] at b2
  generalize hW : (w.alloc (.cells #[strV s, .slice A n c] 51)).alloc (.cells #[.string ⟨#[]⟩, .slice none 0 0] 51) = W at *
  clear hW
  have R1 := Lib.hid (Rd.below R.out (hw.mono hB))
  have B1 := Lib.hid b1; have B2 := Lib.hid b2; have HW := Lib.hid hw; clear b1 b2 hw
  have HBW : Hid (B ≤ W.heap.size) := Lib.hid (Nat.le_trans hB HW.out.size)
  obtain ⟨g, hgs⟩ : ∃ g, w.heap.size = g := ⟨_, rfl⟩
  rw [hgs] at HW B1 B2 hB ⊢
  have HGS := Lib.hid hgs; clear hgs
  have x0 : W.cell? ⟨g, 0, none⟩ = some (strV s) := B1.out.cell 0 rfl
  have x1 : W.cell? ⟨g, 1, none⟩ = some (.slice A n c) := B1.out.cell 1 rfl
  go_region_held3 (fun w' => w'.cell? ⟨g, 0, none⟩ = some (strV s) ∧ w'.cell? ⟨g, 1, none⟩ = some (.slice A n c))
    (first | go_keep | (exact ⟨y0, y1⟩))
    (first
      | (go_at_call 122; refine (againL A c n B ls W.drew HN.out hln HBW.out (Rd.drewN R1.out 1)).mono ?_; rintro e w1 ⟨rfl, hr1, hg1⟩;
          have y0 := cell_gr hg1 (nn _) x0; have y1 := cell_gr hg1 (nn _) x1;
          have b3 := (B2.out.drewN 1).gr hg1 (nn _); have q0 : w1.cell? ⟨g + 1, 0, none⟩ = some (.string ⟨#[]⟩) := b3.cell 0 rfl; have q1 : w1.cell? ⟨g + 1, 1, none⟩ = some (.slice none 0 0) := b3.cell 1 rfl; have f0 := b3.frozen 0; have f1 := b3.frozen 1;
          have B3 := Lib.hid b3; clear b3; have HR1 := Lib.hid hr1; have HG1 := Lib.hid hg1; clear hr1 hg1))
  go_wp2_with fail
  obtain ⟨h, hh⟩ : ∃ h, W.drew.heap.size = h := ⟨_, rfl⟩
  have hh2 : W.heap.size = h := hh
  rw [hh] at HR1
  rw [hh2]
  have hgh : g + 1 < h := by have := B2.out.lt; omega
  have HH := Lib.hid hh2; clear hh hh2
  have b4 := (B3.out.set 0 (strV s)).set 1 (.slice (some ⟨h, 0, none⟩) n n)
  have o1 := own_set (own_set HR1.out hgh 0 (strV s)) hgh 1 (.slice (some ⟨h, 0, none⟩) n n)
  have hB3 : Below g w ((w1.setCell ⟨g + 1, 0, none⟩ (strV s)).setCell ⟨g + 1, 1, none⟩ (.slice (some ⟨h, 0, none⟩) n n)) := ((HW.out.trans (((below_drewN (Below.refl W.heap.size W) 1).trans (below_gr HG1.out)).mono (by rw [HH.out]; omega))).setCell (p := ⟨g + 1, 0, none⟩) (by show g ≤ g + 1; omega) _).setCell (p := ⟨g + 1, 1, none⟩) (by show g ≤ g + 1; omega) _
  generalize (w1.setCell ⟨g + 1, 0, none⟩ (strV s)).setCell ⟨g + 1, 1, none⟩ (.slice (some ⟨h, 0, none⟩) n n) = W3 at *
  have q0 : W3.cell? ⟨g + 1, 0, none⟩ = some (strV s) := b4.cell 0 rfl
  have q1 : W3.cell? ⟨g + 1, 1, none⟩ = some (.slice (some ⟨h, 0, none⟩) n n) := b4.cell 1 rfl
  refine bodyPost_ret (v := flV s (some ⟨h, 0, none⟩) n n) (by simp [results, Tryz.results125, go_sem, q0, q1]) rfl ?_
  exact ⟨h, rfl, own_mono o1 (by rw [HGS.out]; omega), by rw [HGS.out]; exact hB3⟩

end Tr
end Go.Proofs.YtfnhjflocfmcoaaGreat

namespace Go.Proofs.YtfnhjflocfmcoaaGreat
open Go.RowKit
set_option linter.unusedVariables false
namespace Tr
open Tx

theorem FCells.set {W : World} {g k c : Nat} {t1 t2 : TR} {xs : List Value} {x : FL} {A : Option Addr} (h : FCells W (some g) t1 xs) (hj : ∀ j y, j ≠ k → t2[j]? = some y → t1[j]? = some y) (hk : ∀ y, t2[k]? = some y → y = x)
    (hlen : k * 2 + 1 < xs.length) (hc : x.2.length ≤ c) (hr : RdX W (some g) A x.2) : FCells W (some g) t2 ((xs.set (k * 2) (strV x.1)).set (k * 2 + 1) (.slice A x.2.length c)) := by
  intro j y hy
  by_cases e : j = k
  · subst e
    obtain rfl := hk y hy
    refine ⟨A, c, ?_, ?_, hc, hr⟩
    · rw [List.getElem?_set_ne (by omega), List.getElem?_set_self (by omega)]
    · rw [List.getElem?_set_self (by rw [List.length_set]; omega)]
  · obtain ⟨A', c', h1, h2, h3, h4⟩ := h j y (hj j y e hy)
    refine ⟨A', c', ?_, ?_, h3, h4⟩
    · rw [List.getElem?_set_ne (by omega), List.getElem?_set_ne (by omega)]; exact h1
    · rw [List.getElem?_set_ne (by omega), List.getElem?_set_ne (by omega)]; exact h2

theorem store_file {W : World} {base g n cap k c : Nat} {t1 t2 : TR} {xs : List Value} {x : FL} {A : Option Addr} (hrow : W.ownsRow base 51 2 (.slice (some ⟨g, 0, none⟩) n cap) n xs) (hF : FCells W (some g) t1 xs)
    (hj : ∀ j y, j ≠ k → t2[j]? = some y → t1[j]? = some y) (hk : ∀ y, t2[k]? = some y → y = x) (hkn : k < n) (hc : x.2.length ≤ c) (hr : RdX W (some g) A x.2) :
    (∃ xs', ((W.setCell ⟨g, k * 2, none⟩ (strV x.1)).setCell ⟨g, k * 2 + 1, none⟩ (.slice A x.2.length c)).ownsRow base 51 2 (.slice (some ⟨g, 0, none⟩) n cap) n xs' ∧ FCells ((W.setCell ⟨g, k * 2, none⟩ (strV x.1)).setCell ⟨g, k * 2 + 1, none⟩ (.slice A x.2.length c)) (some g) t2 xs') ∧
      W.grownBy ((W.setCell ⟨g, k * 2, none⟩ (strV x.1)).setCell ⟨g, k * 2 + 1, none⟩ (.slice A x.2.length c)) (some g) := by
  obtain ⟨h1, g1⟩ := hrow.stored (k * 2) (strV x.1)
  obtain ⟨h2, g2⟩ := h1.stored (k * 2 + 1) (.slice A x.2.length c)
  have g3 : W.grownBy ((W.setCell ⟨g, k * 2, none⟩ (strV x.1)).setCell ⟨g, k * 2 + 1, none⟩ (.slice A x.2.length c)) (some g) := ⟨g2.os.trans g1.os, g2.tape.trans g1.tape, g2.output.trans g1.output, Nat.le_trans g1.size g2.size, fun i hi hne => (g2.block i (Nat.lt_of_lt_of_le hi g1.size) hne).trans (g1.block i hi hne)⟩
  refine ⟨⟨_, h2, ?_⟩, g3⟩
  exact (hF.set hj hk (by rw [hrow.1]; omega) hc hr).gr g3

/-- The cells where a file is stored. -/
theorem file_cells {W : World} {base g n cap k : Nat} {xs : List Value} (hrow : W.ownsRow base 51 2 (.slice (some ⟨g, 0, none⟩) n cap) n xs) (hkn : k < n) :
    ∃ u v, W.cell? ⟨g, k * 2, none⟩ = some u ∧ W.cell? ⟨g, k * 2 + 1, none⟩ = some v ∧ W.frozen? ⟨g, k * 2, none⟩ = false ∧ W.frozen? ⟨g, k * 2 + 1, none⟩ = false := by
  have h1 := hrow.cellAt (k * 2) (by omega)
  have h2 := hrow.cellAt (k * 2 + 1) (by omega)
  rw [List.getElem?_eq_getElem (by rw [hrow.1]; omega)] at h1 h2
  exact ⟨_, _, h1, h2, hrow.frozenAt _, hrow.frozenAt _⟩

/-- How again ends. -/
def AgainEnd (w : World) (n : Nat) (t : TR) (e : Ending) (w' : World) : Prop :=
  e = .returned (.slice (some ⟨w.heap.size, 0, none⟩) n n) ∧ (∃ xs, w'.ownsRow w.heap.size 51 2 (.slice (some ⟨w.heap.size, 0, none⟩) n n) n xs ∧ FCells w' (some w.heap.size) t xs) ∧ Below w.heap.size w w'

theorem again_next {w wr w2 : World} {g n k m h : Nat} {t : TR} {xs : List Value} {x : FL} {o : Obj} (hrow : wr.ownsRow g 51 2 (.slice (some ⟨g, 0, none⟩) n n) n xs) (hF : FCells wr (some g) (t.take k) xs) (hb : Below g w wr)
    (hk : k < t.length) (hn : t.length = n) (hx : t[k] = x) (hm : x.2.length = m) (hr : w2.ownsRow (wr.alloc o).heap.size 9 1 (.slice (some ⟨h, 0, none⟩) m m) m (x.2.map strV)) (hb2 : Below (wr.alloc o).heap.size (wr.alloc o) w2) :
    ∃ xs', ((w2.setCell ⟨g, k * 2, none⟩ (strV x.1)).setCell ⟨g, k * 2 + 1, none⟩ (.slice (some ⟨h, 0, none⟩) m m)).ownsRow g 51 2 (.slice (some ⟨g, 0, none⟩) n n) n xs' ∧
      FCells ((w2.setCell ⟨g, k * 2, none⟩ (strV x.1)).setCell ⟨g, k * 2 + 1, none⟩ (.slice (some ⟨h, 0, none⟩) m m)) (some g) (t.take (k + 1)) xs' ∧ Below g w ((w2.setCell ⟨g, k * 2, none⟩ (strV x.1)).setCell ⟨g, k * 2 + 1, none⟩ (.slice (some ⟨h, 0, none⟩) m m)) := by
  subst hm
  have hg : g < wr.heap.size := (hrow.lt g rfl).2
  have g1 := World.grownBy_alloc wr o none
  have g2 := below_gr_row hb2
  have hrow2 := own_gr (own_gr hrow g1) g2
  have hF2 := (hF.gr (gr_none g1)).gr (gr_none g2)
  obtain ⟨⟨xs', r1, r2⟩, r3⟩ := store_file (k := k) (t2 := t.take (k + 1)) (x := x) (A := some ⟨h, 0, none⟩) (c := x.2.length) hrow2 hF2 (fun j y hne hy => by
      rw [List.getElem?_take] at hy ⊢
      split at hy
      · rw [if_pos (by omega)]; exact hy
      · cases hy) (fun y hy => by
      rw [List.getElem?_take, if_pos (by omega), List.getElem?_eq_getElem hk] at hy
      injection hy with hy
      rw [← hy, hx]) (by omega) (Nat.le_refl _) (RdX.own hr (by simp; omega))
  refine ⟨xs', r1, r2, ?_⟩
  have hbb : Below g w w2 := (hb.alloc (Nat.le_of_lt hg) o).trans (hb2.mono (by simp; omega))
  exact (hbb.setCell (p := ⟨g, k * 2, none⟩) (Nat.le_refl _) _).setCell (p := ⟨g, k * 2 + 1, none⟩) (Nat.le_refl _) _

set_option maxHeartbeats 2000000 in
theorem againT (A : Option Addr) (c n B : Nat) (t : TR) (w : World) (hn : t.length = n) (hs : Wide t) (hB : B ≤ w.heap.size) (hR : RdT w B A t) :
    Calls Tryz.prog 124 #[.slice A n c, .func (.func 125) #[] #[]] w (AgainEnd w n t) := by
  have hln : n ≤ 3518437208800 := by rw [← hn]; exact hs.len
  have HN := Lib.hid hn; clear hn
  have HS := Lib.hid hs; clear hs
  have hmk : ∀ W : World, (Instr.makeSlice 43 (.int .i64 (n : Int)) (.int .i64 (n : Int))).run Tryz.prog W = .ok (.slice (some ⟨W.heap.size, 0, none⟩) n n) (W.alloc (.cells (madeCells #[.string ⟨#[]⟩, .slice none 0 0] (n * 2)) 51)) := by
    obtain ⟨i0, hi, hz0, hz1, hz2⟩ := info_parts info_file
    intro W
    have := run_make (P := Tryz.prog) W 43 51 i0 _ Tryz.underlying43 hi hz0 .i64 .i64 (n : Int) (n : Int) (by omega) (by omega) (by rw [hz2]; omega) (by omega)
    simp only [Int.toNat_natCast, hz1] at this
    exact this
  have hrow := World.ownsRow_lit (base := w.heap.size) (e := 51) (size := 2) w (madeCells #[.string ⟨#[]⟩, .slice none 0 0] (n * 2)) n (Nat.le_refl _) (by unfold maxLen; omega) (by rw [size_madeCells])
  have hb0 : Below w.heap.size w (w.alloc (.cells (madeCells #[.string ⟨#[]⟩, .slice none 0 0] (n * 2)) 51)) := (Below.refl _ _).alloc (Nat.le_refl _) _
  obtain ⟨Z, hZ⟩ : ∃ Z, madeCells #[.string ⟨#[]⟩, .slice none 0 0] (n * 2) = Z := ⟨_, rfl⟩
  rw [hZ] at hrow hb0
  have hmk' : ∀ W : World, (Instr.makeSlice 43 (.int .i64 (n : Int)) (.int .i64 (n : Int))).run Tryz.prog W = .ok (.slice (some ⟨W.heap.size, 0, none⟩) n n) (W.alloc (.cells Z 51)) := fun W => by rw [hmk W, hZ]
  clear hmk hZ
  have HROW := Lib.hid hrow; have HB0 := Lib.hid hb0; clear hrow hb0
  go_enter Tryz.func124, Tryz.ntmps124
  go_wp2_with fail
  clear hmk'
  obtain ⟨g, hg⟩ : ∃ g, w.heap.size = g := ⟨_, rfl⟩
  obtain ⟨w0, hw0⟩ : ∃ w0, w.alloc (.cells Z 51) = w0 := ⟨_, rfl⟩
  rw [hw0] at HROW HB0 ⊢
  rw [hg] at HROW HB0 ⊢
  have HG := Lib.hid hg; clear hg hw0
  go_loopw [13] (fun i wr => ∃ k : Nat, k ≤ n ∧ i = .int .i64 (k : Int) ∧ (∃ xs, wr.ownsRow g 51 2 (.slice (some ⟨g, 0, none⟩) n n) n xs ∧ FCells wr (some g) (t.take k) xs) ∧ Below g w wr) (fun i _ => n - (intOf i).toNat)
  case atStart => exact ⟨0, Nat.zero_le _, rfl, ⟨_, HROW.out, FCells.nil _ _ _⟩, HB0.out⟩
  case round =>
    obtain ⟨k, hk, rfl, ⟨xs, hrow, hF⟩, hb⟩ := hrel
    have HRW := Lib.hid hrow; have HF := Lib.hid hF; have HBW := Lib.hid hb; clear hrow hb hF
    by_cases hlt : k < n
    · have hkl : k < t.length := by rw [HN.out]; exact hlt
      obtain ⟨a, rfl, hab, hat⟩ := (hR.below (HBW.out.mono (by rw [← HG.out]; exact hB))).at_ hkl
      have hsm := HS.out.all _ (List.getElem_mem hkl)
      obtain ⟨x, hx⟩ : ∃ x, t[k] = x := ⟨_, rfl⟩
      rw [hx] at hat hsm
      have HX := Lib.hid hx; clear hx
      obtain ⟨c0, A1, c1, h1, hc1, hr1⟩ := hat
      obtain ⟨m, hm⟩ : ∃ m, x.2.length = m := ⟨_, rfl⟩
      have hm5 : m ≤ 8796093022208 := by rw [← hm]; exact Nat.le_trans hsm (by decide)
      rw [hm] at h1 hc1
      have HM := Lib.hid hm; have HR1 := Lib.hid hr1
      clear hm hr1 hsm
      have hgs := (HRW.out.lt g rfl).2
      have hBwr : B ≤ wr.heap.size := by rw [HG.out] at hB; omega
      go_wp2_with fail
      refine (file x.1 A1 c1 m B x.2 _ HM.out hm5 (Nat.le_trans hBwr (by simp)) (Rd.below HR1.out ((Below.refl _ _).alloc hBwr _))).mono ?_
      rintro e w2 ⟨h, rfl, hr2, hb2⟩
      have hnx := again_next HRW.out HF.out HBW.out hkl HN.out HX.out HM.out hr2 hb2
      obtain ⟨v0, v1, y0, y1, f0, f1⟩ := file_cells (own_gr (own_gr HRW.out (World.grownBy_alloc wr _ none)) (below_gr_row hb2)) hlt
      have HNX := Lib.hid hnx
      clear hnx hr2 hb2
      go_wp2
      go_roundw
      case rel =>
        obtain ⟨xs', n1, n2, n3⟩ := HNX.out
        exact ⟨k + 1, by omega, by go_num, ⟨xs', n1, n2⟩, n3⟩
      case measure => simp [intOf]; omega
    · obtain rfl : k = n := by omega
      have hF := HF.out
      rw [List.take_of_length_le (by rw [HN.out]; exact Nat.le_refl _)] at hF
      have HF2 := Lib.hid hF; clear hF
      go_wp2
      go_ret
      exact ⟨by rw [HG.out]; rfl, by rw [HG.out]; exact ⟨xs, HRW.out, HF2.out⟩, by rw [HG.out]; exact HBW.out⟩

end Tr
end Go.Proofs.YtfnhjflocfmcoaaGreat

namespace Go.Proofs.YtfnhjflocfmcoaaGreat
open Go.RowKit
set_option linter.unusedVariables false
namespace Tr
open Tx

/-- The files gone through, with the one that is put, if it is ahead of one of them. -/
def insTo (s : List UInt8) (l : List (List UInt8)) (t : TR) (k : Nat) (b : Bool) : TR := if b then ins Op.bytesLess (t.take k) s l else t.take k
theorem any_take {t : TR} {s : List UInt8} {k : Nat} (hk : k < t.length) : (t.take (k + 1)).any (gtN s) = ((t.take k).any (gtN s) || gtN s t[k]) := by
  rw [take_snoc' hk, List.any_append]; simp
theorem any_no {t : TR} {s : List UInt8} (h : t.any (gtN s) = false) : ∀ f ∈ t, Op.bytesLess s f.1 = false := fun f hf => by
  rw [List.any_eq_false] at h
  simpa [gtN] using h f hf
theorem any_yes {t : TR} {s : List UInt8} (h : t.any (gtN s) = true) : ∃ f ∈ t, Op.bytesLess s f.1 = true := by
  rw [List.any_eq_true] at h
  exact h
theorem insTo_past {s : List UInt8} {l : List (List UInt8)} {t : TR} {k : Nat} (hk : k < t.length) (h : (t.take k).any (gtN s) = true) : insTo s l t (k + 1) true = insTo s l t k true ++ [t[k]] := by
  unfold insTo
  rw [if_pos rfl, if_pos rfl, take_snoc' hk]
  exact ins_past (any_yes h)
theorem insTo_none {s : List UInt8} {l : List (List UInt8)} {t : TR} {k : Nat} (hk : k < t.length) : insTo s l t (k + 1) false = insTo s l t k false ++ [t[k]] := take_snoc' hk
theorem insTo_here {s : List UInt8} {l : List (List UInt8)} {t : TR} {k : Nat} (hk : k < t.length) (h : (t.take k).any (gtN s) = false) (hg : gtN s t[k] = true) : insTo s l t (k + 1) true = (insTo s l t k false ++ [(s, l)]) ++ [t[k]] := by
  unfold insTo
  rw [if_pos rfl, if_neg (by decide), take_snoc' hk, ins_here (any_no h) hg, List.append_assoc]
  rfl
theorem insTo_end {s : List UInt8} {l : List (List UInt8)} {t : TR} (h : t.any (gtN s) = false) : ins Op.bytesLess t s l = insTo s l t t.length false ++ [(s, l)] := by
  unfold insTo
  rw [if_neg (by decide), List.take_length]
  exact ins_none (any_no h)
theorem insTo_len {s : List UInt8} {l : List (List UInt8)} {t : TR} {k : Nat} {b : Bool} : (insTo s l t k b).length ≤ t.length + 1 := by
  unfold insTo
  split
  · rw [ins_len, List.length_take]; omega
  · rw [List.length_take]; omega

/-- A file in the place of another one, in a row that may have more room. -/
theorem put_upd2 {w w4 : World} {base g n cap k m c : Nat} {t : TR} {xs : List Value} {s : List UInt8} {l : List (List UInt8)} (hrow : w4.ownsRow base 51 2 (.slice (some ⟨g, 0, none⟩) n cap) n xs) (hF : FCells w4 (some g) t xs) (hn : t.length = n) (hi : ixF (isN s) t = some k)
    {A : Option Addr} (hm : l.length = m) (hc : m ≤ c) (hr : RdX w4 (some g) A l) (hb : Below w.heap.size w w4) (hbase : w.heap.size ≤ base) :
    TreeEnd w (upd t s l) (.returned (.slice (some ⟨g, 0, none⟩) n cap)) ((w4.setCell ⟨g, k * 2, none⟩ (strV s)).setCell ⟨g, k * 2 + 1, none⟩ (.slice A m c)) := by
  subst hm
  obtain ⟨hk, _⟩ := ixF_some hi
  have hu := upd_set (l := l) hi
  obtain ⟨⟨xs', r1, r2⟩, r3⟩ := store_file (k := k) (t2 := upd t s l) (x := (s, l)) (A := A) (c := c) hrow hF (fun j y hne hy => by
      rw [hu, List.getElem?_set_ne (fun e => hne e.symm)] at hy
      exact hy) (fun y hy => by
      rw [hu, List.getElem?_set_self hk] at hy
      injection hy with hy
      exact hy.symm) (by omega) hc hr
  have hlen : (upd t s l).length = n := by rw [upd_len]; exact hn
  refine treeEnd_own (base := base) ⟨xs', by rw [hlen]; exact r1, r2⟩ ?_
  have hg : w.heap.size ≤ g := Nat.le_trans hbase (hrow.lt g rfl).1
  exact (hb.setCell (p := ⟨g, k * 2, none⟩) hg _).setCell (p := ⟨g, k * 2 + 1, none⟩) hg _

set_option maxRecDepth 100000 in
set_option maxHeartbeats 4000000 in
theorem refPut (s : List UInt8) (A A' : Option Addr) (c n B m c' : Nat) (t : TR) (l : List (List UInt8)) (w : World) (hn : t.length = n) (hs : Small t) (h9 : n ≤ 50000) (hm : l.length = m) (hm5 : m ≤ 100000) (hB : B ≤ w.heap.size) (hR : RdT w B A t) (hR' : RdS w B A' l) :
    Calls Tryz.prog 66 #[.slice A n c, strV s, .slice A' m c'] w (TreeEnd w (put Op.bytesLess t s l)) := by
  obtain ⟨j0, hj, hy0, hy1, hy2⟩ := info_parts info_str
  have hln : n ≤ 100000 := by omega
  have hW := refWhere s A c n B t w hn hln hR
  obtain ⟨o, ho⟩ : ∃ o, ixF (isN s) t = o := ⟨_, rfl⟩
  rw [ho] at hW
  have HN := Lib.hid hn; have HM := Lib.hid hm; have HS := Lib.hid hs; have R := Lib.hid hR; have R' := Lib.hid hR'; have HW := Lib.hid hW; have HO := Lib.hid ho
  clear hn hm hs hR hR' hW ho
  go_enter Tryz.func66, Tryz.ntmps66
  go_wp2_with fail
  refine HW.out.mono ?_
  rintro e w1 ⟨rfl, rfl⟩
  have hchunk : ∀ w1 A1 c1, w1.ownsRow w.heap.size 9 1 (.slice A1 m c1) m (l.map strV) → w.grownBy w1 none → RdS w1 w1.heap.size A1 l ∧ m ≤ c1 ∧ Below w.heap.size w w1 := fun w1 A1 c1 h1 h2 => by
    obtain ⟨A2, c2, e, hc, hr⟩ := rd_of_own h1
    cases e
    exact ⟨hr, hc, below_gr h2⟩
  have HCH := Lib.hid hchunk; clear hchunk
  have HLM : Hid ((l.map strV).length = m) := Lib.hid (by rw [List.length_map]; exact HM.out)
  have hm6 : m ≤ maxLen := by unfold maxLen; omega
  have hm7 : m * 16 ≤ 140737488355328 := by omega
  have hw2 : ∀ w1 A1 c1, RdS w1 w1.heap.size A1 l → Below w.heap.size w w1 → Below w.heap.size w (w1.alloc (.cells #[strV s, .slice A1 m c1] 51)) ∧ Blk (w1.alloc (.cells #[strV s, .slice A1 m c1] 51)) w1.heap.size 51 #[strV s, .slice A1 m c1] ∧ RdS (w1.alloc (.cells #[strV s, .slice A1 m c1] 51)) (w1.alloc (.cells #[strV s, .slice A1 m c1] 51)).heap.size A1 l ∧ w1.heap.size < (w1.alloc (.cells #[strV s, .slice A1 m c1] 51)).heap.size := fun w1 A1 c1 h1 h2 =>
    have hb : Below w1.heap.size w1 (w1.alloc (.cells #[strV s, .slice A1 m c1] 51)) := (Below.refl _ _).alloc (Nat.le_refl _) _
    ⟨h2.trans (hb.mono h2.size), Blk.new _ _ _, (Rd.below h1 hb).up hb.size, by simp⟩
  have HW2 := Lib.hid hw2; clear hw2
  cases o with
  | some k =>
    have hkn : k < n := by have := (ixF_some HO.out).1; rw [HN.out] at this; exact this
    have hput : put Op.bytesLess t s l = upd t s l := by unfold put; rw [(get_ix HO.out).2.2.1]; rfl
    have HPUT := Lib.hid hput; clear hput
    have hn0 : ([] : TR).length + n ≤ 100000 := by show 0 + n ≤ _; omega
    have hn1 : 0 < n := by omega
    simp only [ixV]
    go_wp2_with (first
      | (at_builtin; refine wpList_nil' rfl (.const (.slice none 0 0)) (.tmp 17) 49 rfl 9 j0 (.string ⟨#[]⟩) 16 Tryz.underlying49 hj hy0 hy1 hy2 rfl rfl B A' m c' (l.map strV) rfl HLM.out R'.out (strs_one _) hm6 hm7 ?_; intro A1 c1 w1 hA hg;
          have hX := HCH.out w1 A1 c1 hA hg; have hY := HW2.out w1 A1 c1 hX.1 hX.2.2; obtain ⟨ys, y1, y2, y3⟩ := flat_cells (row := none) (RdT.below R.out (hY.1.mono hB)) (Nat.le_trans hB hY.1.size) (fun k e => by cases e); have HX := Lib.hid hX; have HY := Lib.hid hY; have Y1 := Lib.hid y1; have Y2 := Lib.hid y2; have Y3 := Lib.hid y3; clear hA hg hX hY y1 y2 y3)
      | (at_builtin; refine wpList_ownT rfl (.const (.slice none 0 0)) (.tmp 22) rfl (w1.alloc (.cells #[strV s, .slice A1 m c1] 51)).heap.size n c (.slice none 0 0) A [] t ys rfl rfl (ownT_nil _ _) Y2.out Y1.out Y3.out HN.out hn0 (Nat.le_refl _) ?_; intro v' W' ho hg; obtain ⟨xs, hrow, hF⟩ := ho; rw [List.nil_append] at hrow hF; rw [HN.out] at hrow; obtain ⟨g', cap, rfl, _, _⟩ := hrow.form hn1; obtain ⟨v0, v1, q0, q1, f0, f1⟩ := file_cells hrow hkn; have hbx := HY.out.2.1.gr hg (nn _); have x0 : W'.cell? ⟨w1.heap.size, 0, none⟩ = some (strV s) := hbx.cell 0 rfl; have x1 : W'.cell? ⟨w1.heap.size, 1, none⟩ = some (.slice A1 m c1) := hbx.cell 1 rfl;
          have hte := put_upd2 (w := w) (k := k) (s := s) (l := l) (A := A1) (m := m) (c := c1) hrow hF HN.out HO.out HM.out HX.out.2.1 (RdX.of (Rd.below HY.out.2.2.1 ((Below.refl _ _).grown hg (Nat.le_refl _) (fun k e => by cases e))) hg.size (fun k e => by injection e with e; subst e; exact (hrow.lt _ rfl).1)) (HY.out.1.grown hg HY.out.1.size (fun k e => by cases e)) HY.out.1.size; have HTE := Lib.hid hte; clear hrow hF hg hbx hte))
    go_ret
    rw [HPUT.out]
    exact HTE.out
  | none =>
    have hput : put Op.bytesLess t s l = ins Op.bytesLess t s l := by unfold put; rw [get_ix_none HO.out]; rfl
    have HPUT := Lib.hid hput; clear hput
    simp only [ixV]
    go_wp2_with (first
      | (at_builtin; refine wpList_nil' rfl (.const (.slice none 0 0)) (.tmp 17) 49 rfl 9 j0 (.string ⟨#[]⟩) 16 Tryz.underlying49 hj hy0 hy1 hy2 rfl rfl B A' m c' (l.map strV) rfl HLM.out R'.out (strs_one _) hm6 hm7 ?_; intro A1 c1 w1 hA hg;
          have hX := HCH.out w1 A1 c1 hA hg; have hY := HW2.out w1 A1 c1 hX.1 hX.2.2; have HX := Lib.hid hX; have HY := Lib.hid hY; clear hA hg hX hY))
    obtain ⟨fb, hfb⟩ : ∃ fb, w1.heap.size = fb := ⟨_, rfl⟩
    obtain ⟨w2, hw2⟩ : ∃ w2, w1.alloc (.cells #[strV s, .slice A1 m c1] 51) = w2 := ⟨_, rfl⟩
    have hY := HY.out
    rw [hw2, hfb] at hY
    rw [hw2, hfb]
    have hc1 : m ≤ c1 := HX.out.2.1
    have HBL := Lib.hid hY.2.1; have HRL := Lib.hid hY.2.2.1; have HB2 := Lib.hid hY.1; have hfg := hY.2.2.2
    clear hw2 hfb HX HY hY
    obtain ⟨g, hg⟩ : ∃ g, w2.heap.size = g := ⟨_, rfl⟩
    rw [hg] at HRL hfg
    have HG := Lib.hid hg
    have hBg : B ≤ g := by rw [← hg]; exact Nat.le_trans hB HB2.out.size
    clear hg
    have R2 := Lib.hid (RdT.below R.out (HB2.out.mono hB))
    go_loopw [10, 11, 12] (fun v d i wr => ∃ (k : Nat) (b : Bool), k ≤ n ∧ i = .int .i64 (k : Int) ∧ d = .bool b ∧ b = (t.take k).any (gtN s) ∧ OwnT wr g v (insTo s l t k b) ∧ Below g w2 wr) (fun _ _ i _ => n - (intOf i).toNat)
    case atStart => exact ⟨0, false, Nat.zero_le _, rfl, rfl, by simp, ownT_nil _ _, Below.refl _ _⟩
    case round =>
      obtain ⟨k, b, hk, rfl, rfl, hb, hown, hbw⟩ := hrel
      have HOWN := Lib.hid hown; have HBW := Lib.hid hbw; have HBB := Lib.hid hb
      clear hown hbw hb
      have hgw : g ≤ wr.heap.size := by have := HBW.out.size; rw [HG.out] at this; exact this
      have hbl := HBL.out.below HBW.out hfg
      have x0 : wr.cell? ⟨fb, 0, none⟩ = some (strV s) := hbl.cell 0 rfl
      have x1 : wr.cell? ⟨fb, 1, none⟩ = some (.slice A1 m c1) := hbl.cell 1 rfl
      have hrl := Rd.below HRL.out HBW.out
      have hlen := insTo_len (s := s) (l := l) (t := t) (k := k) (b := b)
      rw [HN.out] at hlen
      clear hbl
      by_cases hlt : k < n
      · have hkl : k < t.length := by rw [HN.out]; exact hlt
        obtain ⟨a, rfl, hab, hat⟩ := (RdT.below R2.out (HBW.out.mono hBg)).at_ hkl
        have hany := any_take (s := s) hkl
        have hpast := insTo_past (s := s) (l := l) hkl
        have hnone := insTo_none (s := s) (l := l) hkl
        have hhere := insTo_here (s := s) (l := l) hkl
        obtain ⟨x, hx⟩ : ∃ x, t[k] = x := ⟨_, rfl⟩
        rw [hx] at hat hany hpast hnone hhere
        clear hx
        obtain ⟨c0, A2, c2, k1, hc2, r1⟩ := hat
        obtain ⟨m2, hm2⟩ : ∃ m, x.2.length = m := ⟨_, rfl⟩
        rw [hm2] at k1 hc2
        rw [← HBB.out] at hany hpast hhere
        cases b with
        | true =>
          obtain ⟨D, hDe⟩ : ∃ D, insTo s l t k true = D := ⟨_, rfl⟩
          have hd := hpast rfl
          rw [hDe] at hd hlen
          have hown := HOWN.out
          rw [hDe] at hown
          obtain ⟨s1, s2, s3, s4⟩ := one_src (t := 51) hown hm2 hc2 r1 hBg hgw
          have hba : Below g w2 (wr.alloc (.cells #[strV x.1, .slice A2 m2 c2] 51)) := HBW.out.alloc hgw _
          have hge := ownT_ge hown
          have HD := Lib.hid hd; have S1 := Lib.hid s1; have S2 := Lib.hid s2; have S3 := Lib.hid s3; have HBA := Lib.hid hba; have HGE := Lib.hid hge; have HAN := Lib.hid hany
          have hdn : D.length + 1 ≤ 100000 := by omega
          clear hd s1 s2 s3 hba hm2 r1 hown hge hDe hany hpast hnone hhere hrl
          go_wp2_with (at_builtin; refine wpList_ownT rfl (.tmp 50) (.tmp 55) rfl g 1 1 u10 (some ⟨wr.heap.size, 0, none⟩) D [x] [strV x.1, .slice A2 m2 c2] rfl rfl S1.out S2.out rfl (.inr ⟨_, rfl, S3.out⟩) rfl hdn s4 ?_; intro v' W' ho hg; have HO2 := Lib.hid ho; have HB3 := Lib.hid (HBA.out.grown hg s4 HGE.out); clear ho hg)
          go_roundw
          case rel => exact ⟨k + 1, true, by omega, by go_num, rfl, by rw [HAN.out]; rfl, by rw [HD.out]; exact HO2.out, HB3.out⟩
          case measure => simp [intOf]; omega
        | false =>
          cases hgt : gtN s x with
          | false =>
            have h1 : Op.bytesLess s x.1 = false := hgt
            have h2 : (!Op.bytesLess x.1 s && !(x.1 == s)) = false := by rw [gt_eq]; exact hgt
            obtain ⟨D, hDe⟩ : ∃ D, insTo s l t k false = D := ⟨_, rfl⟩
            have hd := hnone
            rw [hDe] at hd hlen
            have hown := HOWN.out
            rw [hDe] at hown
            rw [hgt] at hany
            obtain ⟨s1, s2, s3, s4⟩ := one_src (t := 51) hown hm2 hc2 r1 hBg hgw
            have hba : Below g w2 (wr.alloc (.cells #[strV x.1, .slice A2 m2 c2] 51)) := HBW.out.alloc hgw _
            have hge := ownT_ge hown
            have HD := Lib.hid hd; have S1 := Lib.hid s1; have S2 := Lib.hid s2; have S3 := Lib.hid s3; have HBA := Lib.hid hba; have HGE := Lib.hid hge; have HAN := Lib.hid hany
            have hdn : D.length + 1 ≤ 100000 := by omega
            clear hd s1 s2 s3 hba hm2 r1 hown hge hDe hany hpast hnone hhere hrl hgt
            go_wp2_with (at_builtin; refine wpList_ownT rfl (.tmp 50) (.tmp 55) rfl g 1 1 u10 (some ⟨wr.heap.size, 0, none⟩) D [x] [strV x.1, .slice A2 m2 c2] rfl rfl S1.out S2.out rfl (.inr ⟨_, rfl, S3.out⟩) rfl hdn s4 ?_; intro v' W' ho hg; have HO2 := Lib.hid ho; have HB3 := Lib.hid (HBA.out.grown hg s4 HGE.out); clear ho hg)
            go_roundw
            case rel => exact ⟨k + 1, false, by omega, by go_num, rfl, by rw [HAN.out]; rfl, by rw [HD.out]; exact HO2.out, HB3.out⟩
            case measure => simp [intOf]; omega
          | true =>
            have h1 : Op.bytesLess s x.1 = true := hgt
            have h2 : (!Op.bytesLess x.1 s && !(x.1 == s)) = true := by rw [gt_eq]; exact hgt
            obtain ⟨D, hDe⟩ : ∃ D, insTo s l t k false = D := ⟨_, rfl⟩
            have hd := hhere rfl hgt
            rw [hDe] at hd hlen
            have hown := HOWN.out
            rw [hDe] at hown
            rw [hgt] at hany
            obtain ⟨p1, p2, p3, p4⟩ := one_src (x := (s, l)) (t := 51) hown HM.out hc1 hrl (Nat.le_refl _) hgw
            have hba : Below g w2 (wr.alloc (.cells #[strV s, .slice A1 m c1] 51)) := HBW.out.alloc hgw _
            have hge := ownT_ge hown
            have habg : a.block < g := Nat.lt_of_lt_of_le hab hBg
            have hxc : ∀ W, Below g wr W → W.cell? (a.add (k * 2)) = some (strV x.1) ∧ W.cell? ⟨(a.add (k * 2)).block, (a.add (k * 2)).off + 1, none⟩ = some (.slice A2 m2 c2) ∧ RdS W B A2 x.2 := fun W hb =>
              ⟨(hb.cell (by rw [add_block]; exact habg)).trans c0, (hb.cell (by show (a.add (k * 2)).block < g; rw [add_block]; exact habg)).trans k1, Rd.below r1 (hb.mono hBg)⟩
            have hsrc : ∀ W v1, OwnT W g v1 (D ++ [(s, l)]) → Below g w2 W → RdS W B A2 x.2 → OwnT (W.alloc (.cells #[strV x.1, .slice A2 m2 c2] 51)) g v1 (D ++ [(s, l)]) ∧ FCells (W.alloc (.cells #[strV x.1, .slice A2 m2 c2] 51)) v1.ownBlock [x] [strV x.1, .slice A2 m2 c2] ∧ (∀ j u, ([strV x.1, .slice A2 m2 c2] : List Value)[j]? = some u → (W.alloc (.cells #[strV x.1, .slice A2 m2 c2] 51)).cell? ((⟨W.heap.size, 0, none⟩ : Addr).add j) = some u) ∧ g ≤ (W.alloc (.cells #[strV x.1, .slice A2 m2 c2] 51)).heap.size ∧ Below g w2 (W.alloc (.cells #[strV x.1, .slice A2 m2 c2] 51)) := fun W v1 h1 h2 h3 =>
              have hz : g ≤ W.heap.size := by have := h2.size; rw [HG.out] at this; exact this
              have z := one_src (t := 51) h1 hm2 hc2 h3 hBg hz
              ⟨z.1, z.2.1, z.2.2.1, z.2.2.2, h2.alloc hz _⟩
            have hwr : ∀ W, (wr.alloc (.cells #[strV s, .slice A1 m c1] 51)).grownBy W u10.ownBlock → Below g wr W := fun W h => ((Below.refl g wr).alloc hgw _).grown h p4 hge
            have HD := Lib.hid hd; have P1 := Lib.hid p1; have P2 := Lib.hid p2; have P3 := Lib.hid p3; have HBA := Lib.hid hba; have HGE := Lib.hid hge; have HAN := Lib.hid hany; have HXC := Lib.hid hxc; have HSRC := Lib.hid hsrc; have HWR := Lib.hid hwr
            have hdn : D.length + 1 ≤ 100000 := by omega
            have hdn2 : (D ++ [(s, l)]).length + 1 ≤ 100000 := by rw [List.length_append]; show D.length + 1 + 1 ≤ _; omega
            have HDN2 := Lib.hid hdn2
            clear hd p1 p2 p3 hba hm2 r1 hown hge hDe hany hpast hnone hhere hrl hgt hxc hsrc hdn2 hwr
            go_wp2_with (first
              | (at_builtin; refine wpList_ownT rfl (.tmp 46) (.tmp 48) rfl g 1 1 u10 (some ⟨wr.heap.size, 0, none⟩) D [(s, l)] [strV s, .slice A1 m c1] rfl rfl P1.out P2.out rfl (.inr ⟨_, rfl, P3.out⟩) rfl hdn p4 ?_; intro v1 W1 ho hg; have hb3 := HBA.out.grown hg p4 HGE.out; obtain ⟨y0, y1, y2⟩ := HXC.out W1 (HWR.out W1 hg); obtain ⟨s1, s2, s3, s4, s5⟩ := HSRC.out W1 v1 ho hb3 y2; have hge1 := ownT_ge ho; have S1 := Lib.hid s1; have S2 := Lib.hid s2; have S3 := Lib.hid s3; have S5 := Lib.hid s5; have HGE1 := Lib.hid hge1; clear ho hg hb3 y2 s1 s2 s3 s5 hge1)
              | (at_builtin; refine wpList_ownT rfl (.tmp 50) (.tmp 55) rfl g 1 1 v1 (some ⟨W1.heap.size, 0, none⟩) (D ++ [(s, l)]) [x] [strV x.1, .slice A2 m2 c2] rfl rfl S1.out S2.out rfl (.inr ⟨_, rfl, S3.out⟩) rfl HDN2.out s4 ?_; intro v' W' ho hg; have HO2 := Lib.hid ho; have HB3 := Lib.hid (S5.out.grown hg s4 HGE1.out); clear ho hg))
            go_roundw
            case rel => exact ⟨k + 1, true, by omega, by go_num, rfl, by rw [HAN.out]; rfl, by rw [HD.out]; exact HO2.out, HB3.out⟩
            case measure => simp [intOf]; omega
      · obtain rfl : k = n := by omega
        have hfin : ∀ v' W', OwnT W' g v' (ins Op.bytesLess t s l) → Below g w2 W' → TreeEnd w (put Op.bytesLess t s l) (.returned v') W' := fun v' W' h1 h2 => by
          rw [HPUT.out]
          exact treeEnd_own h1 (HB2.out.trans (h2.mono (by have := HB2.out.size; rw [HG.out] at this; exact this)))
        have HFIN := Lib.hid hfin; clear hfin
        have htl : t.take k = t := List.take_of_length_le (by rw [HN.out]; exact Nat.le_refl _)
        have hbb := HBB.out
        rw [htl] at hbb
        cases b with
        | true =>
          have hown := HOWN.out
          rw [show insTo s l t k true = ins Op.bytesLess t s l by unfold insTo; rw [if_pos rfl, htl]] at hown
          have HTE := Lib.hid (HFIN.out _ _ hown HBW.out)
          clear hown htl hbb
          go_wp2
          go_ret
          exact HTE.out
        | false =>
          have hend := insTo_end (s := s) (l := l) hbb.symm
          rw [HN.out] at hend
          obtain ⟨D, hDe⟩ : ∃ D, insTo s l t k false = D := ⟨_, rfl⟩
          rw [hDe] at hend hlen
          have hown := HOWN.out
          rw [hDe] at hown
          obtain ⟨p1, p2, p3, p4⟩ := one_src (x := (s, l)) (t := 51) hown HM.out hc1 hrl (Nat.le_refl _) hgw
          have hba : Below g w2 (wr.alloc (.cells #[strV s, .slice A1 m c1] 51)) := HBW.out.alloc hgw _
          have hge := ownT_ge hown
          have HEND := Lib.hid hend; have P1 := Lib.hid p1; have P2 := Lib.hid p2; have P3 := Lib.hid p3; have HBA := Lib.hid hba; have HGE := Lib.hid hge
          have hdn : D.length + 1 ≤ 100000 := by omega
          clear hend p1 p2 p3 hba hown hge hDe htl hbb hrl
          go_wp2_with (at_builtin; refine wpList_ownT rfl (.tmp 59) (.tmp 61) rfl g 1 1 u10 (some ⟨wr.heap.size, 0, none⟩) D [(s, l)] [strV s, .slice A1 m c1] rfl rfl P1.out P2.out rfl (.inr ⟨_, rfl, P3.out⟩) rfl hdn p4 ?_; intro v' W' ho hg; rw [← HEND.out] at ho; have HTE := Lib.hid (HFIN.out v' W' ho (HBA.out.grown hg p4 HGE.out)); clear ho hg)
          go_ret
          exact HTE.out

end Tr
end Go.Proofs.YtfnhjflocfmcoaaGreat

namespace Go.Proofs.YtfnhjflocfmcoaaGreat
open Go.RowKit
set_option linter.unusedVariables false
namespace Tr
open Tx

end Tr
end Go.Proofs.YtfnhjflocfmcoaaGreat

namespace Go.Proofs.YtfnhjflocfmcoaaGreat
open Go.ChangeShapes Go.WideShapes Go.ChangeAt Go.RowKit Go.Deep
set_option linter.unusedVariables false
namespace Tr
open Tx

section
variable {H : Type} {enc : TypeId × Value → H} {W : World} {base : Nat} {spare : Nat → Bool} {held : Bool}

end

end Tr
end Go.Proofs.YtfnhjflocfmcoaaGreat

namespace Go.Proofs.YtfnhjflocfmcoaaGreat
open Go.RowKit
set_option linter.unusedVariables false
namespace Tr
open Tx

theorem find1 (s nm : List UInt8) (A : Option Addr) (n c b : Nat) (W : World) (hb : b < W.heap.size) (hc : W.cell? ⟨b, 0, none⟩ = some (strV nm)) :
    Calls Tryz.prog 138 #[flV s A n c, .pointer (some ⟨b, 0, none⟩)] W (BoolEnd W (decide (s = nm))) := by
  go_enter Tryz.func138, Tryz.ntmps138
  go_wp2
  go_ret
  exact ⟨ret_bool (by rw [Bool.eq_iff_iff]; simp), (Below.refl _ _).alloc (Nat.le_refl _) _⟩

theorem place1 (s nm : List UInt8) (A : Option Addr) (n c b : Nat) (W : World) (hb : b < W.heap.size) (hc : W.cell? ⟨b, 0, none⟩ = some (strV nm)) :
    Calls Tryz.prog 141 #[flV s A n c, .pointer (some ⟨b, 0, none⟩)] W (BoolEnd W (Op.bytesLess nm s)) := by
  go_enter Tryz.func141, Tryz.ntmps141
  go_wp2
  go_ret
  exact ⟨ret_bool (gt_eq s nm), (Below.refl _ _).alloc (Nat.le_refl _) _⟩

set_option maxHeartbeats 1000000 in
/-- slices.IndexFunc at the closure of find. -/
theorem Index_find (nm : List UInt8) (A : Option Addr) (c n b B : Nat) (t : TR) (w : World) (hn : t.length = n) (hln : n ≤ 3518437208800) (hB : B ≤ w.heap.size) (hR : RdT w B A t) (hb : b < w.heap.size) (hcb : w.cell? ⟨b, 0, none⟩ = some (strV nm)) :
    Calls Tryz.prog 137 #[.slice A n c, .func (.func 138) #[] #[.pointer (some ⟨b, 0, none⟩)]] w (IntEnd w (ixV (ixF (isN nm) t))) := by
  have HN := Lib.hid hn; clear hn
  obtain ⟨g, hg⟩ : ∃ g, w.heap.size = g := ⟨_, rfl⟩
  unfold IntEnd
  rw [hg]
  have HG := Lib.hid hg; clear hg
  have HC := Lib.hid hcb; clear hcb
  obtain ⟨iv, hiv⟩ : ∃ iv, ixV (ixF (isN nm) t) = iv := ⟨_, rfl⟩
  rw [hiv]
  have HIV := Lib.hid hiv; clear hiv
  go_enter Tryz.func137, Tryz.ntmps137
  go_wp2_with fail
  go_loopw [8] (fun i wr => ∃ k : Nat, k ≤ n ∧ i = .int .i64 (k : Int) ∧ (∀ j (hj : j < t.length), j < k → isN nm t[j] = false) ∧ Below g w wr) (fun i _ => n - (intOf i).toNat)
  case atStart => exact ⟨0, Nat.zero_le _, rfl, fun j _ hj => by omega, Below.refl _ _⟩
  case round =>
    obtain ⟨k, hk, rfl, hall, hbw⟩ := hrel
    have HA := Lib.hid hall; have HBW := Lib.hid hbw; clear hall hbw
    by_cases hlt : k < n
    · have hkl : k < t.length := by rw [HN.out]; exact hlt
      obtain ⟨a, rfl, hab, hat⟩ := (hR.below (HBW.out.mono (by rw [← HG.out]; exact hB))).at_ hkl
      obtain ⟨x, hx⟩ : ∃ x, t[k] = x := ⟨_, rfl⟩
      rw [hx] at hat
      have HX := Lib.hid hx; clear hx
      obtain ⟨c0, A1, c1, h1, _, _⟩ := hat
      generalize x.2.length = m at h1
      have hsz := HBW.out.size
      have hbwr : b < wr.heap.size := by rw [HG.out] at hb; rw [HG.out] at hsz; omega
      have hcell : wr.cell? ⟨b, 0, none⟩ = some (strV nm) := (HBW.out.cell (p := ⟨b, 0, none⟩) (by rw [← HG.out]; exact hb)).trans HC.out
      have HCELL := Lib.hid hcell
      clear hcell
      cases hq : isN nm x with
      | true =>
        have HE : Hid (iv = (k : Int)) := Lib.hid (by rw [← HIV.out, ixF_at hkl (by rw [HX.out]; exact hq) fun j hj => HA.out j (by omega) hj]; rfl)
        have HQ := Lib.hid hq; clear hq
        go_wp2_with fail
        refine (find1 x.1 nm A1 m c1 b wr hbwr HCELL.out).mono ?_
        rintro e w2 ⟨rfl, hb2⟩
        have hv : decide (x.1 = nm) = true := HQ.out
        rw [hv]
        clear hv
        have HB2 := Lib.hid (HBW.out.trans (hb2.mono (by rw [HG.out] at hsz; exact hsz)))
        clear hb2
        go_wp2
        go_ret
        exact ⟨by rw [HE.out]; rfl, HB2.out⟩
      | false =>
        have HQ := Lib.hid hq; clear hq
        go_wp2_with fail
        refine (find1 x.1 nm A1 m c1 b wr hbwr HCELL.out).mono ?_
        rintro e w2 ⟨rfl, hb2⟩
        have hv : decide (x.1 = nm) = false := HQ.out
        rw [hv]
        clear hv
        have HB2 := Lib.hid (HBW.out.trans (hb2.mono (by rw [HG.out] at hsz; exact hsz)))
        clear hb2
        go_wp2
        go_roundw
        case rel =>
          exact ⟨k + 1, by omega, by go_num, fun j hjl hj => by
            by_cases e : j = k
            · subst e; rw [HX.out]; exact HQ.out
            · exact HA.out j hjl (by omega), HB2.out⟩
        case measure => simp [intOf]; omega
    · obtain rfl : k = n := by omega
      have HE : Hid (iv = -1) := Lib.hid (by rw [← HIV.out, ixF_no fun j hj => HA.out j hj (by rw [← HN.out]; exact hj)]; rfl)
      go_wp2
      go_ret
      exact ⟨by rw [HE.out]; rfl, HBW.out⟩

set_option maxHeartbeats 1000000 in
/-- slices.IndexFunc at the closure of place. -/
theorem Index_place (nm : List UInt8) (A : Option Addr) (c n b B : Nat) (t : TR) (w : World) (hn : t.length = n) (hln : n ≤ 3518437208800) (hB : B ≤ w.heap.size) (hR : RdT w B A t) (hb : b < w.heap.size) (hcb : w.cell? ⟨b, 0, none⟩ = some (strV nm)) :
    Calls Tryz.prog 137 #[.slice A n c, .func (.func 141) #[] #[.pointer (some ⟨b, 0, none⟩)]] w (IntEnd w (ixV (ixF (gtN nm) t))) := by
  have HN := Lib.hid hn; clear hn
  obtain ⟨g, hg⟩ : ∃ g, w.heap.size = g := ⟨_, rfl⟩
  unfold IntEnd
  rw [hg]
  have HG := Lib.hid hg; clear hg
  have HC := Lib.hid hcb; clear hcb
  obtain ⟨iv, hiv⟩ : ∃ iv, ixV (ixF (gtN nm) t) = iv := ⟨_, rfl⟩
  rw [hiv]
  have HIV := Lib.hid hiv; clear hiv
  go_enter Tryz.func137, Tryz.ntmps137
  go_wp2_with fail
  go_loopw [8] (fun i wr => ∃ k : Nat, k ≤ n ∧ i = .int .i64 (k : Int) ∧ (∀ j (hj : j < t.length), j < k → gtN nm t[j] = false) ∧ Below g w wr) (fun i _ => n - (intOf i).toNat)
  case atStart => exact ⟨0, Nat.zero_le _, rfl, fun j _ hj => by omega, Below.refl _ _⟩
  case round =>
    obtain ⟨k, hk, rfl, hall, hbw⟩ := hrel
    have HA := Lib.hid hall; have HBW := Lib.hid hbw; clear hall hbw
    by_cases hlt : k < n
    · have hkl : k < t.length := by rw [HN.out]; exact hlt
      obtain ⟨a, rfl, hab, hat⟩ := (hR.below (HBW.out.mono (by rw [← HG.out]; exact hB))).at_ hkl
      obtain ⟨x, hx⟩ : ∃ x, t[k] = x := ⟨_, rfl⟩
      rw [hx] at hat
      have HX := Lib.hid hx; clear hx
      obtain ⟨c0, A1, c1, h1, _, _⟩ := hat
      generalize x.2.length = m at h1
      have hsz := HBW.out.size
      have hbwr : b < wr.heap.size := by rw [HG.out] at hb; rw [HG.out] at hsz; omega
      have hcell : wr.cell? ⟨b, 0, none⟩ = some (strV nm) := (HBW.out.cell (p := ⟨b, 0, none⟩) (by rw [← HG.out]; exact hb)).trans HC.out
      have HCELL := Lib.hid hcell
      clear hcell
      cases hq : gtN nm x with
      | true =>
        have HE : Hid (iv = (k : Int)) := Lib.hid (by rw [← HIV.out, ixF_at hkl (by rw [HX.out]; exact hq) fun j hj => HA.out j (by omega) hj]; rfl)
        have HQ := Lib.hid hq; clear hq
        go_wp2_with fail
        refine (place1 x.1 nm A1 m c1 b wr hbwr HCELL.out).mono ?_
        rintro e w2 ⟨rfl, hb2⟩
        have hv : Op.bytesLess nm x.1 = true := HQ.out
        rw [hv]
        clear hv
        have HB2 := Lib.hid (HBW.out.trans (hb2.mono (by rw [HG.out] at hsz; exact hsz)))
        clear hb2
        go_wp2
        go_ret
        exact ⟨by rw [HE.out]; rfl, HB2.out⟩
      | false =>
        have HQ := Lib.hid hq; clear hq
        go_wp2_with fail
        refine (place1 x.1 nm A1 m c1 b wr hbwr HCELL.out).mono ?_
        rintro e w2 ⟨rfl, hb2⟩
        have hv : Op.bytesLess nm x.1 = false := HQ.out
        rw [hv]
        clear hv
        have HB2 := Lib.hid (HBW.out.trans (hb2.mono (by rw [HG.out] at hsz; exact hsz)))
        clear hb2
        go_wp2
        go_roundw
        case rel =>
          exact ⟨k + 1, by omega, by go_num, fun j hjl hj => by
            by_cases e : j = k
            · subst e; rw [HX.out]; exact HQ.out
            · exact HA.out j hjl (by omega), HB2.out⟩
        case measure => simp [intOf]; omega
    · obtain rfl : k = n := by omega
      have HE : Hid (iv = -1) := Lib.hid (by rw [← HIV.out, ixF_no fun j hj => HA.out j hj (by rw [← HN.out]; exact hj)]; rfl)
      go_wp2
      go_ret
      exact ⟨by rw [HE.out]; rfl, HBW.out⟩

theorem find (s : List UInt8) (A : Option Addr) (c n B : Nat) (t : TR) (w : World) (hn : t.length = n) (hln : n ≤ 3518437208800) (hB : B ≤ w.heap.size) (hR : RdT w B A t) :
    Calls Tryz.prog 121 #[.slice A n c, strV s] w (IntEnd w (ixV (ixF (isN s) t))) := by
  have HN := Lib.hid hn; clear hn
  obtain ⟨iv, hiv⟩ : ∃ iv, ixV (ixF (isN s) t) = iv := ⟨_, rfl⟩
  have hI := fun W hB hR hb hcb => Index_find s A c n w.heap.size B t W HN.out hln hB hR hb hcb
  rw [hiv] at hI ⊢
  have HI := Lib.hid hI
  clear hiv hI
  go_enter Tryz.func121, Tryz.ntmps121
  go_wp2_with fail
  refine (HI.out (w.alloc (.cells #[strV s] 9)) (Nat.le_trans hB (by simp)) (hR.below ((Below.refl _ _).alloc hB _)) (by simp) ((Blk.new w 9 #[strV s]).cell 0 rfl)).mono ?_
  rintro e w' ⟨rfl, hb⟩
  go_wp2
  go_ret
  exact ⟨rfl, ((Below.refl _ _).alloc (Nat.le_refl _) _).trans (hb.mono (by simp))⟩

theorem place (s : List UInt8) (A : Option Addr) (c n B : Nat) (t : TR) (w : World) (hn : t.length = n) (hln : n ≤ 3518437208800) (hB : B ≤ w.heap.size) (hR : RdT w B A t) :
    Calls Tryz.prog 127 #[.slice A n c, strV s] w (IntEnd w (((ixF (gtN s) t).getD n : Nat) : Int)) := by
  have HN := Lib.hid hn; clear hn
  have hI := fun W hB hR hb hcb => Index_place s A c n w.heap.size B t W HN.out hln hB hR hb hcb
  obtain ⟨o, ho⟩ : ∃ o, ixF (gtN s) t = o := ⟨_, rfl⟩
  rw [ho] at hI ⊢
  have HI := Lib.hid hI
  clear ho hI
  cases o with
  | none =>
    go_enter Tryz.func127, Tryz.ntmps127
    go_wp2_with fail
    refine (HI.out (w.alloc (.cells #[strV s] 9)) (Nat.le_trans hB (by simp)) (hR.below ((Below.refl _ _).alloc hB _)) (by simp) ((Blk.new w 9 #[strV s]).cell 0 rfl)).mono ?_
    rintro e w' ⟨rfl, hb⟩
    simp only [ixV]
    go_wp2
    go_ret
    exact ⟨rfl, ((Below.refl _ _).alloc (Nat.le_refl _) _).trans (hb.mono (by simp))⟩
  | some k =>
    go_enter Tryz.func127, Tryz.ntmps127
    go_wp2_with fail
    refine (HI.out (w.alloc (.cells #[strV s] 9)) (Nat.le_trans hB (by simp)) (hR.below ((Below.refl _ _).alloc hB _)) (by simp) ((Blk.new w 9 #[strV s]).cell 0 rfl)).mono ?_
    rintro e w' ⟨rfl, hb⟩
    simp only [ixV]
    go_wp2
    go_ret
    exact ⟨rfl, ((Below.refl _ _).alloc (Nat.le_refl _) _).trans (hb.mono (by simp))⟩

end Tr
end Go.Proofs.YtfnhjflocfmcoaaGreat

namespace Go.Proofs.YtfnhjflocfmcoaaGreat
open Go.RowKit
set_option linter.unusedVariables false
namespace Tr
open Tx

set_option maxHeartbeats 1000000 in
theorem GetH (s : List UInt8) (A : Option Addr) (c n B : Nat) (t : TR) (w : World) (hn : t.length = n) (hs : Wide t) (hB : B ≤ w.heap.size) (hR : RdT w B A t) :
    Calls Tryz.prog 103 #[.slice A n c, strV s] w (GetEndH w (get t s)) := by
  have hln : n ≤ 3518437208800 := by rw [← hn]; exact hs.len
  have hF := fun w hB hR => find s A c n B t w hn hln hB hR
  have HN := Lib.hid hn; clear hn
  have HS := Lib.hid hs; clear hs
  cases hi : ixF (isN s) t with
  | none =>
    have HE := Lib.hid (get_ix_none hi)
    rw [hi] at hF
    have HF := Lib.hid hF; clear hF hi
    go_enter Tryz.func103, Tryz.ntmps103
    go_wp2_with fail
    refine (HF.out w hB hR).mono ?_
    rintro e w1 ⟨rfl, hb⟩
    simp only [ixV]
    go_wp2
    go_ret2
    rw [HE.out]
    exact ⟨none, 0, rfl, Nat.le_refl _, .inl rfl, hi_none _, hb⟩
  | some k =>
    obtain ⟨hk, h1, h2, h3⟩ := get_ix hi
    have hsm := HS.out.all _ (List.getElem_mem hk)
    rw [hi] at hF
    have HF := Lib.hid hF; clear hF hi h3
    have HE := Lib.hid h2
    obtain ⟨x, hx⟩ : ∃ x, t[k] = x := ⟨_, rfl⟩
    have hkn : k < n := by rw [← HN.out]; exact hk
    rw [hx] at hsm HE h1
    have HX := Lib.hid hx
    have HK := Lib.hid hk
    clear h1 h2 hx
    go_enter Tryz.func103, Tryz.ntmps103
    go_wp2_with fail
    refine (HF.out w hB hR).mono ?_
    rintro e w1 ⟨rfl, hb⟩
    simp only [ixV]
    obtain ⟨a, rfl, hab, hat⟩ := (hR.below (hb.mono hB)).at_ HK.out
    rw [HX.out] at hat
    obtain ⟨c0, A1, c1, k1, hc1, hr1⟩ := hat
    obtain ⟨m, hm⟩ : ∃ m, x.2.length = m := ⟨_, rfl⟩
    have hm5 : m ≤ 8796093022208 := by rw [← hm]; exact Nat.le_trans hsm (by decide)
    rw [hm] at k1 hc1
    have HM := Lib.hid hm; have HR1 := Lib.hid hr1; have HB1 := Lib.hid hb
    clear hm hr1 hsm hb
    go_wp2_with fail
    refine (againL A1 c1 m B x.2 w1 HM.out hm5 (Nat.le_trans hB HB1.out.size) HR1.out).mono ?_
    rintro e w2 ⟨rfl, hr2, hg2⟩
    obtain ⟨A2, c2, e2, hc2, hrd⟩ := rd_of_own hr2
    injection e2 with e2 _ e3
    subst e2; subst e3
    have HRD := Lib.hid hrd; have HG2 := Lib.hid hg2
    clear hr2 hg2 hrd hc2
    go_wp2
    go_ret2
    rw [HE.out]
    refine ⟨some ⟨w1.heap.size, 0, none⟩, m, ?_, ?_, HRD.out, (fun a e => by injection e with e; subst e; exact HB1.out.size), HB1.out.trans ((below_gr HG2.out).mono HB1.out.size)⟩
    · simp only [Option.getD_some, HM.out]; rfl
    · simp only [Option.getD_some, HM.out]; exact Nat.le_refl _

theorem Get (s : List UInt8) (A : Option Addr) (c n B : Nat) (t : TR) (w : World) (hn : t.length = n) (hs : Wide t) (hB : B ≤ w.heap.size) (hR : RdT w B A t) :
    Calls Tryz.prog 103 #[.slice A n c, strV s] w (GetEnd w (get t s)) :=
  (GetH s A c n B t w hn hs hB hR).mono fun e w' h => h.end_

end Tr
end Go.Proofs.YtfnhjflocfmcoaaGreat

set_option maxRecDepth 100000
namespace Go.Proofs.YtfnhjflocfmcoaaGreat
namespace Pr
open Tx Sq Hk Tr
set_option linter.unusedVariables false

/-- A change. -/
structure Ch where
  k : Int
  nm : List UInt8
  to : List UInt8
  h : HU

theorem ch_ext {p q : Ch} (h1 : p.k = q.k) (h2 : p.nm = q.nm) (h3 : p.to = q.to) (h4 : p.h = q.h) : p = q := by
  cases p; cases q; simp only at h1 h2 h3 h4; subst h1 h2 h3 h4; rfl

def noneH : HU := ⟨0, [], []⟩
/-- A hunk without lines, at 0. -/
def noH (h : HU) : Bool := decide (h.pos = 0) && (decide (h.old.length = 0) && decide (h.new.length = 0))
theorem noH_iff {h : HU} : noH h = true ↔ h = noneH := by
  unfold noH
  simp only [Bool.and_eq_true, decide_eq_true_eq, List.length_eq_zero_iff]
  constructor
  · rintro ⟨h1, h2, h3⟩
    cases h; simp only at h1 h2 h3; subst h1 h2 h3; rfl
  · rintro rfl
    exact ⟨rfl, rfl, rfl⟩

def mayP (p : Ch) : Bool :=
  if p.k = 0 ∨ p.k = 1 then name p.nm && (decide (p.to = []) && noH p.h)
  else if p.k = 2 then name p.nm && (name p.to && (decide (p.to ≠ p.nm) && noH p.h))
  else if p.k = 3 then name p.nm && (decide (p.to = []) && mayH p.h)
  else if p.k = 4 then name p.nm && (decide (p.to = []) && (mayH p.h && decide (p.h.pos = 0)))
  else false
theorem mayP_cases {p : Ch} : mayP p = true ↔ name p.nm = true ∧ (((p.k = 0 ∨ p.k = 1) ∧ p.to = [] ∧ p.h = noneH) ∨ (p.k = 2 ∧ name p.to = true ∧ p.to ≠ p.nm ∧ p.h = noneH) ∨ (p.k = 3 ∧ p.to = [] ∧ mayH p.h = true) ∨ (p.k = 4 ∧ p.to = [] ∧ mayH p.h = true ∧ p.h.pos = 0)) := by
  unfold mayP
  by_cases h0 : p.k = 0 ∨ p.k = 1
  · have n2 : ¬ p.k = 2 := by omega
    have n3 : ¬ p.k = 3 := by omega
    have n4 : ¬ p.k = 4 := by omega
    rw [if_pos h0]
    simp [h0, n2, n3, n4, noH_iff]
  · rw [if_neg h0]
    by_cases h2 : p.k = 2
    · simp [h2, noH_iff]
    · rw [if_neg h2]
      by_cases h3 : p.k = 3
      · simp [h3]
      · rw [if_neg h3]
        by_cases h4 : p.k = 4
        · simp [h4]
        · rw [if_neg h4]
          simp [h0, h2, h3, h4]

def sameP (p q : Ch) : Bool := decide (p.k = q.k) && (decide (p.nm = q.nm) && (decide (p.to = q.to) && sameH p.h q.h))
theorem sameP_iff {p q : Ch} : sameP p q = true ↔ p = q := by
  unfold sameP sameH
  simp only [Bool.and_eq_true, decide_eq_true_eq]
  constructor
  · rintro ⟨h1, h2, h3, h4, h5, h6⟩
    refine ch_ext h1 h2 h3 ?_
    generalize p.h = a at *
    generalize q.h = b at *
    cases a; cases b; simp only at h4 h5 h6; subst h4 h5 h6; rfl
  · rintro rfl
    exact ⟨rfl, rfl, rfl, rfl, rfl, rfl⟩

/-- A change turned. -/
def turnP (p : Ch) : Ch :=
  if p.k = 0 then ⟨1, p.nm, p.to, p.h⟩
  else if p.k = 1 then ⟨0, p.nm, p.to, p.h⟩
  else if p.k = 2 then ⟨p.k, p.to, p.nm, p.h⟩
  else ⟨p.k, p.nm, p.to, turn p.h⟩
theorem turnP_0 {p : Ch} (h : p.k = 0) : turnP p = ⟨1, p.nm, p.to, p.h⟩ := by unfold turnP; rw [if_pos h]
theorem turnP_1 {p : Ch} (h : p.k = 1) : turnP p = ⟨0, p.nm, p.to, p.h⟩ := by unfold turnP; rw [if_neg (by omega), if_pos h]
theorem turnP_2 {p : Ch} (h : p.k = 2) : turnP p = ⟨2, p.to, p.nm, p.h⟩ := by unfold turnP; rw [if_neg (by omega), if_neg (by omega), if_pos h, h]
theorem turnP_h {p : Ch} (h0 : p.k ≠ 0) (h1 : p.k ≠ 1) (h2 : p.k ≠ 2) : turnP p = ⟨p.k, p.nm, p.to, turn p.h⟩ := by unfold turnP; rw [if_neg h0, if_neg h1, if_neg h2]
abbrev lt : List UInt8 → List UInt8 → Bool := Op.bytesLess

/-- What a file's lines become by a change of lines: an error, or lines. -/
def lineE (l : List (List UInt8)) (p : Ch) : Int := if p.k = 3 then applyE l p.h else if l = p.h.old then 0 else 5
def lineL (l : List (List UInt8)) (p : Ch) : List (List UInt8) := if p.k = 3 then applyL l p.h else p.h.new
/-- What a tree becomes by a change: an error, or a tree. -/
def doP (t : TR) (p : Ch) : Int × TR :=
  if mayP p = false then (1, [])
  else if p.k = 0 then (if (get t p.nm).isSome then (5, []) else (0, put lt t p.nm []))
  else match get t p.nm with
    | none => (5, [])
    | some l =>
      if p.k = 1 then (if l = [] then (0, del t p.nm) else (5, []))
      else if p.k = 2 then (if (get t p.to).isSome then (5, []) else (0, put lt (del t p.nm) p.to l))
      else if lineE l p = 0 then (0, put lt t p.nm (lineL l p)) else (lineE l p, [])

/-- The ways in which a change can be done. -/
theorem doP_cases {t u : TR} {p : Ch} (h : doP t p = (0, u)) : mayP p = true ∧ (
    (p.k = 0 ∧ get t p.nm = none ∧ u = put lt t p.nm []) ∨ (p.k = 1 ∧ get t p.nm = some [] ∧ u = del t p.nm) ∨
    (p.k = 2 ∧ ∃ l, get t p.nm = some l ∧ get t p.to = none ∧ u = put lt (del t p.nm) p.to l) ∨
    ((p.k = 3 ∨ p.k = 4) ∧ ∃ l, get t p.nm = some l ∧ lineE l p = 0 ∧ u = put lt t p.nm (lineL l p))) := by
  unfold doP at h
  split at h
  · injection h with h _; exact absurd h (by decide)
  · rename_i hm
    have hm : mayP p = true := by simpa using hm
    refine ⟨hm, ?_⟩
    split at h
    · rename_i hk
      split at h
      · injection h with h _; exact absurd h (by decide)
      · rename_i hg
        injection h with _ h
        exact .inl ⟨hk, by simpa using hg, h.symm⟩
    · rename_i h0
      split at h
      · injection h with h _; exact absurd h (by decide)
      · rename_i l hg
        split at h
        · rename_i hk
          split at h
          · rename_i hl
            injection h with _ h
            exact .inr (.inl ⟨hk, by rw [hg, hl], h.symm⟩)
          · injection h with h _; exact absurd h (by decide)
        · rename_i h1
          split at h
          · rename_i hk
            split at h
            · injection h with h _; exact absurd h (by decide)
            · rename_i hg2
              injection h with _ h
              exact .inr (.inr (.inl ⟨hk, l, hg, by simpa using hg2, h.symm⟩))
          · rename_i h2
            split at h
            · rename_i he
              injection h with _ h
              refine .inr (.inr (.inr ⟨?_, l, hg, he, h.symm⟩))
              rcases (mayP_cases.1 hm).2 with ⟨h | h, _⟩ | ⟨h, _⟩ | ⟨h, _⟩ | ⟨h, _⟩
              · exact absurd h h0
              · exact absurd h h1
              · exact absurd h h2
              · exact .inl h
              · exact .inr h
            · rename_i he
              injection h with h _
              exact absurd h he
/-- The names of files behind a change rise still. -/
theorem doP_up {t u : TR} {p : Ch} (hu : Up lt t) (h : doP t p = (0, u)) : Up lt u := by
  obtain ⟨_, h⟩ := doP_cases h
  rcases h with ⟨_, _, rfl⟩ | ⟨_, _, rfl⟩ | ⟨_, l, _, _, rfl⟩ | ⟨_, l, _, _, rfl⟩
  · exact up_put lin hu _ _
  · exact up_del hu _
  · exact up_put lin (up_del hu _) _ _
  · exact up_put lin hu _ _

/-- What is told beside an error is nothing. -/
theorem doP_none {t : TR} {p : Ch} (h : (doP t p).1 ≠ 0) : (doP t p).2 = [] := by
  unfold doP at *
  split
  · rfl
  · rename_i h1
    rw [if_neg h1] at h
    split
    · rename_i h2
      rw [if_pos h2] at h
      split
      · rfl
      · rename_i h3; rw [if_neg h3] at h; exact absurd rfl h
    · rename_i h2
      rw [if_neg h2] at h
      split
      · rfl
      · rename_i l hg
        rw [hg] at h
        simp only at h
        split
        · rename_i h3
          rw [if_pos h3] at h
          split
          · rename_i h4; rw [if_pos h4] at h; exact absurd rfl h
          · rfl
        · rename_i h3
          rw [if_neg h3] at h
          split
          · rename_i h4
            rw [if_pos h4] at h
            split
            · rfl
            · rename_i h5; rw [if_neg h5] at h; exact absurd rfl h
          · rename_i h4
            rw [if_neg h4] at h
            split
            · rename_i h5; rw [if_pos h5] at h; exact absurd rfl h
            · rfl

end Pr
end Go.Proofs.YtfnhjflocfmcoaaGreat

namespace Go.Proofs.YtfnhjflocfmcoaaGreat
open Go.ChangeShapes Go.WideShapes Go.ChangeAt Go.RowKit Go.Deep Go.Joins
set_option linter.unusedVariables false
namespace Pr
open Tx Df Sq Hk Tr

/-- The value of a change. -/
abbrev prV (k : Int) (nm to : List UInt8) (p : Int) (A : Option Addr) (n c : Nat) (A' : Option Addr) (n' c' : Nat) : Value := .agg #[.int .i64 k, strV nm, strV to, .int .i64 p, .slice A n c, .slice A' n' c']

/-- Two slice values that read, below block B, as a change's lines. -/
structure PV (w : World) (B : Nat) (A : Option Addr) (n c : Nat) (A' : Option Addr) (n' c' : Nat) (p : Ch) : Prop where
  h : HV w B A n c A' n' c' p.h
  k : I64 p.k
  nm : p.nm.length ≤ maxLen
  to : p.to.length ≤ maxLen
  s : ∀ x ∈ p.h.old, x.length ≤ maxLen
  s' : ∀ x ∈ p.h.new, x.length ≤ maxLen

section
variable {w w' : World} {B B' : Nat} {A A' : Option Addr} {n c n' c' : Nat} {p : Ch}
theorem PV.below (v : PV w B A n c A' n' c' p) (hb : Below B w w') : PV w' B A n c A' n' c' p := ⟨v.h.below hb, v.k, v.nm, v.to, v.s, v.s'⟩
theorem PV.up (v : PV w B A n c A' n' c' p) (hB : B ≤ B') : PV w B' A n c A' n' c' p := ⟨v.h.up hB, v.k, v.nm, v.to, v.s, v.s'⟩
theorem PV.mv (v : PV w w.heap.size A n c A' n' c' p) (hb : Below w.heap.size w w') : PV w' w'.heap.size A n c A' n' c' p := (v.below hb).up hb.size
theorem PV.drewN (v : PV w B A n c A' n' c' p) (d : Nat) : PV (w.drewN d) B A n c A' n' c' p := ⟨v.h.drewN d, v.k, v.nm, v.to, v.s, v.s'⟩
end

section
variable {H : Type} {enc : TypeId × Value → H} {W : World} {base : Nat} {spare : Nat → Bool} {held : Bool}

end

end Pr
end Go.Proofs.YtfnhjflocfmcoaaGreat

namespace Go.Proofs.YtfnhjflocfmcoaaGreat
open Go.RowKit
set_option linter.unusedVariables false
set_option linter.unusedSimpArgs false
namespace Pr
open Tx Df Sq Hk Tr

theorem kinds (k : Int) : k = 0 ∨ k = 1 ∨ k = 2 ∨ k = 3 ∨ k = 4 ∨ ((k == 0) = false ∧ (k == 1) = false ∧ (k == 2) = false ∧ (k == 3) = false ∧ (k == 4) = false) := by
  by_cases h0 : k = 0
  · exact .inl h0
  by_cases h1 : k = 1
  · exact .inr (.inl h1)
  by_cases h2 : k = 2
  · exact .inr (.inr (.inl h2))
  by_cases h3 : k = 3
  · exact .inr (.inr (.inr (.inl h3)))
  by_cases h4 : k = 4
  · exact .inr (.inr (.inr (.inr (.inl h4))))
  exact .inr (.inr (.inr (.inr (.inr ⟨beq_eq_false_iff_ne.2 h0, beq_eq_false_iff_ne.2 h1, beq_eq_false_iff_ne.2 h2, beq_eq_false_iff_ne.2 h3, beq_eq_false_iff_ne.2 h4⟩))))

theorem RefNameB (x : List UInt8) (w : World) (b : Bool) (hx : x.length ≤ maxLen) (hb : name x = b) : Calls Tryz.prog 93 #[strV x] w fun e w' => e = .returned (.bool b) ∧ w = w' := by
  have := RefName ⟨x.toArray⟩ w (by rw [size_strV]; exact hx)
  rw [← hb]
  simpa using this

/-- The box of a change. -/
abbrev box (w : World) (k : Int) (nm to : List UInt8) (q : Int) (A : Option Addr) (n c : Nat) (A' : Option Addr) (n' c' : Nat) : World := w.alloc (.cells #[.int .i64 k, strV nm, strV to, .int .i64 q, .slice A n c, .slice A' n' c'] 55)

set_option maxHeartbeats 1000000 in
theorem refNone (A : Option Addr) (n c : Nat) (A' : Option Addr) (n' c' B : Nat) (h : HU) (w : World) (b : Bool) (hB : B ≤ w.heap.size) (hv : HV w B A n c A' n' c' h) (hb : noH h = b) :
    Calls Tryz.prog 95 #[hkV h.pos A n c A' n' c'] w (TestEnd w b) := by
  obtain ⟨l, l', k, k', m, m', r, r', p⟩ := hv
  have HB : Hid (b = (decide (h.pos = 0) && (decide (n = 0) && decide (n' = 0)))) := Lib.hid (by rw [← hb, ← l, ← l']; rfl)
  have hbel : Below w.heap.size w (w.alloc (.cells #[.int .i64 h.pos, .slice A n c, .slice A' n' c'] 53)) := (Below.refl _ _).alloc (Nat.le_refl _) _
  have HBEL := Lib.hid hbel
  clear l l' r r' hb hbel
  generalize h.pos = q at *
  by_cases h0 : q = 0
  · subst h0
    by_cases h1 : n = 0
    · subst h1
      by_cases h2 : n' = 0
      · subst h2
        go_enter Tryz.func95, Tryz.ntmps95
        go_wp2
        go_ret
        exact ⟨ret_bool (by rw [HB.out]; rfl), HBEL.out⟩
      · have e2 : ((n' : Int) == 0) = false := by rw [beq_eq_false_iff_ne]; omega
        go_enter Tryz.func95, Tryz.ntmps95
        go_wp2
        go_ret
        exact ⟨ret_bool (by rw [HB.out, decide_eq_false h2]; rfl), HBEL.out⟩
    · have e1 : ((n : Int) == 0) = false := by rw [beq_eq_false_iff_ne]; omega
      go_enter Tryz.func95, Tryz.ntmps95
      go_wp2
      go_ret
      exact ⟨ret_bool (by rw [HB.out, decide_eq_false h1]; simp), HBEL.out⟩
  · have e0 : (q == 0) = false := by rw [beq_eq_false_iff_ne]; exact h0
    go_enter Tryz.func95, Tryz.ntmps95
    go_wp2
    go_ret
    exact ⟨ret_bool (by rw [HB.out, decide_eq_false h0]; simp), HBEL.out⟩

set_option maxHeartbeats 4000000 in
theorem refMayP (A : Option Addr) (n c : Nat) (A' : Option Addr) (n' c' B : Nat) (p : Ch) (w : World) (mb : Bool) (hB : B ≤ w.heap.size) (hv : PV w B A n c A' n' c' p) (hmb : mayP p = mb) :
    Calls Tryz.prog 64 #[prV p.k p.nm p.to p.h.pos A n c A' n' c'] w (TestEnd w mb) := by
  obtain ⟨k, nm, to, h⟩ := p
  obtain ⟨vh, vk, vn, vt, vs, vs'⟩ := hv
  dsimp only at vh vk vn vt vs vs' ⊢
  obtain ⟨bn, hbn⟩ : ∃ b, name nm = b := ⟨_, rfl⟩
  obtain ⟨bt, hbt⟩ : ∃ b, name to = b := ⟨_, rfl⟩
  obtain ⟨bh, hbh⟩ : ∃ b, mayH h = b := ⟨_, rfl⟩
  obtain ⟨bo, hbo⟩ : ∃ b, noH h = b := ⟨_, rfl⟩
  have H1 := Lib.hid (fun w => RefNameB nm w bn vn hbn)
  have H2 := Lib.hid (fun w => RefNameB to w bt vt hbt)
  have h3 := fun w hB hv => refMay A n c A' n' c' B h w hB hv vs vs'
  rw [hbh] at h3
  have h4 := fun w hB hv => refNone A n c A' n' c' B h w bo hB hv hbo
  have hbx : Below w.heap.size w (box w k nm to h.pos A n c A' n' c') := (Below.refl _ _).alloc (Nat.le_refl _) _
  have HVH := Lib.hid vh; have HMB := Lib.hid hmb; have HBN := Lib.hid hbn; have HBT := Lib.hid hbt; have HBH := Lib.hid hbh; have HBO := Lib.hid hbo; have HBX := Lib.hid hbx
  obtain ⟨q, hq⟩ : ∃ q, h.pos = q := ⟨_, rfl⟩
  rw [hq] at h3 h4 HBX ⊢
  have HQ := Lib.hid hq
  have H3 := Lib.hid h3; have H4 := Lib.hid h4
  clear vh vn vt vs vs' hbn hbt hbh hbo h3 h4 hmb hbx hq
  go_enter Tryz.func64, Tryz.ntmps64
  go_wp2_with fail
  refine (H1.out _).mono ?_
  rintro e w1 ⟨rfl, rfl⟩
  go_wp2_with fail
  refine (H2.out _).mono ?_
  rintro e w1 ⟨rfl, rfl⟩
  go_wp2_with fail
  refine (H3.out (box w k nm to q A n c A' n' c') (Nat.le_trans hB HBX.out.size) (HVH.out.below (HBX.out.mono hB))).mono ?_
  rintro e w1 ⟨rfl, hb1⟩
  have b1 := (Blk.new w 55 #[.int .i64 k, strV nm, strV to, .int .i64 q, .slice A n c, .slice A' n' c']).below hb1 (by simp)
  have hb01 : Below w.heap.size w w1 := HBX.out.trans (hb1.mono HBX.out.size)
  have HB01 := Lib.hid hb01
  have HB1 := Lib.hid b1
  have x3 : w1.cell? ⟨w.heap.size, 3, none⟩ = some (.int .i64 q) := b1.cell 3 rfl
  have x4 : w1.cell? ⟨w.heap.size, 4, none⟩ = some (.slice A n c) := b1.cell 4 rfl
  have x5 : w1.cell? ⟨w.heap.size, 5, none⟩ = some (.slice A' n' c') := b1.cell 5 rfl
  clear b1 hb1 hb01
  go_wp2_with fail
  refine (H4.out w1 (Nat.le_trans hB HB01.out.size) (HVH.out.below (HB01.out.mono hB))).mono ?_
  rintro e w2 ⟨rfl, hb2⟩
  have b2 := HB1.out.below hb2 HB1.out.lt
  have hb02 : Below w.heap.size w w2 := HB01.out.trans (hb2.mono HB01.out.size)
  have HB02 := Lib.hid hb02
  clear x3 x4 x5 HB1 HB01 HBX
  have x0 : w2.cell? ⟨w.heap.size, 0, none⟩ = some (.int .i64 k) := b2.cell 0 rfl
  have x1 : w2.cell? ⟨w.heap.size, 1, none⟩ = some (strV nm) := b2.cell 1 rfl
  have x2 : w2.cell? ⟨w.heap.size, 2, none⟩ = some (strV to) := b2.cell 2 rfl
  have x3 : w2.cell? ⟨w.heap.size, 3, none⟩ = some (.int .i64 q) := b2.cell 3 rfl
  clear b2 hb2 hb02 H1 H2 H3 H4 HVH
  rcases kinds k with rfl | rfl | rfl | rfl | rfl | ⟨e0, e1, e2, e3, e4⟩
  · cases bn with
    | false =>
      have HO : Hid (mb = false) := Lib.hid (by rw [← HMB.out]; simp [mayP, HBN.out, HBT.out, HBH.out, HBO.out])
      clear HMB
      go_wp2
      go_ret
      exact ⟨ret_bool (by rw [HO.out]), HB02.out⟩
    | true =>
      by_cases ht : to = []
      · subst ht
        cases bo with
        | false =>
          have HO : Hid (mb = false) := Lib.hid (by rw [← HMB.out]; simp [mayP, HBN.out, HBT.out, HBH.out, HBO.out])
          clear HMB
          go_wp2
          go_ret
          exact ⟨ret_bool (by rw [HO.out]), HB02.out⟩
        | true =>
          have HO : Hid (mb = true) := Lib.hid (by rw [← HMB.out]; simp [mayP, HBN.out, HBT.out, HBH.out, HBO.out])
          clear HMB
          go_wp2
          go_ret
          exact ⟨ret_bool (by rw [HO.out]), HB02.out⟩
      · have et : (to == []) = false := by simpa using ht
        have HO : Hid (mb = false) := Lib.hid (by rw [← HMB.out]; simp [mayP, HBN.out, HBT.out, HBH.out, HBO.out, ht])
        clear HMB
        go_wp2
        go_ret
        exact ⟨ret_bool (by rw [HO.out]), HB02.out⟩
  · cases bn with
    | false =>
      have HO : Hid (mb = false) := Lib.hid (by rw [← HMB.out]; simp [mayP, HBN.out, HBT.out, HBH.out, HBO.out])
      clear HMB
      go_wp2
      go_ret
      exact ⟨ret_bool (by rw [HO.out]), HB02.out⟩
    | true =>
      by_cases ht : to = []
      · subst ht
        cases bo with
        | false =>
          have HO : Hid (mb = false) := Lib.hid (by rw [← HMB.out]; simp [mayP, HBN.out, HBT.out, HBH.out, HBO.out])
          clear HMB
          go_wp2
          go_ret
          exact ⟨ret_bool (by rw [HO.out]), HB02.out⟩
        | true =>
          have HO : Hid (mb = true) := Lib.hid (by rw [← HMB.out]; simp [mayP, HBN.out, HBT.out, HBH.out, HBO.out])
          clear HMB
          go_wp2
          go_ret
          exact ⟨ret_bool (by rw [HO.out]), HB02.out⟩
      · have et : (to == []) = false := by simpa using ht
        have HO : Hid (mb = false) := Lib.hid (by rw [← HMB.out]; simp [mayP, HBN.out, HBT.out, HBH.out, HBO.out, ht])
        clear HMB
        go_wp2
        go_ret
        exact ⟨ret_bool (by rw [HO.out]), HB02.out⟩
  · cases bn with
    | false =>
      have HO : Hid (mb = false) := Lib.hid (by rw [← HMB.out]; simp [mayP, HBN.out, HBT.out, HBH.out, HBO.out])
      clear HMB
      go_wp2
      go_ret
      exact ⟨ret_bool (by rw [HO.out]), HB02.out⟩
    | true =>
      cases bt with
      | false =>
        have HO : Hid (mb = false) := Lib.hid (by rw [← HMB.out]; simp [mayP, HBN.out, HBT.out, HBH.out, HBO.out])
        clear HMB
        go_wp2
        go_ret
        exact ⟨ret_bool (by rw [HO.out]), HB02.out⟩
      | true =>
        by_cases ht : to = nm
        · have et : (to == nm) = true := by simpa using ht
          have HO : Hid (mb = false) := Lib.hid (by rw [← HMB.out]; simp [mayP, HBN.out, HBT.out, HBH.out, HBO.out, ht])
          clear HMB
          go_wp2
          go_ret
          exact ⟨ret_bool (by rw [HO.out]), HB02.out⟩
        · have et : (to == nm) = false := by simpa using ht
          cases bo with
          | false =>
            have HO : Hid (mb = false) := Lib.hid (by rw [← HMB.out]; simp [mayP, HBN.out, HBT.out, HBH.out, HBO.out])
            clear HMB
            go_wp2
            go_ret
            exact ⟨ret_bool (by rw [HO.out]), HB02.out⟩
          | true =>
            have HO : Hid (mb = true) := Lib.hid (by rw [← HMB.out]; simp [mayP, HBN.out, HBT.out, HBH.out, HBO.out, ht])
            clear HMB
            go_wp2
            go_ret
            exact ⟨ret_bool (by rw [HO.out]), HB02.out⟩
  · cases bn with
    | false =>
      have HO : Hid (mb = false) := Lib.hid (by rw [← HMB.out]; simp [mayP, HBN.out, HBT.out, HBH.out, HBO.out])
      clear HMB
      go_wp2
      go_ret
      exact ⟨ret_bool (by rw [HO.out]), HB02.out⟩
    | true =>
      by_cases ht : to = []
      · subst ht
        cases bh with
        | false =>
          have HO : Hid (mb = false) := Lib.hid (by rw [← HMB.out]; simp [mayP, HBN.out, HBT.out, HBH.out, HBO.out])
          clear HMB
          go_wp2
          go_ret
          exact ⟨ret_bool (by rw [HO.out]), HB02.out⟩
        | true =>
          have HO : Hid (mb = true) := Lib.hid (by rw [← HMB.out]; simp [mayP, HBN.out, HBT.out, HBH.out, HBO.out])
          clear HMB
          go_wp2
          go_ret
          exact ⟨ret_bool (by rw [HO.out]), HB02.out⟩
      · have et : (to == []) = false := by simpa using ht
        have HO : Hid (mb = false) := Lib.hid (by rw [← HMB.out]; simp [mayP, HBN.out, HBT.out, HBH.out, HBO.out, ht])
        clear HMB
        go_wp2
        go_ret
        exact ⟨ret_bool (by rw [HO.out]), HB02.out⟩
  · cases bn with
    | false =>
      have HO : Hid (mb = false) := Lib.hid (by rw [← HMB.out]; simp [mayP, HBN.out, HBT.out, HBH.out, HBO.out])
      clear HMB
      go_wp2
      go_ret
      exact ⟨ret_bool (by rw [HO.out]), HB02.out⟩
    | true =>
      by_cases ht : to = []
      · subst ht
        cases bh with
        | false =>
          have HO : Hid (mb = false) := Lib.hid (by rw [← HMB.out]; simp [mayP, HBN.out, HBT.out, HBH.out, HBO.out])
          clear HMB
          go_wp2
          go_ret
          exact ⟨ret_bool (by rw [HO.out]), HB02.out⟩
        | true =>
          by_cases h0 : q = 0
          · have h00 : h.pos = 0 := by rw [HQ.out]; exact h0
            have e0 : (q == 0) = true := by simpa using h0
            have HO : Hid (mb = true) := Lib.hid (by rw [← HMB.out]; simp [mayP, HBN.out, HBT.out, HBH.out, HBO.out, h00])
            clear HMB
            go_wp2
            go_ret
            exact ⟨ret_bool (by rw [HO.out]), HB02.out⟩
          · have h00 : ¬ h.pos = 0 := by rw [HQ.out]; exact h0
            have e0 : (q == 0) = false := by simpa using h0
            have HO : Hid (mb = false) := Lib.hid (by rw [← HMB.out]; simp [mayP, HBN.out, HBT.out, HBH.out, HBO.out, h00])
            clear HMB
            go_wp2
            go_ret
            exact ⟨ret_bool (by rw [HO.out]), HB02.out⟩
      · have et : (to == []) = false := by simpa using ht
        have HO : Hid (mb = false) := Lib.hid (by rw [← HMB.out]; simp [mayP, HBN.out, HBT.out, HBH.out, HBO.out, ht])
        clear HMB
        go_wp2
        go_ret
        exact ⟨ret_bool (by rw [HO.out]), HB02.out⟩
  · have HO : Hid (mb = false) := Lib.hid (by
      rw [← HMB.out]
      rw [beq_eq_false_iff_ne] at e0 e1 e2 e3 e4
      simp [mayP, e0, e1, e2, e3, e4])
    clear HMB
    go_wp2
    go_ret
    exact ⟨ret_bool (by rw [HO.out]), HB02.out⟩

end Pr
end Go.Proofs.YtfnhjflocfmcoaaGreat

namespace Go.Proofs.YtfnhjflocfmcoaaGreat
open Go.RowKit
set_option linter.unusedVariables false
set_option linter.unusedSimpArgs false
namespace Pr
open Tx Df Sq Hk Tr

def lightP (p : Ch) : Bool := (light p.h.old 300 && light p.h.new 300) && (decide (p.nm.length ≤ 100) && decide (p.to.length ≤ 100))

set_option maxHeartbeats 2000000 in
theorem LightP (A : Option Addr) (n c : Nat) (A' : Option Addr) (n' c' B : Nat) (p : Ch) (w : World) (b : Bool) (hB : B ≤ w.heap.size) (hv : PV w B A n c A' n' c' p) (hb : lightP p = b) :
    Calls Tryz.prog 48 #[prV p.k p.nm p.to p.h.pos A n c A' n' c'] w (TestEnd w b) := by
  obtain ⟨k, nm, to, h⟩ := p
  obtain ⟨vh, vk, vn, vt, vs, vs'⟩ := hv
  dsimp only at vh vk vn vt vs vs' ⊢
  obtain ⟨bl, hbl⟩ : ∃ b, (light h.old 300 && light h.new 300) = b := ⟨_, rfl⟩
  have h3 := fun w hB hv => LightH A n c A' n' c' B h w hB hv
  rw [hbl] at h3
  have hbx : Below w.heap.size w (box w k nm to h.pos A n c A' n' c') := (Below.refl _ _).alloc (Nat.le_refl _) _
  have HL : Hid (b = (bl && (decide (nm.length ≤ 100) && decide (to.length ≤ 100)))) := Lib.hid (by rw [← hb, ← hbl]; rfl)
  have HVH := Lib.hid vh; have HBX := Lib.hid hbx; have H3 := Lib.hid h3
  obtain ⟨zn, hzn, hzn2⟩ : ∃ z : ByteArray, strV nm = .string z ∧ z.size = nm.length := ⟨_, rfl, size_strV nm⟩
  obtain ⟨zt, hzt, hzt2⟩ : ∃ z : ByteArray, strV to = .string z ∧ z.size = to.length := ⟨_, rfl, size_strV to⟩
  rw [← hzn2] at HL vn
  rw [← hzt2] at HL vt
  clear vh vs vs' hb hbl h3 hbx hzn2 hzt2
  unfold maxLen at vn vt
  unfold box at HBX
  unfold prV
  rw [hzn, hzt] at HBX ⊢
  clear hzn hzt
  generalize h.pos = q at *
  go_enter Tryz.func48, Tryz.ntmps48
  go_wp2_with fail
  refine (H3.out _ (Nat.le_trans hB HBX.out.size) (HVH.out.below (HBX.out.mono hB))).mono ?_
  rintro e w1 ⟨rfl, hb1⟩
  have b1 := (Blk.new w 55 #[.int .i64 k, .string zn, .string zt, .int .i64 q, .slice A n c, .slice A' n' c']).below hb1 (by simp)
  have hb01 : Below w.heap.size w w1 := HBX.out.trans (hb1.mono HBX.out.size)
  have HB01 := Lib.hid hb01
  have x1 : w1.cell? ⟨w.heap.size, 1, none⟩ = some (.string zn) := b1.cell 1 rfl
  have x2 : w1.cell? ⟨w.heap.size, 2, none⟩ = some (.string zt) := b1.cell 2 rfl
  clear b1 hb1 hb01 HBX H3 HVH
  cases bl with
  | false =>
    go_wp2
    go_ret
    exact ⟨ret_bool (by rw [HL.out]; rfl), HB01.out⟩
  | true =>
    by_cases h1 : zn.size ≤ 100
    · by_cases h2 : zt.size ≤ 100
      · go_wp2
        go_ret
        exact ⟨ret_bool (by rw [HL.out, decide_eq_true h1, decide_eq_true h2]; simp; omega), HB01.out⟩
      · go_wp2
        go_ret
        exact ⟨ret_bool (by rw [HL.out, decide_eq_true h1, decide_eq_false h2]; simp; omega), HB01.out⟩
    · go_wp2
      go_ret
      exact ⟨ret_bool (by rw [HL.out, decide_eq_false h1]; simp), HB01.out⟩

end Pr
end Go.Proofs.YtfnhjflocfmcoaaGreat

namespace Go.Proofs.YtfnhjflocfmcoaaGreat
open Go.RowKit
set_option linter.unusedVariables false
set_option linter.unusedSimpArgs false
namespace Pr
open Tx Df Sq Hk Tr

/-- How a call ends that makes the change q. -/
def PTEnd (w : World) (q : Ch) (e : Ending) (w' : World) : Prop :=
  ∃ A n c A' n' c', e = .returned (prV q.k q.nm q.to q.h.pos A n c A' n' c') ∧ PV w' w'.heap.size A n c A' n' c' q ∧ q.h.old.length = n ∧ q.h.new.length = n' ∧ Below w.heap.size w w'

theorem two_box (w : World) (o o' : Obj) : Below w.heap.size w ((w.alloc o).alloc o') := ((Below.refl _ _).alloc (Nat.le_refl _) o).alloc (by simp) o'

/-- How a call ends that turns a change, its lines as they are handed in. -/
def PTEndE (A : Option Addr) (n c : Nat) (A' : Option Addr) (n' c' : Nat) (p : Ch) (w : World) (e : Ending) (w' : World) : Prop :=
  (((p.k = 0 ∨ p.k = 1 ∨ p.k = 2) ∧ e = .returned (prV (turnP p).k (turnP p).nm (turnP p).to (turnP p).h.pos A n c A' n' c')) ∨ (¬ (p.k = 0 ∨ p.k = 1 ∨ p.k = 2) ∧ e = .returned (prV (turnP p).k (turnP p).nm (turnP p).to (turnP p).h.pos A' n' c' A n c))) ∧ Below w.heap.size w w'
theorem PTEndE.end_ {A A' : Option Addr} {n c n' c' B : Nat} {p : Ch} {w w' : World} {e : Ending} (h : PTEndE A n c A' n' c' p w e w') (hB : B ≤ w.heap.size) (hv : PV w B A n c A' n' c' p) : PTEnd w (turnP p) e w' := by
  obtain ⟨h, hb⟩ := h
  have h1 := (hv.below (hb.mono hB)).up (Nat.le_trans hB hb.size)
  rcases h with ⟨hk, rfl⟩ | ⟨hk, rfl⟩
  · refine ⟨A, n, c, A', n', c', rfl, ?_, ?_, ?_, hb⟩
    · rcases hk with hk | hk | hk
      · rw [turnP_0 hk]; exact ⟨h1.h, by unfold I64; dsimp only; omega, h1.nm, h1.to, h1.s, h1.s'⟩
      · rw [turnP_1 hk]; exact ⟨h1.h, by unfold I64; dsimp only; omega, h1.nm, h1.to, h1.s, h1.s'⟩
      · rw [turnP_2 hk]; exact ⟨h1.h, by unfold I64; dsimp only; omega, h1.to, h1.nm, h1.s, h1.s'⟩
    · rcases hk with hk | hk | hk
      · rw [turnP_0 hk]; exact hv.h.l
      · rw [turnP_1 hk]; exact hv.h.l
      · rw [turnP_2 hk]; exact hv.h.l
    · rcases hk with hk | hk | hk
      · rw [turnP_0 hk]; exact hv.h.l'
      · rw [turnP_1 hk]; exact hv.h.l'
      · rw [turnP_2 hk]; exact hv.h.l'
  · have e1 : turnP p = ⟨p.k, p.nm, p.to, turn p.h⟩ := turnP_h (fun h => hk (.inl h)) (fun h => hk (.inr (.inl h))) (fun h => hk (.inr (.inr h)))
    refine ⟨A', n', c', A, n, c, rfl, ?_, ?_, ?_, hb⟩
    · rw [e1]; exact ⟨h1.h.turn, h1.k, h1.nm, h1.to, h1.s', h1.s⟩
    · rw [e1]; exact hv.h.l'
    · rw [e1]; exact hv.h.l

end Pr
end Go.Proofs.YtfnhjflocfmcoaaGreat

namespace Go.Proofs.YtfnhjflocfmcoaaGreat
open Go.RowKit
set_option linter.unusedVariables false
set_option linter.unusedSimpArgs false
namespace Pr
open Tx Df Sq Hk Tr

/-- How a call ends that changes a tree: the error and the tree. -/
def DoEnd (w : World) (r : Int × TR) (e : Ending) (w' : World) : Prop :=
  ∃ A k c, e = .returned (.tuple #[.slice A k c, .int .i64 r.1]) ∧ k ≤ c ∧ r.2.length = k ∧ RdT w' w'.heap.size A r.2 ∧ Below w.heap.size w w'
theorem doEnd_err {w w' : World} {r : Int × TR} {i : Int} (h : r = (i, [])) (hb : Below w.heap.size w w') : DoEnd w r (.returned (.tuple #[.slice none 0 0, .int .i64 i])) w' := by
  subst h
  exact ⟨none, 0, 0, rfl, Nat.le_refl _, rfl, .inl rfl, hb⟩
theorem doEnd_ok {w w' : World} {r : Int × TR} {P : TR} {A : Option Addr} {c : Nat} (h : r = (0, P)) (hc : P.length ≤ c) (hR : RdT w' w'.heap.size A P) (hb : Below w.heap.size w w') : DoEnd w r (.returned (.tuple #[.slice A P.length c, .int .i64 0])) w' := by
  subst h
  exact ⟨A, P.length, c, rfl, hc, rfl, hR, hb⟩
theorem rdT_mv {w w' : World} {A : Option Addr} {t : TR} (h : RdT w w.heap.size A t) (hb : Below w.heap.size w w') : RdT w' w'.heap.size A t := (h.below hb).up hb.size
theorem rdS_to {w w' : World} {A : Option Addr} {l : List (List UInt8)} (h : RdS w w.heap.size A l) (hb : Below w.heap.size w w') : RdS w' w'.heap.size A l := (Rd.below h hb).up hb.size
theorem below_to {w0 w w' : World} (h : Below w0.heap.size w0 w) (hb : Below w.heap.size w w') : Below w0.heap.size w0 w' := h.trans (hb.mono h.size)

/-- What a change does to a tree, from what is told of its file. -/
def doG (t : TR) (p : Ch) (g : Option (List (List UInt8))) : Int × TR :=
  match g with
  | none => (5, [])
  | some l =>
    if p.k = 1 then (if l = [] then (0, del t p.nm) else (5, []))
    else if p.k = 2 then (if (get t p.to).isSome then (5, []) else (0, put lt (del t p.nm) p.to l))
    else if lineE l p = 0 then (0, put lt t p.nm (lineL l p)) else (lineE l p, [])

theorem lightP_h {p : Ch} (h : lightP p = true) : p.h.old.length ≤ 300 ∧ p.h.new.length ≤ 300 := by
  simp only [lightP, light, Bool.and_eq_true, decide_eq_true_eq] at h
  exact ⟨h.1.1.1, h.1.2.1⟩

set_option maxHeartbeats 4000000 in
set_option maxRecDepth 100000 in
theorem refApplyM (A0 : Option Addr) (n0 c0 : Nat) (A : Option Addr) (n c : Nat) (A' : Option Addr) (n' c' : Nat) (t : TR) (p : Ch) (w : World) (hs : Small t) (h40 : t.length ≤ 40000) (hgl : ∀ s l, get t s = some l → l.length ≤ 50000) (hn0 : t.length = n0) (hp : lightP p = true) (hR : RdT w w.heap.size A0 t) (hv : PV w w.heap.size A n c A' n' c' p) :
    Calls Tryz.prog 53 #[.slice A0 n0 c0, prV p.k p.nm p.to p.h.pos A n c A' n' c'] w (DoEnd w (doP t p)) := by
  obtain ⟨ho, hn⟩ := lightP_h hp
  obtain ⟨k, nm, to, h⟩ := p
  dsimp only at hv ho hn ⊢
  rw [hv.h.l] at ho
  rw [hv.h.l'] at hn
  have h9 : n0 ≤ 50000 := by omega
  obtain ⟨bm, hbm⟩ : ∃ b, mayP ⟨k, nm, to, h⟩ = b := ⟨_, rfl⟩
  obtain ⟨g, hg⟩ : ∃ g, get t nm = g := ⟨_, rfl⟩
  obtain ⟨g2, hg2⟩ : ∃ g, get t to = g := ⟨_, rfl⟩
  obtain ⟨D, hD⟩ : ∃ D, doP t ⟨k, nm, to, h⟩ = D := ⟨_, rfl⟩
  rw [hD]
  have hq0 : ∀ x ∈ h.old, x.length ≤ maxLen := hv.s
  have hq1 : ∀ x ∈ h.new, x.length ≤ maxLen := hv.s'
  have H1 := Lib.hid (fun w hB hv => refMayP A n c A' n' c' w.heap.size ⟨k, nm, to, h⟩ w bm hB hv hbm)
  have h2 := fun w hB hR => refGet nm A0 c0 n0 w.heap.size t w hn0 hs hB hR
  rw [hg] at h2
  have h3 := fun w hB hR => refGet to A0 c0 n0 w.heap.size t w hn0 hs hB hR
  rw [hg2] at h3
  have H4 := Lib.hid (fun (s : List UInt8) (A1 : Option Addr) (m1 c1 : Nat) (l : List (List UInt8)) w hm hm5 hR hR' => refPut s A0 A1 c0 n0 w.heap.size m1 c1 t l w hn0 hs h9 hm hm5 (Nat.le_refl _) hR hR')
  have H5 := Lib.hid (fun w hR => refDel nm A0 c0 n0 w.heap.size t w hn0 hs (Nat.le_refl _) hR h9)
  have H6 := Lib.hid (fun (A1 : Option Addr) (m1 c1 : Nat) (l : List (List UInt8)) w hm hc h1 hR hv => refApply A1 m1 c1 A n c A' n' c' w.heap.size l h w (Nat.le_refl _) hm hc h1 (Nat.le_trans ho (by decide)) (Nat.le_trans hn (by decide)) hR hv hq0 hq1)
  have HS := Lib.hid hs; have HV := Lib.hid hv; have HR := Lib.hid hR; have HBM := Lib.hid hbm; have HG := Lib.hid hg; have HG2 := Lib.hid hg2; have HD := Lib.hid hD; have HGL := Lib.hid hgl; have H2 := Lib.hid h2; have H3 := Lib.hid h3; have HN0 := Lib.hid hn0; have H40 := Lib.hid h40
  have HHO := Lib.hid ho; have HHN := Lib.hid hn
  have hbx : Below w.heap.size w (box w k nm to h.pos A n c A' n' c') := (Below.refl _ _).alloc (Nat.le_refl _) _
  obtain ⟨q, hq⟩ : ∃ q, h.pos = q := ⟨_, rfl⟩
  dsimp only at H1
  rw [hq] at H1 H6 hbx ⊢
  have HBX := Lib.hid hbx; have HQ := Lib.hid hq
  clear hgl hp hs hv hR hbm hg hg2 hD h2 h3 ho hn hq0 hq1 hn0 h40 h9 hbx hq
  go_enter Tryz.func53, Tryz.ntmps53
  go_wp2_with fail
  refine (H1.out (box w k nm to q A n c A' n' c') (Nat.le_refl _) (HV.out.mv HBX.out)).mono ?_
  rintro e w1 ⟨rfl, hb1⟩
  have b1 := (Blk.new w 55 #[.int .i64 k, strV nm, strV to, .int .i64 q, .slice A n c, .slice A' n' c']).below hb1 (by simp)
  have HB1 := Lib.hid (below_to HBX.out hb1)
  have B1 := Lib.hid b1
  have x0 : w1.cell? ⟨w.heap.size, 0, none⟩ = some (.int .i64 k) := b1.cell 0 rfl
  have x1 : w1.cell? ⟨w.heap.size, 1, none⟩ = some (strV nm) := b1.cell 1 rfl
  have x2 : w1.cell? ⟨w.heap.size, 2, none⟩ = some (strV to) := b1.cell 2 rfl
  have x3 : w1.cell? ⟨w.heap.size, 3, none⟩ = some (.int .i64 q) := b1.cell 3 rfl
  have x4 : w1.cell? ⟨w.heap.size, 4, none⟩ = some (.slice A n c) := b1.cell 4 rfl
  have x5 : w1.cell? ⟨w.heap.size, 5, none⟩ = some (.slice A' n' c') := b1.cell 5 rfl
  clear b1 hb1 H1
  cases bm with
  | false =>
    have HO : Hid (D = (1, [])) := Lib.hid (by rw [← HD.out]; unfold doP; rw [if_pos HBM.out])
    go_wp2
    go_ret2
    exact doEnd_err HO.out HB1.out
  | true =>
  have HD0 : Hid (doP t ⟨k, nm, to, h⟩ = if k = 0 then (if (get t nm).isSome then (5, []) else (0, put lt t nm [])) else doG t ⟨k, nm, to, h⟩ (get t nm)) := Lib.hid (by unfold doP; rw [if_neg (by rw [HBM.out]; decide)]; rfl)
  go_wp2_with fail
  refine (H2.out w1 (Nat.le_refl _) (rdT_mv HR.out HB1.out)).mono ?_
  rintro e w2 ⟨AL, cl, rfl, hcl, hrl, hb2⟩
  have hb02 := below_to HB1.out hb2
  have b2 := B1.out.below hb2 B1.out.lt
  have RL := Lib.hid hrl; have HB2 := Lib.hid hb02; have B2 := Lib.hid b2
  clear x0 x1 x2 x3 x4 x5 hrl hb2 hb02 H2 B1 HB1
  have x0 : w2.cell? ⟨w.heap.size, 0, none⟩ = some (.int .i64 k) := b2.cell 0 rfl
  have x1 : w2.cell? ⟨w.heap.size, 1, none⟩ = some (strV nm) := b2.cell 1 rfl
  have x2 : w2.cell? ⟨w.heap.size, 2, none⟩ = some (strV to) := b2.cell 2 rfl
  have x3 : w2.cell? ⟨w.heap.size, 3, none⟩ = some (.int .i64 q) := b2.cell 3 rfl
  have x4 : w2.cell? ⟨w.heap.size, 4, none⟩ = some (.slice A n c) := b2.cell 4 rfl
  have x5 : w2.cell? ⟨w.heap.size, 5, none⟩ = some (.slice A' n' c') := b2.cell 5 rfl
  clear b2
  go_wp2_with fail
  refine (H3.out w2 (Nat.le_refl _) (rdT_mv HR.out HB2.out)).mono ?_
  rintro e w3 ⟨A2, c2, rfl, hc2, hr2, hb3⟩
  have hb03 := below_to HB2.out hb3
  have b3 := B2.out.below hb3 B2.out.lt
  have rl3 := rdS_to RL.out hb3
  have RL3 := Lib.hid rl3; have HB3 := Lib.hid hb03; have B3 := Lib.hid b3
  clear x0 x1 x2 x3 x4 x5 hr2 hb3 hb03 H3 B2 HB2 RL rl3 hc2
  have x0 : w3.cell? ⟨w.heap.size, 0, none⟩ = some (.int .i64 k) := b3.cell 0 rfl
  have x1 : w3.cell? ⟨w.heap.size, 1, none⟩ = some (strV nm) := b3.cell 1 rfl
  have x2 : w3.cell? ⟨w.heap.size, 2, none⟩ = some (strV to) := b3.cell 2 rfl
  have x3 : w3.cell? ⟨w.heap.size, 3, none⟩ = some (.int .i64 q) := b3.cell 3 rfl
  have x4 : w3.cell? ⟨w.heap.size, 4, none⟩ = some (.slice A n c) := b3.cell 4 rfl
  have x5 : w3.cell? ⟨w.heap.size, 5, none⟩ = some (.slice A' n' c') := b3.cell 5 rfl
  clear b3
  have HRT : Hid (RdT w3 w3.heap.size A0 t) := Lib.hid (rdT_mv HR.out HB3.out)
  have HVV : Hid (PV w3 w3.heap.size A n c A' n' c' ⟨k, nm, to, h⟩) := Lib.hid (HV.out.mv HB3.out)
  clear HV HR
  by_cases hk0 : k = 0
  · subst hk0
    cases g with
    | some l =>
      have HO : Hid (D = (5, [])) := Lib.hid (by rw [← HD.out, HD0.out, if_pos rfl, HG.out]; rfl)
      go_wp2
      go_ret2
      exact doEnd_err HO.out HB3.out
    | none =>
      have HO : Hid (D = (0, put lt t nm [])) := Lib.hid (by rw [← HD.out, HD0.out, if_pos rfl, HG.out]; rfl)
      go_wp2_with fail
      refine (H4.out nm none 0 0 [] w3 rfl (by decide) HRT.out (.inl rfl)).mono ?_
      rintro e w4 ⟨A4, c4, rfl, hc4, hr4, hb4⟩
      have HC4 := Lib.hid hc4; have HR4 := Lib.hid hr4; have HB4 := Lib.hid (below_to HB3.out hb4)
      clear hc4 hr4 hb4 x0 x1 x2 x3 x4 x5
      go_wp2
      go_ret2
      exact doEnd_ok HO.out HC4.out HR4.out HB4.out
  · have e0 : (k == 0) = false := by rw [beq_eq_false_iff_ne]; exact hk0
    have HD1 : Hid (D = doG t ⟨k, nm, to, h⟩ g) := Lib.hid (by rw [← HD.out, HD0.out, if_neg hk0, HG.out])
    clear HD HD0
    cases g with
    | none =>
      have HO : Hid (D = (5, [])) := Lib.hid HD1.out
      go_wp2
      go_ret2
      exact doEnd_err HO.out HB3.out
    | some l =>
      have hll : l.length ≤ 50000 := HGL.out nm l HG.out
      have HD2 : Hid (D = if k = 1 then (if l = [] then (0, del t nm) else (5, [])) else if k = 2 then (if (get t to).isSome then (5, []) else (0, put lt (del t nm) to l)) else if lineE l ⟨k, nm, to, h⟩ = 0 then (0, put lt t nm (lineL l ⟨k, nm, to, h⟩)) else (lineE l ⟨k, nm, to, h⟩, [])) := Lib.hid HD1.out
      clear HD1 HGL
      simp only [Option.getD_some, Option.isSome_some] at RL3 hcl ⊢
      obtain ⟨m, hm⟩ : ∃ m, l.length = m := ⟨_, rfl⟩
      rw [hm] at hcl hll ⊢
      have HM := Lib.hid hm; clear hm
      by_cases hk1 : k = 1
      · subst hk1
        by_cases hm0 : m = 0
        · subst hm0
          have hl0 : l = [] := List.length_eq_zero_iff.1 HM.out
          have HO : Hid (D = (0, del t nm)) := Lib.hid (by rw [HD2.out, if_pos rfl, if_pos hl0])
          clear HD2
          go_wp2_with fail
          refine (H5.out w3 HRT.out).mono ?_
          rintro e w4 ⟨A4, c4, rfl, hc4, hr4, hb4⟩
          have HC4 := Lib.hid hc4; have HR4 := Lib.hid hr4; have HB4 := Lib.hid (below_to HB3.out hb4)
          clear hc4 hr4 hb4 x0 x1 x2 x3 x4 x5
          go_wp2
          go_ret2
          exact doEnd_ok HO.out HC4.out HR4.out HB4.out
        · have hl0 : ¬ l = [] := fun e => hm0 (by rw [← HM.out, e]; rfl)
          have HO : Hid (D = (5, [])) := Lib.hid (by rw [HD2.out, if_pos rfl, if_neg hl0])
          clear HD2
          have hmp : 0 < m := by omega
          go_wp2
          go_ret2
          exact doEnd_err HO.out HB3.out
      · have e1 : (k == 1) = false := by rw [beq_eq_false_iff_ne]; exact hk1
        by_cases hk2 : k = 2
        · subst hk2
          cases g2 with
          | some l2 =>
            have HO : Hid (D = (5, [])) := Lib.hid (by rw [HD2.out, if_neg hk1, if_pos rfl, HG2.out]; rfl)
            clear HD2
            go_wp2
            go_ret2
            exact doEnd_err HO.out HB3.out
          | none =>
            have HO : Hid (D = (0, put lt (del t nm) to l)) := Lib.hid (by rw [HD2.out, if_neg hk1, if_pos rfl, HG2.out]; rfl)
            clear HD2
            have HB20 : Hid (Below w.heap.size w w3.drew) := Lib.hid (below_drewN HB3.out 1)
            obtain ⟨kd, hkd⟩ : ∃ kd, (del t nm).length = kd := ⟨_, rfl⟩
            have hsd : Small (del t nm) := ⟨Nat.le_trans (del_sub t nm).length_le HS.out.len, fun x hx => HS.out.all x ((del_sub t nm).subset hx)⟩
            have hk9 : kd ≤ 50000 := by rw [← hkd]; exact Nat.le_trans (del_sub t nm).length_le (Nat.le_trans H40.out (by decide))
            have hm5 : m ≤ 100000 := Nat.le_trans hll (by decide)
            have H7 : Hid (∀ A4 c4 w4, RdT w4 w4.heap.size A4 (del t nm) → RdS w4 w4.heap.size AL l → Calls Tryz.prog 66 #[.slice A4 kd c4, strV to, .slice AL m cl] w4 (TreeEnd w4 (put lt (del t nm) to l))) := Lib.hid (fun A4 c4 w4 hR hR' => refPut to A4 AL c4 kd w4.heap.size m cl (del t nm) l w4 hkd hsd hk9 HM.out hm5 (Nat.le_refl _) hR hR')
            have h8 := H5.out w3.drew (HRT.out.drewN 1)
            unfold TreeEnd at h8
            rw [hkd] at h8
            have H8 := Lib.hid h8
            have RLD : Hid (RdS w3.drew w3.drew.heap.size AL l) := Lib.hid (Rd.drewN RL3.out 1)
            have BD : Hid (Blk w3.drew w.heap.size 55 _) := Lib.hid (B3.out.drewN 1)
            clear h8 hsd hk9 hm5 hkd x3 x4 x5 H4 H5 H6 HVV
            go_wp2_with fail
            clear x0
            go_region_held3 (fun w' => w'.cell? ⟨w.heap.size, 1, none⟩ = some (strV nm) ∧ w'.cell? ⟨w.heap.size, 2, none⟩ = some (strV to))
              (first | go_keep | (exact ⟨y1, y2⟩) | (exact ⟨z1, z2⟩))
              (first
                | (go_at_call 67; refine H8.out.mono ?_; rintro e w4 ⟨A4, c4, rfl, hc4, hr4, hb4⟩;
                    have b4 := BD.out.below hb4 BD.out.lt; have y1 : w4.cell? ⟨w.heap.size, 1, none⟩ = some (strV nm) := b4.cell 1 rfl; have y2 : w4.cell? ⟨w.heap.size, 2, none⟩ = some (strV to) := b4.cell 2 rfl;
                    have HR4 := Lib.hid hr4; have RL4 := Lib.hid (rdS_to RLD.out hb4); have HB4 := Lib.hid (below_to HB20.out hb4); have B4 := Lib.hid b4; clear hr4 hb4 b4)
                | (go_at_call 66; refine (H7.out A4 c4 w4 HR4.out RL4.out).mono ?_; rintro e w5 ⟨A5, c5, rfl, hc5, hr5, hb5⟩;
                    have b5 := B4.out.below hb5 B4.out.lt; have z1 : w5.cell? ⟨w.heap.size, 1, none⟩ = some (strV nm) := b5.cell 1 rfl; have z2 : w5.cell? ⟨w.heap.size, 2, none⟩ = some (strV to) := b5.cell 2 rfl;
                    have HC5 := Lib.hid hc5; have HR5 := Lib.hid hr5; have HB5 := Lib.hid (below_to HB4.out hb5); clear hc5 hr5 hb5 b5))
            go_wp2
            go_ret2
            exact doEnd_ok HO.out HC5.out HR5.out HB5.out
        · have e2 : (k == 2) = false := by rw [beq_eq_false_iff_ne]; exact hk2
          by_cases hk3 : k = 3
          · subst hk3
            have HD3 : Hid (D = if applyE l h = 0 then (0, put lt t nm (applyL l h)) else (applyE l h, [])) := Lib.hid (by rw [HD2.out, if_neg hk1, if_neg hk2]; rfl)
            clear HD2
            go_wp2_with fail
            refine (H6.out AL m cl l w3 HM.out hcl (Nat.le_trans hll (by decide)) RL3.out HVV.out.h).mono ?_
            rintro e w4 ⟨A4, k4, c4, rfl, hc4, hl4, hr4, hb4⟩
            have b4 := B3.out.below hb4 B3.out.lt
            have HR4 := Lib.hid hr4; have HB4 := Lib.hid (below_to HB3.out hb4); have HRT4 := Lib.hid (rdT_mv HRT.out hb4)
            have x1' : w4.cell? ⟨w.heap.size, 1, none⟩ = some (strV nm) := b4.cell 1 rfl
            have hk45 : k4 ≤ 100000 := by have h1 := applyL_len (l := l) (h := h); rw [hl4, HM.out, HVV.out.h.l'] at h1; have := HHN.out; omega
            have HL4 := Lib.hid hl4
            clear hl4 hr4 hb4 x0 x1 x2 x3 x4 x5 B3 HVV RL3 b4
            by_cases hz : applyE l h = 0
            · have HO : Hid (D = (0, put lt t nm (applyL l h))) := Lib.hid (by rw [HD3.out, if_pos hz])
              rw [hz]
              clear HD3
              go_wp2_with fail
              refine (H4.out nm A4 k4 c4 (applyL l h) w4 HL4.out hk45 HRT4.out HR4.out).mono ?_
              rintro e w5 ⟨A5, c5, rfl, hc5, hr5, hb5⟩
              have HC5 := Lib.hid hc5; have HR5 := Lib.hid hr5; have HB5 := Lib.hid (below_to HB4.out hb5)
              clear hc5 hr5 hb5 x1'
              go_wp2
              go_ret2
              exact doEnd_ok HO.out HC5.out HR5.out HB5.out
            · have HO : Hid (D = (applyE l h, [])) := Lib.hid (by rw [HD3.out, if_neg hz])
              clear HD3
              generalize applyE l h = ae at *
              have ez : (ae == 0) = false := by rw [beq_eq_false_iff_ne]; exact hz
              go_wp2
              go_ret2
              exact doEnd_err HO.out HB4.out
          · have e3 : (k == 3) = false := by rw [beq_eq_false_iff_ne]; exact hk3
            have HD3 : Hid (D = if (if l = h.old then (0 : Int) else 5) = 0 then (0, put lt t nm h.new) else ((if l = h.old then (0 : Int) else 5), [])) := Lib.hid (by rw [HD2.out, if_neg hk1, if_neg hk2]; unfold lineE lineL; dsimp only; rw [if_neg hk3, if_neg hk3])
            clear HD2
            go_wp2_with fail
            refine (Tx.Same AL A cl c m n w3.heap.size l h.old w3 HM.out HVV.out.h.l (Nat.le_trans hll (by decide)) RL3.out HVV.out.h.r).mono ?_
            rintro e w4 ⟨rfl, d, rfl⟩
            have HB4 : Hid (Below w.heap.size w (w3.drewN d)) := Lib.hid (below_drewN HB3.out d)
            have b4 := B3.out.drewN d
            by_cases hz : l = h.old
            · have HO : Hid (D = (0, put lt t nm h.new)) := Lib.hid (by rw [HD3.out, if_pos hz, if_pos rfl])
              clear HD3
              have hdz : decide (l = h.old) = true := decide_eq_true hz
              rw [hdz]
              go_wp2_with fail
              refine (H4.out nm A' n' c' h.new (w3.drewN d) HVV.out.h.l' (by have := HHN.out; omega) (HRT.out.drewN d) (Rd.drewN HVV.out.h.r' d)).mono ?_
              rintro e w5 ⟨A5, c5, rfl, hc5, hr5, hb5⟩
              have HC5 := Lib.hid hc5; have HR5 := Lib.hid hr5; have HB5 := Lib.hid (below_to HB4.out hb5)
              clear hc5 hr5 hb5 x0 x1 x2 x3 x4 x5
              go_wp2
              go_ret2
              exact doEnd_ok HO.out HC5.out HR5.out HB5.out
            · have HO : Hid (D = (5, [])) := Lib.hid (by rw [HD3.out, if_neg hz]; rfl)
              clear HD3
              have hdz : decide (l = h.old) = false := decide_eq_false hz
              rw [hdz]
              go_wp2
              go_ret2
              exact doEnd_err HO.out HB4.out

end Pr
end Go.Proofs.YtfnhjflocfmcoaaGreat

namespace Go.Proofs.YtfnhjflocfmcoaaGreat
open Go.RowKit
set_option linter.unusedVariables false
set_option linter.unusedSimpArgs false
namespace Pr
open Tx Df Sq Hk Tr

end Pr
end Go.Proofs.YtfnhjflocfmcoaaGreat

set_option maxRecDepth 100000
namespace Go.Proofs.YtfnhjflocfmcoaaGreat
open Go.RowKit
set_option linter.unusedVariables false
namespace Sw
open Tx Df Hk

theorem own (A : Option Addr) (c n B : Nat) (ls : List (List UInt8)) (w : World) (hn : ls.length = n) (hln : n ≤ 1000000) (hR : RdS w B A ls) :
    Calls Tryz.prog 133 #[.slice A n c] w (OwnEnd w n (ls.map strV)) := by
  obtain ⟨j0, hj, hy0, hy1, hy2⟩ := info_parts info_str
  have HN := Lib.hid hn; clear hn
  go_enter Tryz.func133, Tryz.ntmps133
  go_wp2_with (at_builtin; refine wpList_nil' rfl (.const (.slice none 0 0)) (.tmp 3) 49 rfl 9 j0 (.string ⟨#[]⟩) 16 Tryz.underlying49 hj hy0 hy1 hy2 rfl rfl B A n c (ls.map strV) rfl (by rw [List.length_map]; exact HN.out) hR (strs_one _) (by unfold maxLen; omega) (by omega) ?_; intro A' c' w' hA hg)
  go_ret
  exact ⟨A', c', rfl, hA, hg⟩

end Sw
end Go.Proofs.YtfnhjflocfmcoaaGreat

namespace Go.Proofs.YtfnhjflocfmcoaaGreat
open Go.RowKit
set_option linter.unusedVariables false
namespace Sw
open Tx Df Hk

/-- What Pass tells: nothing if one may not be, or if one would stand above the limit. -/
def passH (p q : HU) : Option (HU × HU) := if mayH p && mayH q then (pass p q).bind (fun z => if z.1.pos ≤ 1048576 ∧ z.2.pos ≤ 1048576 then some z else none) else none
def zeroH : HU := ⟨0, [], []⟩
def outH (o : Option (HU × HU)) : HU × HU := o.getD (zeroH, zeroH)

/-- How Pass ends. -/
def PassEnd (w : World) (o : Option (HU × HU)) (e : Ending) (w' : World) : Prop :=
  ∃ A n c A' n' c' D m k D' m' k', e = .returned (.tuple #[hkV (outH o).1.pos A n c A' n' c', hkV (outH o).2.pos D m k D' m' k', .bool o.isSome]) ∧
    HV w' w'.heap.size A n c A' n' c' (outH o).1 ∧ HV w' w'.heap.size D m k D' m' k' (outH o).2 ∧ Below w.heap.size w w'

/-- The same, of lines in memory of their own. -/
def PassEndH (w : World) (o : Option (HU × HU)) (e : Ending) (w' : World) : Prop :=
  ∃ A n c A' n' c' D m k D' m' k', e = .returned (.tuple #[hkV (outH o).1.pos A n c A' n' c', hkV (outH o).2.pos D m k D' m' k', .bool o.isSome]) ∧
    HV w' w'.heap.size A n c A' n' c' (outH o).1 ∧ HV w' w'.heap.size D m k D' m' k' (outH o).2 ∧ (Hi w.heap.size A ∧ Hi w.heap.size A' ∧ Hi w.heap.size D ∧ Hi w.heap.size D') ∧ Below w.heap.size w w'
theorem PassEndH.end_ {w w' : World} {o : Option (HU × HU)} {e : Ending} (h : PassEndH w o e w') : PassEnd w o e w' := by
  obtain ⟨A, n, c, A', n', c', D, m, k, D', m', k', h1, h2, h3, _, h4⟩ := h
  exact ⟨A, n, c, A', n', c', D, m, k, D', m', k', h1, h2, h3, h4⟩
theorem passH_may {p q : HU} {z : HU × HU} (h : passH p q = some z) : mayH p = true ∧ mayH q = true ∧ pass p q = some z ∧ z.1.pos ≤ 1048576 ∧ z.2.pos ≤ 1048576 := by
  unfold passH at h
  split at h
  · rename_i hm
    rw [Bool.and_eq_true] at hm
    cases hp : pass p q with
    | none => rw [hp] at h; cases h
    | some y =>
      rw [hp, Option.bind_some] at h
      split at h
      · rename_i hl
        cases h
        exact ⟨hm.1, hm.2, rfl, hl.1, hl.2⟩
      · cases h
  · cases h
theorem mayH_pos {h : HU} (hm : mayH h = true) : 0 ≤ h.pos ∧ h.pos ≤ 1048576 := by
  unfold mayH at hm
  simp only [Bool.and_eq_true, decide_eq_true_eq] at hm
  exact hm.1

theorem zero_HV (w : World) (B : Nat) : HV w B none 0 0 none 0 0 zeroH := ⟨rfl, rfl, Nat.le_refl _, Nat.le_refl _, Nat.zero_le _, Nat.zero_le _, .inl rfl, .inl rfl, ⟨by decide, by decide⟩⟩
theorem passEnd_none {w w' : World} {o : Option (HU × HU)} (ho : o = none) (hb : Below w.heap.size w w') : PassEnd w o (.returned (.tuple #[hkV 0 none 0 0 none 0 0, hkV 0 none 0 0 none 0 0, .bool false])) w' := by
  subst ho
  exact ⟨none, 0, 0, none, 0, 0, none, 0, 0, none, 0, 0, rfl, zero_HV _ _, zero_HV _ _, hb⟩

end Sw
end Go.Proofs.YtfnhjflocfmcoaaGreat

namespace Go.Proofs.YtfnhjflocfmcoaaGreat
open Go.RowKit
set_option linter.unusedVariables false
namespace Sw
open Tx Df Sq Hk

theorem mayH_moved {g h : HU} (hm : mayH g = true) (ho : h.old = g.old) (hn : h.new = g.new) (h0 : 0 ≤ h.pos) (h1 : h.pos ≤ 1048576) : mayH h = true := by
  unfold mayH at hm ⊢
  rw [ho, hn]
  simp only [Bool.and_eq_true, decide_eq_true_eq] at hm ⊢
  exact ⟨⟨h0, h1⟩, hm.2⟩
/-- What passed may be. -/
theorem passH_mays {p q x y : HU} (h : passH p q = some (x, y)) : mayH x = true ∧ mayH y = true := by
  obtain ⟨h1, h2, h3, h4, h5⟩ := passH_may h
  obtain ⟨a1, a2⟩ := pass_pos (x := x) (y := y) h3 (mayH_pos h1).1 (mayH_pos h2).1
  obtain ⟨_, b1, b2, b3, b4⟩ := pass_moves (x := x) (y := y) h3
  exact ⟨mayH_moved h2 b1 b2 a1 h4, mayH_moved h1 b3 b4 a2 h5⟩
end Sw
end Go.Proofs.YtfnhjflocfmcoaaGreat

set_option maxRecDepth 100000
namespace Go.Proofs.YtfnhjflocfmcoaaGreat
namespace Pr
open Tx Sq Hk Tr
set_option linter.unusedVariables false

/-- Two name no file both. -/
structure Apart (p q : Ch) : Prop where
  nn : p.nm ≠ q.nm
  tn : p.k = 2 → p.to ≠ q.nm
  nt : q.k = 2 → p.nm ≠ q.to
  tt : p.k = 2 → q.k = 2 → p.to ≠ q.to
theorem Apart.symm {p q : Ch} (h : Apart p q) : Apart q p := ⟨h.nn.symm, fun hk => (h.nt hk).symm, fun hk => (h.tn hk).symm, fun h1 h2 => (h.tt h2 h1).symm⟩

def namesP (p : Ch) (n : List UInt8) : Bool := decide (p.nm = n) || (decide (p.k = 2) && decide (p.to = n))
def apartP (p q : Ch) : Bool := !namesP p q.nm && (decide (q.k ≠ 2) || !namesP p q.to)
theorem apartP_iff {p q : Ch} : apartP p q = true ↔ Apart p q := by
  unfold apartP namesP
  simp only [Bool.and_eq_true, Bool.or_eq_true, Bool.not_eq_true', Bool.or_eq_false_iff, Bool.and_eq_false_iff, decide_eq_true_eq, decide_eq_false_iff_not]
  constructor
  · rintro ⟨⟨h1, h2⟩, h3⟩
    refine ⟨h1, fun hk => h2.resolve_left (fun h => h hk), fun hk => ?_, fun hk hk' => ?_⟩
    · rcases h3 with h3 | h3
      · exact absurd hk h3
      · exact h3.1
    · rcases h3 with h3 | h3
      · exact absurd hk' h3
      · exact h3.2.resolve_left (fun h => h hk)
  · rintro ⟨h1, h2, h3, h4⟩
    refine ⟨⟨h1, ?_⟩, ?_⟩
    · by_cases hk : p.k = 2
      · exact .inr (h2 hk)
      · exact .inl hk
    · by_cases hk : q.k = 2
      · refine .inr ⟨h3 hk, ?_⟩
        by_cases hk' : p.k = 2
        · exact .inr (h4 hk' hk)
        · exact .inl hk'
      · exact .inl hk

/-- What two changes are when the second one is ahead. -/
def passP (p q : Ch) : Option (Ch × Ch) :=
  if mayP p = false ∨ mayP q = false then none
  else if apartP p q = true then some (q, p)
  else if p.k = 3 ∧ q.k = 3 then (Sw.passH p.h q.h).map fun z => (⟨q.k, q.nm, q.to, z.1⟩, ⟨p.k, p.nm, p.to, z.2⟩)
  else if p.k = 2 ∧ (q.k = 3 ∨ q.k = 4) ∧ q.nm = p.to then some (⟨q.k, p.nm, q.to, q.h⟩, p)
  else if q.k = 2 ∧ (p.k = 3 ∨ p.k = 4) ∧ p.nm = q.nm then some (q, ⟨p.k, q.to, p.to, p.h⟩)
  else none

/-- The ways in which two pass. -/
inductive Way (p q : Ch) : Ch → Ch → Prop
  | apart (h : Apart p q) : Way p q q p
  | both (hp : p.k = 3) (hq : q.k = 3) (hn : p.nm = q.nm) (u v : HU) (h : Sw.passH p.h q.h = some (u, v)) : Way p q ⟨q.k, q.nm, q.to, u⟩ ⟨p.k, p.nm, p.to, v⟩
  | out (hp : p.k = 2) (hq : q.k = 3 ∨ q.k = 4) (hn : q.nm = p.to) : Way p q ⟨q.k, p.nm, q.to, q.h⟩ p
  | into (hq : q.k = 2) (hp : p.k = 3 ∨ p.k = 4) (hn : p.nm = q.nm) : Way p q q ⟨p.k, q.to, p.to, p.h⟩

/-- Two patches that are not apart are of one file. -/
theorem both_name {p q : Ch} (h : ¬ Apart p q) (hp : p.k = 3) (hq : q.k = 3) : p.nm = q.nm := by
  by_cases hn : p.nm = q.nm
  · exact hn
  · exact absurd ⟨hn, fun h => absurd h (by omega), fun h => absurd h (by omega), fun h => absurd h (by omega)⟩ h
theorem passP_way {p q x y : Ch} (h : passP p q = some (x, y)) : mayP p = true ∧ mayP q = true ∧ Way p q x y := by
  unfold passP at h
  split at h
  · cases h
  · rename_i hm
    have hp : mayP p = true := by
      cases hb : mayP p with
      | true => rfl
      | false => exact absurd (.inl hb) hm
    have hq : mayP q = true := by
      cases hb : mayP q with
      | true => rfl
      | false => exact absurd (.inr hb) hm
    refine ⟨hp, hq, ?_⟩
    split at h
    · rename_i ha
      injection h with h; injection h with h1 h2
      subst h1 h2
      exact .apart (apartP_iff.1 ha)
    · rename_i ha
      have ha : ¬ Apart p q := fun a => ha (apartP_iff.2 a)
      split at h
      · rename_i hk
        cases hz : Sw.passH p.h q.h with
        | none => rw [hz] at h; cases h
        | some z =>
          rw [hz] at h
          injection h with h; injection h with h1 h2
          subst h1 h2
          exact .both hk.1 hk.2 (both_name ha hk.1 hk.2) z.1 z.2 hz
      · split at h
        · rename_i hk
          injection h with h; injection h with h1 h2
          subst h1 h2
          exact .out hk.1 hk.2.1 hk.2.2
        · split at h
          · rename_i hk
            injection h with h; injection h with h1 h2
            subst h1 h2
            exact .into hk.1 hk.2.1 hk.2.2
          · cases h
theorem may_h {p : Ch} (hm : mayP p = true) (hk : p.k = 3 ∨ p.k = 4) : name p.nm = true ∧ p.to = [] ∧ mayH p.h = true ∧ (p.k = 4 → p.h.pos = 0) := by
  obtain ⟨hn, h⟩ := mayP_cases.1 hm
  rcases h with ⟨h, _⟩ | ⟨h, _⟩ | ⟨h, h1, h2⟩ | ⟨h, h1, h2, h3⟩
  · omega
  · omega
  · exact ⟨hn, h1, h2, fun h => by omega⟩
  · exact ⟨hn, h1, h2, fun _ => h3⟩
end Pr
end Go.Proofs.YtfnhjflocfmcoaaGreat

namespace Go.Proofs.YtfnhjflocfmcoaaGreat
open Go.RowKit
set_option linter.unusedVariables false
namespace Pr
open Tx Df Sq Hk Tr

/-- Noughts. -/
def zeroP : Ch := ⟨0, [], [], ⟨0, [], []⟩⟩
def outP (o : Option (Ch × Ch)) : Ch × Ch := o.getD (zeroP, zeroP)

/-- How a call ends that tells the changes x and y, and b. -/
def PPEnd (w : World) (x y : Ch) (b : Bool) (e : Ending) (w' : World) : Prop :=
  ∃ A n c B m d D i j E k l, e = .returned (.tuple #[prV x.k x.nm x.to x.h.pos A n c B m d, prV y.k y.nm y.to y.h.pos D i j E k l, .bool b]) ∧
    PV w' w'.heap.size A n c B m d x ∧ PV w' w'.heap.size D i j E k l y ∧ (n ≤ 1000 ∧ m ≤ 1000) ∧ (i ≤ 1000 ∧ k ≤ 1000) ∧ Below w.heap.size w w'

theorem zero_PV (w : World) (B : Nat) : PV w B none 0 0 none 0 0 zeroP :=
  ⟨⟨rfl, rfl, Nat.le_refl _, Nat.le_refl _, Nat.zero_le _, Nat.zero_le _, .inl rfl, .inl rfl, ⟨by decide, by decide⟩⟩, ⟨by decide, by decide⟩, Nat.zero_le _, Nat.zero_le _, fun x hx => (by cases hx), fun x hx => (by cases hx)⟩

section
variable {w w' : World} {A B D E : Option Addr} {n c m d i j k l : Nat} {p q x y : Ch} {b : Bool}
/-- Noughts are told. -/
theorem ppEnd_none (ho : outP (passP p q) = (x, y)) (hb : (passP p q).isSome = b) (h : passP p q = none) (hw : Below w.heap.size w w') :
    PPEnd w x y b (.returned (.tuple #[.agg #[.int .i64 0, strV [], strV [], .int .i64 0, .slice none 0 0, .slice none 0 0], .agg #[.int .i64 0, strV [], strV [], .int .i64 0, .slice none 0 0, .slice none 0 0], .bool false])) w' := by
  rw [h] at ho hb
  subst hb
  injection ho with h1 h2
  subst h1 h2
  exact ⟨none, 0, 0, none, 0, 0, none, 0, 0, none, 0, 0, rfl, zero_PV _ _, zero_PV _ _, ⟨Nat.zero_le _, Nat.zero_le _⟩, ⟨Nat.zero_le _, Nat.zero_le _⟩, hw⟩
/-- Two are told. -/
theorem ppEnd_some (ho : outP (passP p q) = (x, y)) (hb : (passP p q).isSome = b) {x' y' : Ch} (h : passP p q = some (x', y')) (hv : PV w' w'.heap.size A n c B m d x') (gv : PV w' w'.heap.size D i j E k l y') (hl : n ≤ 1000 ∧ m ≤ 1000) (gl : i ≤ 1000 ∧ k ≤ 1000) (hw : Below w.heap.size w w') :
    PPEnd w x y b (.returned (.tuple #[prV x'.k x'.nm x'.to x'.h.pos A n c B m d, prV y'.k y'.nm y'.to y'.h.pos D i j E k l, .bool true])) w' := by
  rw [h] at ho hb
  subst hb
  injection ho with h1 h2
  subst h1 h2
  exact ⟨A, n, c, B, m, d, D, i, j, E, k, l, rfl, hv, gv, hl, gl, hw⟩
/-- A change of another name, or place. -/
theorem PV.name (hv : PV w k A n c B m d p) (s : List UInt8) (hs : s.length ≤ maxLen) : PV w k A n c B m d ⟨p.k, s, p.to, p.h⟩ := ⟨hv.h, hv.k, hs, hv.to, hv.s, hv.s'⟩
theorem PV.hunk {N N' : Nat} (hv : PV w N A n c B m d p) {h : HU} (gv : HV w' N' D i j E k l h) (ho : h.old = p.h.old) (hn : h.new = p.h.new) : PV w' N' D i j E k l ⟨p.k, p.nm, p.to, h⟩ := ⟨gv, hv.k, hv.nm, hv.to, (by dsimp only; rw [ho]; exact hv.s), (by dsimp only; rw [hn]; exact hv.s')⟩
end

theorem PV.hi {W : World} {N lo b : Nat} {A B : Option Addr} {n c m d : Nat} {x : Ch} (h : PV W N A n c B m d x) (hi : Hi lo A) (hi' : Hi lo B) (hb : b < lo) (j : Nat) (v : Value) : PV (W.setCell ⟨b, j, none⟩ v) N A n c B m d x :=
  ⟨⟨h.h.l, h.h.l', h.h.k, h.h.k', h.h.m, h.h.m', rdS_hi h.h.r hi hb j v, rdS_hi h.h.r' hi' hb j v, h.h.p⟩, h.k, h.nm, h.to, h.s, h.s'⟩
/-- A change of another's name and place. -/
theorem PV.as {w w' : World} {N N' : Nat} {A B D E : Option Addr} {n c m d i j k l : Nat} {x q : Ch} (hx : PV w N A n c B m d x) (hq : PV w' N' D i j E k l q) : PV w N A n c B m d ⟨x.k, q.nm, x.to, ⟨q.h.pos, x.h.old, x.h.new⟩⟩ :=
  ⟨⟨hx.h.l, hx.h.l', hx.h.k, hx.h.k', hx.h.m, hx.h.m', hx.h.r, hx.h.r', hq.h.p⟩, hx.k, hq.nm, hx.to, hx.s, hx.s'⟩
/-- The same, of lines in memory of their own. -/
def PPEndH (w : World) (x y : Ch) (b : Bool) (e : Ending) (w' : World) : Prop :=
  ∃ A n c B m d D i j E k l, e = .returned (.tuple #[prV x.k x.nm x.to x.h.pos A n c B m d, prV y.k y.nm y.to y.h.pos D i j E k l, .bool b]) ∧
    PV w' w'.heap.size A n c B m d x ∧ PV w' w'.heap.size D i j E k l y ∧ (n ≤ 1000 ∧ m ≤ 1000) ∧ (i ≤ 1000 ∧ k ≤ 1000) ∧ (Hi w.heap.size A ∧ Hi w.heap.size B ∧ Hi w.heap.size D ∧ Hi w.heap.size E) ∧ Below w.heap.size w w'
theorem PPEndH.end_ {w w' : World} {x y : Ch} {b : Bool} {e : Ending} (h : PPEndH w x y b e w') : PPEnd w x y b e w' := by
  obtain ⟨A, n, c, B, m, d, D, i, j, E, k, l, h1, h2, h3, h4, h5, _, h6⟩ := h
  exact ⟨A, n, c, B, m, d, D, i, j, E, k, l, h1, h2, h3, h4, h5, h6⟩

end Pr
end Go.Proofs.YtfnhjflocfmcoaaGreat

namespace Go.Proofs.YtfnhjflocfmcoaaGreat
open Go.RowKit
set_option linter.unusedVariables false
namespace Pr
open Tx Df Sq Hk Tr

/-- How a call ends that tells the lines that are handed in, as they are. -/
def PPEndE (A : Option Addr) (n c : Nat) (A' : Option Addr) (n' c' : Nat) (D : Option Addr) (m k : Nat) (D' : Option Addr) (m' k' : Nat) (w : World) (o : Option (Ch × Ch)) (e : Ending) (w' : World) : Prop :=
  (∀ z, o = some z → e = .returned (.tuple #[prV z.1.k z.1.nm z.1.to z.1.h.pos D m k D' m' k', prV z.2.k z.2.nm z.2.to z.2.h.pos A n c A' n' c', .bool true])) ∧
  (o = none → e = .returned (.tuple #[.agg #[.int .i64 0, strV [], strV [], .int .i64 0, .slice none 0 0, .slice none 0 0], .agg #[.int .i64 0, strV [], strV [], .int .i64 0, .slice none 0 0, .slice none 0 0], .bool false])) ∧ Below w.heap.size w w'
section
variable {A A' D D' : Option Addr} {n c n' c' m k m' k' : Nat} {w w' : World} {o : Option (Ch × Ch)} {e : Ending} {p q x y : Ch} {b : Bool}
/-- What is told reads as the lines that are handed in. -/
theorem way_pv {N : Nat} (h : Way p q x y) (hv : PV w N A n c A' n' c' p) (gv : PV w N D m k D' m' k' q) : PV w N D m k D' m' k' x ∧ PV w N A n c A' n' c' y := by
  cases h with
  | apart h => exact ⟨gv, hv⟩
  | out kp kq hn => exact ⟨gv.name p.nm hv.nm, hv⟩
  | into kq kp hn => exact ⟨gv, hv.name q.to gv.to⟩
  | both kp kq hn u v h =>
    obtain ⟨m1, m2⟩ := Sw.passH_mays h
    obtain ⟨_, b1, b2, b3, b4⟩ := Sw.pass_moves (x := u) (y := v) (Sw.passH_may h).2.2.1
    have g1 := Sw.mayH_pos m1
    have g2 := Sw.mayH_pos m2
    refine ⟨gv.hunk (h := u) ⟨by rw [b1]; exact gv.h.l, by rw [b2]; exact gv.h.l', gv.h.k, gv.h.k', gv.h.m, gv.h.m', by rw [b1]; exact gv.h.r, by rw [b2]; exact gv.h.r', ⟨by omega, by omega⟩⟩ b1 b2, ?_⟩
    exact hv.hunk (h := v) ⟨by rw [b3]; exact hv.h.l, by rw [b4]; exact hv.h.l', hv.h.k, hv.h.k', hv.h.m, hv.h.m', by rw [b3]; exact hv.h.r, by rw [b4]; exact hv.h.r', ⟨by omega, by omega⟩⟩ b3 b4
theorem PPEndE.end_ (h : PPEndE A n c A' n' c' D m k D' m' k' w (passP p q) e w') (hl : n ≤ 1000 ∧ n' ≤ 1000) (gl : m ≤ 1000 ∧ m' ≤ 1000) (hv : PV w w.heap.size A n c A' n' c' p) (gv : PV w w.heap.size D m k D' m' k' q) (ho : outP (passP p q) = (x, y)) (hb : (passP p q).isSome = b) : PPEnd w x y b e w' := by
  obtain ⟨h1, h2, hw⟩ := h
  cases hz : passP p q with
  | none => rw [h2 hz]; exact ppEnd_none ho hb hz hw
  | some z =>
    rw [h1 z hz]
    obtain ⟨v1, v2⟩ := way_pv (passP_way (x := z.1) (y := z.2) hz).2.2 (hv.mv hw) (gv.mv hw)
    exact ppEnd_some ho hb (x' := z.1) (y' := z.2) hz v1 v2 gl hl hw
end

end Pr
end Go.Proofs.YtfnhjflocfmcoaaGreat

namespace Go.Proofs.YtfnhjflocfmcoaaGreat
namespace Pr
open Tx Sq Hk Tr
set_option linter.unusedVariables false

end Pr
end Go.Proofs.YtfnhjflocfmcoaaGreat

namespace Go.Proofs.YtfnhjflocfmcoaaGreat
open Go.RowKit
set_option linter.unusedVariables false
set_option linter.unusedSimpArgs false
namespace Pr
open Tx Df Sq Hk Tr

set_option maxHeartbeats 1000000 in
theorem Names (A : Option Addr) (n c : Nat) (A' : Option Addr) (n' c' : Nat) (p : Ch) (s : List UInt8) (w : World) (b : Bool) (hb : namesP p s = b) :
    Calls Tryz.prog 108 #[prV p.k p.nm p.to p.h.pos A n c A' n' c', strV s] w (TestEnd w b) := by
  have HB := Lib.hid hb.symm
  clear hb
  have hw : Below w.heap.size w (w.alloc (.cells #[.int .i64 p.k, strV p.nm, strV p.to, .int .i64 p.h.pos, .slice A n c, .slice A' n' c'] 55)) := (Below.refl _ _).alloc (Nat.le_refl _) _
  have HW := Lib.hid hw; clear hw
  unfold namesP at HB
  by_cases h1 : p.nm = s
  · have e1 : (p.nm == s) = true := by simpa using h1
    have H1 := Lib.hid h1; clear h1
    go_enter Tryz.func108, Tryz.ntmps108
    go_wp2
    go_ret
    exact ⟨ret_bool (by rw [HB.out, decide_eq_true H1.out]; rfl), HW.out⟩
  have e1 : (p.nm == s) = false := by simpa using h1
  have H1 := Lib.hid h1; clear h1
  by_cases h2 : p.k = 2
  · have e2 : (p.k == 2) = true := by simpa using h2
    have H2 := Lib.hid h2; clear h2
    cases h3 : (p.to == s)
    all_goals
      go_enter Tryz.func108, Tryz.ntmps108
      go_wp2
      go_ret
    · exact ⟨ret_bool (by rw [HB.out, decide_eq_false H1.out, decide_eq_true H2.out, decide_eq_false (by simpa using h3)]; rfl), HW.out⟩
    · exact ⟨ret_bool (by rw [HB.out, decide_eq_false H1.out, decide_eq_true H2.out, decide_eq_true (by simpa using h3)]; rfl), HW.out⟩
  · have e2 : (p.k == 2) = false := by simpa using h2
    go_enter Tryz.func108, Tryz.ntmps108
    go_wp2
    go_ret
    exact ⟨ret_bool (by rw [HB.out, decide_eq_false H1.out, decide_eq_false h2]; rfl), HW.out⟩

end Pr
end Go.Proofs.YtfnhjflocfmcoaaGreat

set_option maxRecDepth 100000
namespace Go.Proofs.YtfnhjflocfmcoaaGreat
namespace Fl
open Tx Sq Hk Tr Pr
set_option linter.unusedVariables false

section
variable {α : Type} (P : α → α → Option (α × α))

/-- One passes a list, from the last one to the first one. -/
def one : List α → α → Option (α × List α)
  | [], q => some (q, [])
  | p :: a, q => (one a q).bind fun z => (P p z.1).map fun y => (y.1, y.2 :: z.2)
/-- Each of a list, in order, passes a list. -/
def passL : List α → List α → Option (List α × List α)
  | a, [] => some ([], a)
  | a, q :: b => (one P a q).bind fun z => (passL z.2 b).map fun y => (z.1 :: y.1, y.2)

variable {τ : Type} (D : τ → α → Option τ) (I : τ → Prop)
/-- What is done by each of a list, one behind the other. -/
def doL : τ → List α → Option τ
  | t, [] => some t
  | t, p :: a => (D t p).bind fun u => doL u a
theorem doL_cons {t u : τ} {p : α} {a : List α} (h : D t p = some u) : doL D t (p :: a) = doL D u a := by rw [doL, h]; rfl
theorem doL_cons_inv {t v : τ} {p : α} {a : List α} (h : doL D t (p :: a) = some v) : ∃ u, D t p = some u ∧ doL D u a = some v := by
  rw [doL] at h
  cases h1 : D t p with
  | none => rw [h1] at h; cases h
  | some u => rw [h1] at h; exact ⟨u, rfl, h⟩
theorem doL_app : ∀ (a b : List α) (t : τ), doL D t (a ++ b) = (doL D t a).bind fun u => doL D u b
  | [], _, _ => rfl
  | p :: a, b, t => by
    rw [List.cons_append, doL, doL]
    cases h : D t p with
    | none => rfl
    | some u => simp only [Option.bind_some]; exact doL_app a b u
theorem doL_inv (hI : ∀ {t u p}, I t → D t p = some u → I u) : ∀ {a : List α} {t u : τ}, I t → doL D t a = some u → I u
  | [], _, _, h, e => by injection e with e; rw [← e]; exact h
  | p :: a, t, u, h, e => by
    obtain ⟨v, h1, h2⟩ := doL_cons_inv D e
    exact doL_inv hI (hI h h1) h2
end

/-- A tree changed, or nothing. -/
def dP (t : TR) (p : Ch) : Option TR := if (doP t p).1 = 0 then some (doP t p).2 else none
theorem dP_some {t u : TR} {p : Ch} : dP t p = some u ↔ doP t p = (0, u) := by
  unfold dP
  constructor
  · intro h
    split at h
    · rename_i h0
      injection h with h
      rw [← h]
      exact Prod.ext h0 rfl
    · cases h
  · intro h
    rw [h]; rfl
/-- What a tree becomes by changes: the first error, or a tree. -/
def doF : TR → List Ch → Int × TR
  | t, [] => (0, t)
  | t, p :: a => if (doP t p).1 = 0 then doF (doP t p).2 a else ((doP t p).1, [])
theorem doF_cons_ok {t u : TR} {p : Ch} {a : List Ch} (h : doP t p = (0, u)) : doF t (p :: a) = doF u a := by rw [doF, h]; rfl
theorem doF_cons_no {t : TR} {p : Ch} {a : List Ch} (h : (doP t p).1 ≠ 0) : doF t (p :: a) = ((doP t p).1, []) := by rw [doF, if_neg h]
theorem doF_some : ∀ {a : List Ch} {t u : TR}, doL dP t a = some u ↔ doF t a = (0, u)
  | [], t, u => by
    constructor
    · intro h; injection h with h; rw [h]; rfl
    · intro h; injection h with _ h; rw [← h]; rfl
  | p :: a, t, u => by
    by_cases h0 : (doP t p).1 = 0
    · have e : doP t p = (0, (doP t p).2) := Prod.ext h0 rfl
      rw [doL_cons dP (dP_some.2 e), doF_cons_ok e]
      exact doF_some
    · rw [doF_cons_no h0]
      constructor
      · intro h
        obtain ⟨v, h1, _⟩ := doL_cons_inv dP h
        rw [dP_some] at h1
        exact absurd (by rw [h1]) h0
      · intro h
        injection h with h _
        exact absurd h h0
def turnF (l : List Ch) : List Ch := (l.map turnP).reverse
abbrev passF : List Ch → List Ch → Option (List Ch × List Ch) := passL passP
end Fl
end Go.Proofs.YtfnhjflocfmcoaaGreat

namespace Go.Proofs.YtfnhjflocfmcoaaGreat
open Go.RowKit
set_option linter.unusedVariables false
namespace Fl
open Tx Df Sq Hk Tr Pr

/-- Two memories are alike in the blocks that S names. -/
def Alike (S : Nat → Prop) (W W' : World) : Prop := ∀ b, S b → b < W.heap.size → W'.heap[b]? = W.heap[b]?
section
variable {W W' W1 : World} {S T : Nat → Prop} {B b : Nat}
theorem Alike.mono (h : Alike T W W') (hs : ∀ b, S b → T b) : Alike S W W' := fun b hb hl => h b (hs b hb) hl
theorem alike_below (hb : Below B W W') : Alike (· < B) W W' := fun b h _ => hb.block b h
theorem alike_gr {row : Option Nat} (hg : W.grownBy W' row) : Alike (fun b => some b ≠ row) W W' := fun b h hl => hg.block b hl h
theorem alike_set (W : World) (b j : Nat) (v : Value) : Alike (· ≠ b) W (W.setCell ⟨b, j, none⟩ v) := fun k h hl => (grownBy_set W b j v).block k hl (by simpa using h)
theorem alike_drewN (S : Nat → Prop) (W : World) (d : Nat) : Alike S W (W.drewN d) := fun _ _ _ => rfl
end

/-- The address A leads, in a block that S names, to the cells xs; or there are none. -/
def RdG (w : World) (S : Nat → Prop) (A : Option Addr) (xs : List Value) : Prop := xs = [] ∨ ∃ a, A = some a ∧ S a.block ∧ ∀ (j : Nat) u, xs[j]? = some u → w.cell? (a.add j) = some u
section
variable {W W' : World} {S T : Nat → Prop} {A : Option Addr} {xs : List Value} {B : Nat} {ls : List (List UInt8)}
theorem RdG.mono (h : RdG W S A xs) (hs : ∀ b, S b → T b) : RdG W T A xs := h.imp id fun ⟨a, e, h1, h2⟩ => ⟨a, e, hs _ h1, h2⟩
theorem RdG.to (h : RdG W S A xs) (ha : Alike S W W') : RdG W' S A xs := h.imp id fun ⟨a, e, h1, h2⟩ => ⟨a, e, h1, fun j u hu => by
  have hc := h2 j u hu
  exact (World.cell?_of_block (ha _ (by rw [add_block]; exact h1) (World.block_lt_of_cell? W _ hc))).trans hc⟩
theorem RdG.rd (h : RdG W (· < B) A (ls.map strV)) : RdS W B A ls := h
end

/-- Two slice values that read, in blocks that S names, as a change's lines. -/
structure PG (w : World) (S : Nat → Prop) (A : Option Addr) (n c : Nat) (B : Option Addr) (m d : Nat) (p : Ch) : Prop where
  l : p.h.old.length = n
  l' : p.h.new.length = m
  k : n ≤ c
  k' : m ≤ d
  mm : n ≤ maxLen
  mm' : m ≤ maxLen
  r : RdG w S A (p.h.old.map strV)
  r' : RdG w S B (p.h.new.map strV)
  pp : I64 p.h.pos
  kk : I64 p.k
  nm : p.nm.length ≤ maxLen
  to : p.to.length ≤ maxLen
  s : ∀ x ∈ p.h.old, x.length ≤ maxLen
  s' : ∀ x ∈ p.h.new, x.length ≤ maxLen
section
variable {W W' : World} {S T : Nat → Prop} {A B : Option Addr} {n c m d N : Nat} {p : Ch}
theorem PG.mono (h : PG W S A n c B m d p) (hs : ∀ b, S b → T b) : PG W T A n c B m d p := ⟨h.l, h.l', h.k, h.k', h.mm, h.mm', h.r.mono hs, h.r'.mono hs, h.pp, h.kk, h.nm, h.to, h.s, h.s'⟩
theorem PG.to_ (h : PG W S A n c B m d p) (ha : Alike S W W') : PG W' S A n c B m d p := ⟨h.l, h.l', h.k, h.k', h.mm, h.mm', h.r.to ha, h.r'.to ha, h.pp, h.kk, h.nm, h.to, h.s, h.s'⟩
theorem PG.pv (h : PG W (· < N) A n c B m d p) : PV W N A n c B m d p := ⟨⟨h.l, h.l', h.k, h.k', h.mm, h.mm', h.r, h.r', h.pp⟩, h.kk, h.nm, h.to, h.s, h.s'⟩
/-- A change whose lines are in memory that is new. -/
theorem rdG_hi {ls : List (List UInt8)} {lo : Nat} (h : RdS W N A ls) (hi : Hi lo A) : RdG W (fun b => lo ≤ b ∧ b < N) A (ls.map strV) := by
  rcases h with h | ⟨a, e, h1, h2⟩
  · exact .inl h
  · exact .inr ⟨a, e, ⟨hi a e, h1⟩, h2⟩
end

/-- The cells of a change, the k-th of a row at the address a. -/
structure PrAt (w : World) (S : Nat → Prop) (a : Addr) (k : Nat) (x : Ch) : Prop where
  c0 : w.cell? (a.add (k * 6)) = some (.int .i64 x.k)
  c1 : w.cell? ⟨(a.add (k * 6)).block, (a.add (k * 6)).off + 1, none⟩ = some (strV x.nm)
  c2 : w.cell? ⟨(a.add (k * 6)).block, (a.add (k * 6)).off + 2, none⟩ = some (strV x.to)
  c3 : w.cell? ⟨(a.add (k * 6)).block, (a.add (k * 6)).off + 3, none⟩ = some (.int .i64 x.h.pos)
  c4 : ∃ A n c B m d, w.cell? ⟨(a.add (k * 6)).block, (a.add (k * 6)).off + 4, none⟩ = some (.slice A n c) ∧ w.cell? ⟨(a.add (k * 6)).block, (a.add (k * 6)).off + 5, none⟩ = some (.slice B m d) ∧ PG w S A n c B m d x

/-- The address A leads, in blocks that S names, to changes; or there are none. -/
def RdP (w : World) (S : Nat → Prop) (A : Option Addr) (l : List Ch) : Prop :=
  l = [] ∨ ∃ a, A = some a ∧ S a.block ∧ ∀ (k : Nat) x, l[k]? = some x → PrAt w S a k x
section
variable {W W' : World} {S T : Nat → Prop} {A : Option Addr} {l : List Ch} {N : Nat}
theorem PrAt.mono {a : Addr} {k : Nat} {x : Ch} (h : PrAt W S a k x) (hs : ∀ b, S b → T b) : PrAt W T a k x := by
  obtain ⟨c0, c1, c2, c3, A, n, c, B, m, d, c4, c5, c6⟩ := h
  exact ⟨c0, c1, c2, c3, A, n, c, B, m, d, c4, c5, c6.mono hs⟩
theorem cell_to {p : Addr} {u : Value} (ha : Alike S W W') (hp : S p.block) (hc : W.cell? p = some u) : W'.cell? p = some u := (World.cell?_of_block (ha _ hp (World.block_lt_of_cell? W _ hc))).trans hc
theorem PrAt.to {a : Addr} {k : Nat} {x : Ch} (h : PrAt W S a k x) (hS : S a.block) (ha : Alike S W W') : PrAt W' S a k x := by
  obtain ⟨c0, c1, c2, c3, A, n, c, B, m, d, c4, c5, c6⟩ := h
  have hb : S (a.add (k * 6)).block := by rw [add_block]; exact hS
  exact ⟨cell_to ha hb c0, cell_to ha hb c1, cell_to ha hb c2, cell_to ha hb c3, A, n, c, B, m, d, cell_to ha hb c4, cell_to ha hb c5, c6.to_ ha⟩
theorem RdP.mono (h : RdP W S A l) (hs : ∀ b, S b → T b) : RdP W T A l := h.imp id fun ⟨a, e, h1, h2⟩ => ⟨a, e, hs _ h1, fun k x hx => (h2 k x hx).mono hs⟩
theorem RdP.to (h : RdP W S A l) (ha : Alike S W W') : RdP W' S A l := h.imp id fun ⟨a, e, h1, h2⟩ => ⟨a, e, h1, fun k x hx => (h2 k x hx).to h1 ha⟩
theorem RdP.below {B : Nat} (h : RdP W (· < B) A l) (hb : Below B W W') : RdP W' (· < B) A l := h.to (alike_below hb)
theorem RdP.mv (h : RdP W (· < W.heap.size) A l) (hb : Below W.heap.size W W') : RdP W' (· < W'.heap.size) A l := (h.below hb).mono fun b hb' => Nat.lt_of_lt_of_le hb' hb.size
theorem RdP.drewN (h : RdP W S A l) (d : Nat) : RdP (W.drewN d) S A l := h.to (alike_drewN S W d)
theorem RdP.nil (W : World) (S : Nat → Prop) (A : Option Addr) : RdP W S A [] := .inl rfl
theorem RdP.at_ (h : RdP W S A l) {k : Nat} (hk : k < l.length) : ∃ a, A = some a ∧ S a.block ∧ PrAt W S a k l[k] := by
  rcases h with rfl | ⟨a, e, hlt, hc⟩
  · exact absurd hk (by simp)
  · exact ⟨a, e, hlt, hc k _ (List.getElem?_eq_getElem hk)⟩
/-- A part of a list. -/
theorem RdP.tail {x : Ch} {a : Addr} (h : RdP W S (some a) (x :: l)) : RdP W S (some (a.add 6)) l := by
  rcases h with h | ⟨a', e, h1, h2⟩
  · cases h
  · injection e with e
    subst e
    refine .inr ⟨_, rfl, by rw [add_block]; exact h1, fun k y hy => ?_⟩
    have := h2 (k + 1) y (by simpa using hy)
    have ea : (a.add 6).add (k * 6) = a.add ((k + 1) * 6) := by rw [add_add]; congr 1; omega
    obtain ⟨c0, c1, c2, c3, c4⟩ := this
    exact ⟨by rw [ea]; exact c0, by rw [ea]; exact c1, by rw [ea]; exact c2, by rw [ea]; exact c3, by rw [ea]; exact c4⟩
end

/-- The cells of changes, as far as they go; their lines lie in blocks that S names. -/
def PCells (W : World) (S : Nat → Prop) (l : List Ch) (xs : List Value) : Prop :=
  ∀ (k : Nat) x, l[k]? = some x → ∃ A n c B m d, xs[k * 6]? = some (.int .i64 x.k) ∧ xs[k * 6 + 1]? = some (strV x.nm) ∧ xs[k * 6 + 2]? = some (strV x.to) ∧ xs[k * 6 + 3]? = some (.int .i64 x.h.pos) ∧ xs[k * 6 + 4]? = some (.slice A n c) ∧ xs[k * 6 + 5]? = some (.slice B m d) ∧ PG W S A n c B m d x
section
variable {W W' : World} {S T : Nat → Prop} {l u : List Ch} {xs ys : List Value}
theorem PCells.mono (h : PCells W S l xs) (hs : ∀ b, S b → T b) : PCells W T l xs := fun k x hx => by
  obtain ⟨A, n, c, B, m, d, h0, h1, h2, h3, h4, h5, h6⟩ := h k x hx
  exact ⟨A, n, c, B, m, d, h0, h1, h2, h3, h4, h5, h6.mono hs⟩
theorem PCells.to (h : PCells W S l xs) (ha : Alike S W W') : PCells W' S l xs := fun k x hx => by
  obtain ⟨A, n, c, B, m, d, h0, h1, h2, h3, h4, h5, h6⟩ := h k x hx
  exact ⟨A, n, c, B, m, d, h0, h1, h2, h3, h4, h5, h6.to_ ha⟩
theorem PCells.nil (W : World) (S : Nat → Prop) (xs : List Value) : PCells W S [] xs := fun k x hx => by simp at hx
theorem PCells.one {A B : Option Addr} {n c m d : Nat} {x : Ch} (h : PG W S A n c B m d x) : PCells W S [x] [.int .i64 x.k, strV x.nm, strV x.to, .int .i64 x.h.pos, .slice A n c, .slice B m d] := fun k y hy => by
  cases k with
  | zero => cases hy; exact ⟨A, n, c, B, m, d, rfl, rfl, rfl, rfl, rfl, rfl, h⟩
  | succ k => simp at hy
theorem PCells.append (h : PCells W S l xs) (hl : xs.length = l.length * 6) (h' : PCells W S u ys) : PCells W S (l ++ u) (xs ++ ys) := fun k x hx => by
  by_cases hk : k < l.length
  · rw [List.getElem?_append_left hk] at hx
    obtain ⟨A, n, c, B, m, d, h0, h1, h2, h3, h4, h5, h6⟩ := h k x hx
    have hle : ∀ j, j < 6 → k * 6 + j < xs.length := fun j hj => by omega
    exact ⟨A, n, c, B, m, d, by rw [List.getElem?_append_left (by omega)]; exact h0, by rw [List.getElem?_append_left (by omega)]; exact h1, by rw [List.getElem?_append_left (by omega)]; exact h2, by rw [List.getElem?_append_left (by omega)]; exact h3, by rw [List.getElem?_append_left (by omega)]; exact h4, by rw [List.getElem?_append_left (by omega)]; exact h5, h6⟩
  · rw [List.getElem?_append_right (by omega)] at hx
    obtain ⟨A, n, c, B, m, d, h0, h1, h2, h3, h4, h5, h6⟩ := h' _ x hx
    have e : ∀ j, k * 6 + j - xs.length = (k - l.length) * 6 + j := fun j => by omega
    refine ⟨A, n, c, B, m, d, ?_, ?_, ?_, ?_, ?_, ?_, h6⟩
    · rw [List.getElem?_append_right (by omega), show k * 6 - xs.length = (k - l.length) * 6 by omega]; exact h0
    · rw [List.getElem?_append_right (by omega), e]; exact h1
    · rw [List.getElem?_append_right (by omega), e]; exact h2
    · rw [List.getElem?_append_right (by omega), e]; exact h3
    · rw [List.getElem?_append_right (by omega), e]; exact h4
    · rw [List.getElem?_append_right (by omega), e]; exact h5
theorem one6 : ∀ {u : List Ch} {ys : List Value}, PCells W S u ys → ys.length = u.length * 6 → ∀ y ∈ ys, Value.oneCell' y = true := fun {u ys} h hl y hy => by
  obtain ⟨j, hj, rfl⟩ := List.mem_iff_getElem.1 hy
  have hk : j / 6 < u.length := by omega
  obtain ⟨A, n, c, B, m, d, h0, h1, h2, h3, h4, h5, h6⟩ := h (j / 6) _ (List.getElem?_eq_getElem hk)
  obtain ⟨v, hv⟩ : ∃ v, ys[j] = v := ⟨_, rfl⟩
  have hj' : ys[j]? = some v := by rw [← hv]; exact List.getElem?_eq_getElem hj
  rw [hv]
  have hm : j % 6 < 6 := Nat.mod_lt _ (by decide)
  have hd : j / 6 * 6 + j % 6 = j := by omega
  rw [← hd] at hj'
  generalize j % 6 = r at *
  match r, hm with
  | 0, _ => rw [Nat.add_zero] at hj'; rw [h0] at hj'; injection hj' with e; rw [← e]; rfl
  | 1, _ => rw [h1] at hj'; injection hj' with e; rw [← e]; rfl
  | 2, _ => rw [h2] at hj'; injection hj' with e; rw [← e]; rfl
  | 3, _ => rw [h3] at hj'; injection hj' with e; rw [← e]; rfl
  | 4, _ => rw [h4] at hj'; injection hj' with e; rw [← e]; rfl
  | 5, _ => rw [h5] at hj'; injection hj' with e; rw [← e]; rfl
end

/-- The blocks that there are, but for one. -/
def Out (W : World) (row : Option Nat) : Nat → Prop := fun b => b < W.heap.size ∧ some b ≠ row
theorem out_gr {W W' : World} {row : Option Nat} (hg : W.grownBy W' row) : Alike (Out W row) W W' := fun b h hl => hg.block b hl h.2
theorem out_up {W W' : World} {row : Option Nat} (hs : W.heap.size ≤ W'.heap.size) : ∀ b, Out W row b → Out W' row b := fun b h => ⟨Nat.lt_of_lt_of_le h.1 hs, h.2⟩
theorem out_lt {W : World} {row : Option Nat} {B : Nat} (hB : B ≤ W.heap.size) (hr : ∀ g, row = some g → B ≤ g) : ∀ b, b < B → Out W row b := fun b hb => ⟨Nat.lt_of_lt_of_le hb hB, fun e => by have := hr b e.symm; omega⟩
theorem PCells.gr {W W' : World} {row : Option Nat} {l : List Ch} {xs : List Value} (h : PCells W (Out W row) l xs) (hg : W.grownBy W' row) : PCells W' (Out W' row) l xs := (h.to (out_gr hg)).mono (out_up hg.size)

/-- Changes in a row of one's own. -/
def OwnP (W : World) (base : Nat) (v : Value) (l : List Ch) : Prop := ∃ xs, W.ownsRow base 55 6 v l.length xs ∧ PCells W (Out W v.ownBlock) l xs
section
variable {W W' : World} {base : Nat} {v : Value} {l : List Ch}
theorem ownP_nil (W : World) (base : Nat) : OwnP W base (.slice none 0 0) [] := ⟨[], World.ownsRow_nil _ _ _ _, PCells.nil _ _ _⟩
theorem ownP_ge (h : OwnP W base v l) : ∀ k, v.ownBlock = some k → base ≤ k := fun k hk => (h.elim fun xs h => own_ge h.1 k hk)
theorem OwnP.below (h : OwnP W base v l) (hb : Below W.heap.size W W') : OwnP W' base v l := by
  obtain ⟨xs, h1, h2⟩ := h
  exact ⟨xs, own_gr h1 (below_gr_row hb), h2.gr (gr_none (below_gr_row hb))⟩
theorem OwnP.drewN (h : OwnP W base v l) (d : Nat) : OwnP (W.drewN d) base v l := h.below (below_drewN (Below.refl _ _) d)
/-- A row of changes of one's own is read as changes. -/
theorem rdP_own (h : OwnP W base v l) : ∃ A c, v = .slice A l.length c ∧ l.length ≤ c ∧ RdP W (· < W.heap.size) A l ∧ Hi base A := by
  obtain ⟨xs, hr, hF⟩ := h
  have hr0 := hr
  rcases hr.2 with ⟨rfl, h0⟩ | ⟨g, cap, cur, rfl, hbg, hg, hc, _⟩
  · have : l = [] := List.eq_nil_of_length_eq_zero h0
    subst this
    exact ⟨none, 0, rfl, Nat.le_refl _, .inl rfl, hi_none _⟩
  · refine ⟨_, cap, rfl, hc, .inr ⟨_, rfl, (Array.getElem?_eq_some_iff.1 hg).1, fun k x hx => ?_⟩, hi_own hr0⟩
    obtain ⟨A, n, c, B, m, d, h0, h1, h2, h3, h4, h5, h6⟩ := hF k x hx
    have hk : k < l.length := (List.getElem?_eq_some_iff.1 hx).1
    have ea : (⟨g, 0, none⟩ : Addr).add (k * 6) = ⟨g, k * 6, none⟩ := by unfold Addr.add; split <;> simp_all
    refine ⟨?_, ?_, ?_, ?_, A, n, c, B, m, d, ?_, ?_, h6.mono fun b hb => hb.1⟩
    · rw [ea, hr0.cellAt (k * 6) (by omega)]; exact h0
    · rw [ea]; show W.cell? ⟨g, k * 6 + 1, none⟩ = _; rw [hr0.cellAt (k * 6 + 1) (by omega)]; exact h1
    · rw [ea]; show W.cell? ⟨g, k * 6 + 2, none⟩ = _; rw [hr0.cellAt (k * 6 + 2) (by omega)]; exact h2
    · rw [ea]; show W.cell? ⟨g, k * 6 + 3, none⟩ = _; rw [hr0.cellAt (k * 6 + 3) (by omega)]; exact h3
    · rw [ea]; show W.cell? ⟨g, k * 6 + 4, none⟩ = _; rw [hr0.cellAt (k * 6 + 4) (by omega)]; exact h4
    · rw [ea]; show W.cell? ⟨g, k * 6 + 5, none⟩ = _; rw [hr0.cellAt (k * 6 + 5) (by omega)]; exact h5
end

theorem add_off (a : Addr) (k j : Nat) (hj : 0 < j) : (⟨(a.add k).block, (a.add k).off + j, none⟩ : Addr) = a.add (k + j) := by
  unfold Addr.add
  by_cases h : k = 0
  · subst h; simp [Nat.ne_of_gt hj]
  · simp [h, Nat.add_assoc]

/-- The cells of a list that is read. -/
theorem flatP {w : World} {S : Nat → Prop} {A : Option Addr} {l : List Ch} (h : RdP w S A l) :
    ∃ xs : List Value, xs.length = l.length * 6 ∧ PCells w S l xs ∧ (xs = [] ∨ ∃ a, A = some a ∧ ∀ (j : Nat) u, xs[j]? = some u → w.cell? (a.add j) = some u) := by
  rcases h with rfl | ⟨a, rfl, hlt, hc⟩
  · exact ⟨[], rfl, PCells.nil _ _ _, .inl rfl⟩
  · have key : ∀ (u : List Ch) (p : Nat), (∀ (k : Nat) x, u[k]? = some x → PrAt w S a (p + k) x) → ∃ xs : List Value, xs.length = u.length * 6 ∧ PCells w S u xs ∧ ∀ (j : Nat) v, xs[j]? = some v → w.cell? (a.add (p * 6 + j)) = some v := by
      intro u
      induction u with
      | nil => intro p _; exact ⟨[], rfl, PCells.nil _ _ _, fun j v hv => by simp at hv⟩
      | cons x u ih =>
        intro p hu
        obtain ⟨xs, h1, h2, h3⟩ := ih (p + 1) fun k y hy => by
          have := hu (k + 1) y (by simpa using hy)
          rw [show p + 1 + k = p + (k + 1) by omega]; exact this
        obtain ⟨c0, c1, c2, c3, A, n, c, B, m, d, c4, c5, c6⟩ := hu 0 x rfl
        rw [Nat.add_zero] at c0 c1 c2 c3 c4 c5
        rw [add_off _ _ _ (by decide)] at c1 c2 c3 c4 c5
        refine ⟨[.int .i64 x.k, strV x.nm, strV x.to, .int .i64 x.h.pos, .slice A n c, .slice B m d] ++ xs, by simp [h1]; omega, PCells.append (l := [x]) (PCells.one c6) rfl h2, fun j v hv => ?_⟩
        rcases j with _ | _ | _ | _ | _ | _ | j
        · cases hv; exact c0
        · cases hv; exact c1
        · cases hv; exact c2
        · cases hv; exact c3
        · cases hv; exact c4
        · cases hv; exact c5
        · have := h3 j v (by simpa using hv)
          rw [show p * 6 + (j + 6) = (p + 1) * 6 + j by omega]; exact this
    obtain ⟨xs, h1, h2, h3⟩ := key l 0 fun k x hx => by rw [Nat.zero_add]; exact hc k x hx
    exact ⟨xs, h1, h2, .inr ⟨a, rfl, fun j u hu => by have := h3 j u hu; rw [Nat.zero_mul, Nat.zero_add] at this; exact this⟩⟩

theorem info_prim : (Tryz.prog.info? 55).map (fun i => (i.zero, i.size, i.bytes)) = some (some (.agg #[.int .i64 0, .string ⟨#[]⟩, .string ⟨#[]⟩, .int .i64 0, .slice none 0 0, .slice none 0 0]), 6, 96) := by kernel_rfl

/-- Changes appended onto a row of one's own. -/
theorem run_ownP {W : World} {ty : TypeId} {base m c : Nat} {v : Value} {A : Option Addr} {l u : List Ch} {ys : List Value} (h : OwnP W base v l) (hu : PCells W (Out W v.ownBlock) u ys) (hyl : ys.length = u.length * 6) (hsrc : ys = [] ∨ ∃ a, A = some a ∧ ∀ (j : Nat) x, ys[j]? = some x → W.cell? (a.add j) = some x)
    (hm : u.length = m) (hn : l.length + m ≤ 100000) (hbase : base ≤ W.heap.size) :
    ∃ v' W', (Builtin.append_ #[39, 39] ty #[v, .slice A m c]).run Tryz.prog W = .ok v' W' ∧ OwnP W' base v' (l ++ u) ∧ W.grownBy W' v.ownBlock := by
  obtain ⟨i0, hi0, hz0, hz1, hz2⟩ := info_parts info_prim
  obtain ⟨xs, hrow, hF⟩ := h
  have h1 := one6 hu hyl
  by_cases h0 : m = 0
  · have hu0 : u = [] := List.eq_nil_of_length_eq_zero (by omega)
    subst hu0
    obtain ⟨A0, c0, rfl, hc0, _⟩ := rdP_own ⟨xs, hrow, hF⟩
    subst h0
    exact ⟨_, W, run_append_none Tryz.underlying39 hi0 hc0, by rw [List.append_nil]; exact ⟨xs, hrow, hF⟩, ⟨rfl, rfl, rfl, Nat.le_refl _, fun _ _ _ => rfl⟩⟩
  · obtain ⟨a, rfl, hcell⟩ : ∃ a, A = some a ∧ ∀ (j : Nat) x, ys[j]? = some x → W.cell? (a.add j) = some x := by
      rcases hsrc with hy | h
      · rw [hy] at hyl; simp at hyl; omega
      · exact h
    obtain ⟨g, cap, W', hr, r1, r2, r3, r4⟩ := run_append_lies (P := Tryz.prog) (w := W) 39 ty base 55 i0 _ 6 96 Tryz.underlying39 hi0 hz0 hz1 hz2 rfl (by decide) v l.length xs hrow a m c ys (by rw [hyl, hm]) hcell h1 (by omega) (by unfold maxLen; omega) (by omega) hbase W.heap.size rfl
    refine ⟨_, W', hr, ⟨xs ++ ys, by rw [List.length_append, hm]; exact r1, ?_⟩, r2⟩
    have hJ := (hF.append hrow.1 hu)
    rcases r3 with r3 | r3
    · rw [r3] at hJ r2
      exact hJ.gr r2
    · refine (hJ.to (out_gr r2)).mono fun b hb => ⟨Nat.lt_of_lt_of_le hb.1 r2.size, fun e => ?_⟩
      injection e with e
      have e' : b = g := e
      have := hb.1
      omega

theorem wpList_ownP {W : World} {ops : Array Oper} {rest : List Oper} {o : Oper} {a : Act} {Q : Exit → Act → World → Prop} (hgd : o.guard = none) (s x : Operand)
    (ho : o.op = .call { callee := .builtin .append, args := #[s, x], argTypes := #[39, 39] })
    (base m c : Nat) (v : Value) (A : Option Addr) (l u : List Ch) (ys : List Value) (hs : a.eval s = v) (hx : a.eval x = .slice A m c) (h : OwnP W base v l) (hu : PCells W (Out W v.ownBlock) u ys) (hyl : ys.length = u.length * 6) (hsrc : ys = [] ∨ ∃ a, A = some a ∧ ∀ (j : Nat) x, ys[j]? = some x → W.cell? (a.add j) = some x)
    (hm : u.length = m) (hn : l.length + m ≤ 100000) (hbase : base ≤ W.heap.size)
    (hK : ∀ v' W', OwnP W' base v' (l ++ u) → W.grownBy W' v.ownBlock → wpList Tryz.prog ops Q rest (a.put o.dst v') W') : wpList Tryz.prog ops Q (o :: rest) a W := by
  refine wpList_plain hgd fun K hK' => ?_
  obtain ⟨v', W', hrun, h2, h3⟩ := run_ownP (ty := o.type) (c := c) h hu hyl hsrc hm hn hbase
  unfold Oper.wp execOp
  simp only [ho, resolve, invoke, builtin, Sem.run_bind, Sem.run_pure, Result.andThen_ok, List.map_toArray, List.map_cons, List.map_nil, hs, hx, hrun]
  exact hK' _ _ (hK v' W' h2 h3)
/-- The same of a list that is read below a block that the row lies behind. -/
theorem wpList_ownPL {W : World} {ops : Array Oper} {rest : List Oper} {o : Oper} {a : Act} {Q : Exit → Act → World → Prop} (hgd : o.guard = none) (s x : Operand)
    (ho : o.op = .call { callee := .builtin .append, args := #[s, x], argTypes := #[39, 39] })
    (base N m c : Nat) (v : Value) (A : Option Addr) (l u : List Ch) (hs : a.eval s = v) (hx : a.eval x = .slice A m c) (h : OwnP W base v l) (hu : RdP W (· < N) A u) (hN : N ≤ base)
    (hm : u.length = m) (hn : l.length + m ≤ 100000) (hbase : base ≤ W.heap.size)
    (hK : ∀ v' W', OwnP W' base v' (l ++ u) → W.grownBy W' v.ownBlock → wpList Tryz.prog ops Q rest (a.put o.dst v') W') : wpList Tryz.prog ops Q (o :: rest) a W := by
  obtain ⟨ys, h1, h2, h3⟩ := flatP hu
  exact wpList_ownP hgd s x ho base m c v A l u ys hs hx h (h2.mono (out_lt (Nat.le_trans hN hbase) fun g e => Nat.le_trans hN (ownP_ge h g e))) h1 h3 hm hn hbase hK

end Fl
end Go.Proofs.YtfnhjflocfmcoaaGreat

namespace Go.Proofs.YtfnhjflocfmcoaaGreat
open Go.RowKit
set_option linter.unusedVariables false
namespace Fl
open Tx Df Sq Hk Tr Pr

/-- Changes in a row of one's own, their lines in blocks that S names. -/
def OwnS (W : World) (S : Nat → Prop) (base : Nat) (v : Value) (l : List Ch) : Prop := ∃ xs, W.ownsRow base 55 6 v l.length xs ∧ PCells W S l xs
/-- The same, their lines below block N. -/
abbrev OwnN (W : World) (N base : Nat) (v : Value) (l : List Ch) : Prop := OwnS W (· < N) base v l
section
variable {W W' : World} {N base : Nat} {v : Value} {l u : List Ch}
theorem OwnS.below {S : Nat → Prop} (h : OwnS W S base v l) (hb : Below W.heap.size W W') : OwnS W' S base v l := by
  obtain ⟨xs, h1, h2⟩ := h
  exact ⟨xs, own_gr h1 (below_gr_row hb), h2.to (fun b _ hl => hb.block b hl)⟩
theorem OwnS.mono {S T : Nat → Prop} (h : OwnS W S base v l) (hs : ∀ b, S b → T b) : OwnS W T base v l := by
  obtain ⟨xs, h1, h2⟩ := h
  exact ⟨xs, h1, h2.mono hs⟩
theorem OwnS.set {S : Nat → Prop} (h : OwnS W S base v l) {b : Nat} (hb : some b ≠ v.ownBlock) (hN : ¬ S b) (j : Nat) (x : Value) : OwnS (W.setCell ⟨b, j, none⟩ x) S base v l := by
  obtain ⟨xs, h1, h2⟩ := h
  refine ⟨xs, h1.kept (grownBy_set W b j x) ?_, h2.to ((alike_set W b j x).mono fun k hk e => hN (e ▸ hk))⟩
  rcases h1.2 with ⟨rfl, _⟩ | ⟨g, cap, cur, rfl, _⟩
  · exact .inl rfl
  · exact .inr fun e => hb e.symm
theorem OwnS.own (h : OwnN W N base v l) (hN : N ≤ base) (hb : base ≤ W.heap.size) : OwnP W base v l := by
  obtain ⟨xs, h1, h2⟩ := h
  exact ⟨xs, h1, h2.mono (out_lt (Nat.le_trans hN hb) fun g e => Nat.le_trans hN (own_ge h1 g e))⟩

/-- One of a row's changes. -/
theorem OwnS.elem {S : Nat → Prop} {g n cap k : Nat} {x : Ch} (h : OwnS W S base (.slice (some ⟨g, 0, none⟩) n cap) l) (hn : l.length = n) (hx : l[k]? = some x) :
    ∃ B i j D m d, W.cell? ⟨g, k * 6, none⟩ = some (.int .i64 x.k) ∧ W.cell? ⟨g, k * 6 + 1, none⟩ = some (strV x.nm) ∧ W.cell? ⟨g, k * 6 + 2, none⟩ = some (strV x.to) ∧ W.cell? ⟨g, k * 6 + 3, none⟩ = some (.int .i64 x.h.pos) ∧ W.cell? ⟨g, k * 6 + 4, none⟩ = some (.slice B i j) ∧ W.cell? ⟨g, k * 6 + 5, none⟩ = some (.slice D m d) ∧
      (∀ j, W.frozen? ⟨g, j, none⟩ = false) ∧ PG W S B i j D m d x := by
  subst hn
  obtain ⟨xs, hr, hF⟩ := h
  obtain ⟨B, i, j, D, m, d, h0, h1, h2, h3, h4, h5, h6⟩ := hF k x hx
  have hk : k < l.length := (List.getElem?_eq_some_iff.1 hx).1
  exact ⟨B, i, j, D, m, d, by rw [hr.cellAt (k * 6) (by omega)]; exact h0, by rw [hr.cellAt (k * 6 + 1) (by omega)]; exact h1, by rw [hr.cellAt (k * 6 + 2) (by omega)]; exact h2, by rw [hr.cellAt (k * 6 + 3) (by omega)]; exact h3, by rw [hr.cellAt (k * 6 + 4) (by omega)]; exact h4, by rw [hr.cellAt (k * 6 + 5) (by omega)]; exact h5, fun j => hr.frozenAt _, h6⟩

theorem PCells.set {S : Nat → Prop} {xs : List Value} {k : Nat} {B D : Option Addr} {i j m d : Nat} {y : Ch} (h : PCells W S l xs) (hl : xs.length = l.length * 6) (hy : PG W S B i j D m d y) :
    PCells W S (l.set k y) ((((((xs.set (k * 6) (.int .i64 y.k)).set (k * 6 + 1) (strV y.nm)).set (k * 6 + 2) (strV y.to)).set (k * 6 + 3) (.int .i64 y.h.pos)).set (k * 6 + 4) (.slice B i j)).set (k * 6 + 5) (.slice D m d)) := fun p x hx => by
  by_cases hp : p = k
  · subst hp
    have hk : p < l.length := by
      have := (List.getElem?_eq_some_iff.1 hx).1
      simpa using this
    rw [List.getElem?_set_self hk] at hx
    injection hx with hx
    subst hx
    refine ⟨B, i, j, D, m, d, ?_, ?_, ?_, ?_, ?_, ?_, hy⟩
    · rw [List.getElem?_set_ne (by omega), List.getElem?_set_ne (by omega), List.getElem?_set_ne (by omega), List.getElem?_set_ne (by omega), List.getElem?_set_ne (by omega), List.getElem?_set_self (by omega)]
    · rw [List.getElem?_set_ne (by omega), List.getElem?_set_ne (by omega), List.getElem?_set_ne (by omega), List.getElem?_set_ne (by omega), List.getElem?_set_self (by simp; omega)]
    · rw [List.getElem?_set_ne (by omega), List.getElem?_set_ne (by omega), List.getElem?_set_ne (by omega), List.getElem?_set_self (by simp; omega)]
    · rw [List.getElem?_set_ne (by omega), List.getElem?_set_ne (by omega), List.getElem?_set_self (by simp; omega)]
    · rw [List.getElem?_set_ne (by omega), List.getElem?_set_self (by simp; omega)]
    · rw [List.getElem?_set_self (by simp; omega)]
  · rw [List.getElem?_set_ne (fun e => hp e.symm)] at hx
    obtain ⟨B', i', j', D', m', d', h0, h1, h2, h3, h4, h5, h6⟩ := h p x hx
    have ne : ∀ a b, a < 6 → b < 6 → k * 6 + a ≠ p * 6 + b := fun a b ha hb => by omega
    have n0 : ∀ b, b < 6 → k * 6 ≠ p * 6 + b := fun b hb => by omega
    have key : ∀ b, b < 6 → ((((((xs.set (k * 6) (.int .i64 y.k)).set (k * 6 + 1) (strV y.nm)).set (k * 6 + 2) (strV y.to)).set (k * 6 + 3) (.int .i64 y.h.pos)).set (k * 6 + 4) (.slice B i j)).set (k * 6 + 5) (.slice D m d))[p * 6 + b]? = xs[p * 6 + b]? := fun b hb => by
      rw [List.getElem?_set_ne (ne 5 b (by decide) hb), List.getElem?_set_ne (ne 4 b (by decide) hb), List.getElem?_set_ne (ne 3 b (by decide) hb), List.getElem?_set_ne (ne 2 b (by decide) hb), List.getElem?_set_ne (ne 1 b (by decide) hb), List.getElem?_set_ne (n0 b hb)]
    exact ⟨B', i', j', D', m', d', (key 0 (by decide)).trans h0, (key 1 (by decide)).trans h1, (key 2 (by decide)).trans h2, (key 3 (by decide)).trans h3, (key 4 (by decide)).trans h4, (key 5 (by decide)).trans h5, h6⟩

end

theorem Alike.trans_ {S : Nat → Prop} {W W1 W2 : World} (h : Alike S W W1) (h' : Alike S W1 W2) (hs : W.heap.size ≤ W1.heap.size) : Alike S W W2 := fun b hb hl => (h' b hb (Nat.lt_of_lt_of_le hl hs)).trans (h b hb hl)

end Fl
end Go.Proofs.YtfnhjflocfmcoaaGreat

namespace Go.Proofs.YtfnhjflocfmcoaaGreat
open Go.ChangeShapes Go.WideShapes Go.ChangeAt Go.RowKit Go.Deep
set_option linter.unusedVariables false
namespace Fl
open Tx Df Sq Hk Tr Pr

/-- Changes that are handed in. -/
structure PrsArg (w : World) (A : Option Addr) (n c : Nat) (l : List Ch) : Prop where
  len : l.length = n
  cap : n ≤ c
  le : n ≤ maxLen
  rd : RdP w (· < w.heap.size) A l

section
variable {H : Type} {enc : TypeId × Value → H} {W : World} {base : Nat} {spare : Nat → Bool} {held : Bool}

theorem pr_in {fuel : Nat} {a : Addr} {i : Nat} {cs : List Value} {x : DataW H × List MemPlace} (hc : W.cells? base (a.add (i * 6)) 6 = some cs) (h : DataW.trod enc Tryz.prog W base spare held fuel 55 cs = some x) : ∃ p : Ch, PrAt W (· < W.heap.size) a i p := by
  have s3 : Tryz.prog.cellsOf 53 = 3 := by kernel_rfl
  have s1 : Tryz.prog.cellsOf 9 = 1 := by kernel_rfl
  have s0 : Tryz.prog.cellsOf 3 = 1 := by kernel_rfl
  have s2 : Tryz.prog.cellsOf 49 = 1 := by kernel_rfl
  obtain ⟨_, hl, hcell⟩ := World.cells?_some hc
  obtain ⟨xs, n, _, _, _, hlen, hf⟩ := DataW.trod_struct Tryz.underlying55 h
  match cs, hl with
  | [v0, v1, v2, v3, v4, v5], _ =>
    match xs, hlen with
    | [y0, y1, y2, y3], _ =>
      have h0 : DataW.trod enc Tryz.prog W base spare held n 3 (([v0, v1, v2, v3, v4, v5].drop 0).take (Tryz.prog.cellsOf 3)) = some y0 := by simpa using hf 0 _ rfl
      have h1 : DataW.trod enc Tryz.prog W base spare held n 9 (([v0, v1, v2, v3, v4, v5].drop 1).take (Tryz.prog.cellsOf 9)) = some y1 := by simpa using hf 1 _ rfl
      have h2 : DataW.trod enc Tryz.prog W base spare held n 9 (([v0, v1, v2, v3, v4, v5].drop 2).take (Tryz.prog.cellsOf 9)) = some y2 := by simpa using hf 2 _ rfl
      have h3 : DataW.trod enc Tryz.prog W base spare held n 53 (([v0, v1, v2, v3, v4, v5].drop 3).take (Tryz.prog.cellsOf 53)) = some y3 := by simpa using hf 3 _ rfl
      simp only [s0, s1, s3, List.drop_zero, List.take_succ_cons, List.take_zero, List.drop_succ_cons] at h0 h1 h2 h3
      obtain ⟨zs, m, _, _, _, hlen3, hf3⟩ := DataW.trod_struct Tryz.underlying53 h3
      match zs, hlen3 with
      | [z0, z1, z2], _ =>
        have g0 : DataW.trod enc Tryz.prog W base spare held m 3 (([v3, v4, v5].drop 0).take (Tryz.prog.cellsOf 3)) = some z0 := by simpa using hf3 0 _ rfl
        have g1 : DataW.trod enc Tryz.prog W base spare held m 49 (([v3, v4, v5].drop 1).take (Tryz.prog.cellsOf 49)) = some z1 := by simpa using hf3 1 _ rfl
        have g2 : DataW.trod enc Tryz.prog W base spare held m 49 (([v3, v4, v5].drop 2).take (Tryz.prog.cellsOf 49)) = some z2 := by simpa using hf3 2 _ rfl
        simp only [s0, s2, List.drop_zero, List.take_succ_cons, List.take_zero, List.drop_succ_cons] at g0 g1 g2
        obtain ⟨k, e0, _, w0⟩ := DataW.trod_int Tryz.underlying3 h0
        injection e0 with e0
        subst e0
        obtain ⟨sn, e1, _, w1⟩ := DataW.trod_string Tryz.underlying9 h1
        injection e1 with e1
        subst e1
        obtain ⟨so, e2, _, w2⟩ := DataW.trod_string Tryz.underlying9 h2
        injection e2 with e2
        subst e2
        obtain ⟨q, e3, _, w3⟩ := DataW.trod_int Tryz.underlying3 g0
        injection e3 with e3
        subst e3
        obtain ⟨A, n1, c1, l, rfl, s⟩ := strs_any g1
        obtain ⟨A', n2, c2, l', rfl, s'⟩ := strs_any g2
        have k0 := hcell 0 (by decide); have k1 := hcell 1 (by decide); have k2 := hcell 2 (by decide); have k3 := hcell 3 (by decide); have k4 := hcell 4 (by decide); have k5 := hcell 5 (by decide)
        rw [add_zero'] at k0
        refine ⟨⟨k, sn.data.toList, so.data.toList, ⟨q, l, l'⟩⟩, ?_, ?_, ?_, ?_, A, n1, c1, A', n2, c2, ?_, ?_, ⟨s.len, s'.len, s.cap, s'.cap, s.le, s'.le, s.rd, s'.rd, i64_wf w3, i64_wf w0, ?_, ?_, s.short, s'.short⟩⟩
        · exact k0
        · exact k1
        · exact k2
        · exact k3
        · exact k4
        · exact k5
        · show sn.data.toList.length ≤ _; rw [Array.length_toList]; exact w1
        · show so.data.toList.length ≤ _; rw [Array.length_toList]; exact w2

theorem prs_in {fuel : Nat} {cs : List Value} {x : DataW H × List MemPlace} {A : Option Addr} {l c : Nat} (h : DataW.trod enc Tryz.prog W base spare held fuel 39 cs = some x) (hcs : cs = [.slice A l c]) :
    ∃ t : List Ch, PrsArg W A l c t := by
  have s37 : Tryz.prog.cellsOf 55 = 6 := by kernel_rfl
  rcases open_slice Tryz.underlying39 h with ⟨hcs', _⟩ | ⟨a, len, cap, m, n, D, Pl, hcs', _, hl, hm, hmm, _, hi⟩
  · rw [hcs] at hcs'
    simp at hcs'
    obtain ⟨rfl, rfl, rfl⟩ := hcs'
    exact ⟨[], rfl, Nat.le_refl _, Nat.zero_le _, .inl rfl⟩
  · rw [hcs] at hcs'
    simp at hcs'
    obtain ⟨rfl, rfl, rfl⟩ := hcs'
    have hlm : l ≤ m := by rw [hmm]; split <;> omega
    rw [s37] at hi
    obtain ⟨t, h1, h2⟩ := list_of (P := fun i x => PrAt W (· < W.heap.size) a i x) l (fun i hil => by
      obtain ⟨cs', hc, ht⟩ := hi i (by omega)
      exact pr_in hc ht)
    refine ⟨t, h1, hl, by omega, ?_⟩
    cases t with
    | nil => exact .inl rfl
    | cons e es =>
      have hb := lt_of_cell (h2 0 e rfl).c0
      rw [add_block] at hb
      exact .inr ⟨a, rfl, hb, fun k x hx => h2 k x hx⟩
end

end Fl
end Go.Proofs.YtfnhjflocfmcoaaGreat

namespace Go.Proofs.YtfnhjflocfmcoaaGreat
namespace Td
open Tx Sq Hk Tr Pr Fl
set_option linter.unusedVariables false

section
variable {α : Type} (idle : α → Bool) (inv : α → α)

/-- None is idle, and none undoes the one behind it (of a stack). -/
def Tst : List α → Prop
  | [] => True
  | [p] => idle p = false
  | p :: o :: s => idle p = false ∧ p ≠ inv o ∧ Tst (o :: s)
theorem Tst.tail {p : α} {s : List α} (h : Tst idle inv (p :: s)) : Tst idle inv s := by
  cases s with
  | nil => trivial
  | cons o s => exact h.2.2
variable [DecidableEq α]

/-- One more on a stack, its last one ahead: nothing, if it is idle; it takes away the last one, if it undoes that. -/
def step (s : List α) (p : α) : List α :=
  if idle p then s else match s with
    | [] => [p]
    | o :: s' => if p = inv o then s' else p :: o :: s'
def run (s l : List α) : List α := l.foldl (step idle inv) s
theorem run_app (s a b : List α) : run idle inv s (a ++ b) = run idle inv (run idle inv s a) b := List.foldl_append
end

instance : DecidableEq Ch := fun p q => decidable_of_iff (sameP p q = true) sameP_iff
end Td
end Go.Proofs.YtfnhjflocfmcoaaGreat

set_option maxRecDepth 100000
namespace Go.Proofs.YtfnhjflocfmcoaaGreat
namespace Pn
open Tx Df Sq Hk Tr Pr Fl
set_option linter.unusedVariables false

/-- An id: who, and its number. -/
abbrev Id_ : Type := Int × Int
/-- A named patch. -/
structure Nm where
  id : Id_
  deps : List Id_
  txt : List UInt8
  l : List Ch
theorem nm_ext {p q : Nm} (h1 : p.id = q.id) (h2 : p.deps = q.deps) (h3 : p.txt = q.txt) (h4 : p.l = q.l) : p = q := by
  cases p; cases q; simp only at h1 h2 h3 h4; subst h1 h2 h3 h4; rfl
instance : DecidableEq Ch := fun p q => decidable_of_iff (sameP p q = true) sameP_iff
def sameN (p q : Nm) : Bool := decide (p.l = q.l) && (decide (p.id = q.id) && (decide (p.txt = q.txt) && decide (p.deps = q.deps)))
theorem sameN_iff {p q : Nm} : sameN p q = true ↔ p = q := by
  unfold sameN
  simp only [Bool.and_eq_true, decide_eq_true_eq]
  exact ⟨fun ⟨h1, h2, h3, h4⟩ => nm_ext h2 h4 h3 h1, fun h => by rw [h]; exact ⟨rfl, rfl, rfl, rfl⟩⟩
def allN (l : List Nm) : List Ch := l.flatMap (·.l)
theorem allN_cons (p : Nm) (l : List Nm) : allN (p :: l) = p.l ++ allN l := List.flatMap_cons
theorem allN_app (a b : List Nm) : allN (a ++ b) = allN a ++ allN b := List.flatMap_append
/-- What a tree becomes by patches. -/
def doN (t : TR) (l : List Nm) : Int × TR := doF t (allN l)
/-- A patch passes another one: they are told with the changes that their changes tell. -/
def passN (p q : Nm) : Option (Nm × Nm) := if p.id ∈ q.deps then none else (passF p.l q.l).map fun z => (⟨q.id, q.deps, q.txt, z.1⟩, ⟨p.id, p.deps, p.txt, z.2⟩)
/-- One passes all of a list. -/
abbrev overN : List Nm → Nm → Option (Nm × List Nm) := one passN
end Pn
end Go.Proofs.YtfnhjflocfmcoaaGreat

namespace Go.Proofs.YtfnhjflocfmcoaaGreat
open Go.RowKit
set_option linter.unusedVariables false
namespace Pn
open Tx Df Sq Hk Tr Pr Fl

/-- The cells of ids. -/
def idsV (l : List Id_) : List Value := l.flatMap fun x => [.int .i64 x.1, .int .i64 x.2]
theorem idsV_cons (x : Id_) (l : List Id_) : idsV (x :: l) = .int .i64 x.1 :: .int .i64 x.2 :: idsV l := List.flatMap_cons
theorem idsV_len : ∀ (l : List Id_), (idsV l).length = l.length * 2
  | [] => rfl
  | x :: l => by rw [idsV_cons, List.length_cons, List.length_cons, idsV_len l, List.length_cons]; omega
theorem idsV_at : ∀ {l : List Id_} {k : Nat} {x : Id_}, l[k]? = some x → (idsV l)[k * 2]? = some (.int .i64 x.1) ∧ (idsV l)[k * 2 + 1]? = some (.int .i64 x.2)
  | [], k, x, h => by simp at h
  | y :: l, 0, x, h => by
    injection h with h
    subst h
    rw [idsV_cons]
    exact ⟨rfl, rfl⟩
  | y :: l, k + 1, x, h => by
    rw [idsV_cons, show (k + 1) * 2 = k * 2 + 1 + 1 by omega]
    exact idsV_at (l := l) (by simpa using h)
theorem idsV_drop : ∀ (l : List Id_) (n : Nat), (idsV l).drop (n * 2) = idsV (l.drop n)
  | [], n => by simp [idsV]
  | x :: l, 0 => rfl
  | x :: l, n + 1 => by
    rw [idsV_cons, show (n + 1) * 2 = n * 2 + 1 + 1 by omega, List.drop_succ_cons, List.drop_succ_cons, List.drop_succ_cons]
    exact idsV_drop l n
/-- The address A leads, below block B, to ids; or there are none. -/
abbrev RdI (w : World) (B : Nat) (A : Option Addr) (l : List Id_) : Prop := Rd w B A (idsV l)
theorem RdI.elem {W : World} {B : Nat} {A : Option Addr} {l : List Id_} (h : RdI W B A l) {k : Nat} (hk : k < l.length) :
    ∃ a x, A = some a ∧ a.block < B ∧ l[k]? = some x ∧ W.cell? (a.add (k * 2)) = some (.int .i64 x.1) ∧ W.cell? ⟨(a.add (k * 2)).block, (a.add (k * 2)).off + 1, none⟩ = some (.int .i64 x.2) := by
  obtain ⟨h1, h2⟩ := idsV_at (l := l) (List.getElem?_eq_getElem hk)
  rcases h with h | ⟨a, e, hlt, hc⟩
  · rw [h] at h1; simp at h1
  · exact ⟨a, l[k], e, hlt, List.getElem?_eq_getElem hk, hc _ _ h1, by rw [add_off _ _ _ (by decide)]; exact hc _ _ h2⟩
theorem RdI.drop {W : World} {B : Nat} {A : Option Addr} {l : List Id_} (h : RdI W B A l) (k : Nat) : RdI W B (A.map (·.add (k * 2))) (l.drop k) := by
  show Rd W B _ (idsV (l.drop k))
  rw [← idsV_drop]
  rcases h with h | ⟨a, rfl, hlt, hc⟩
  · exact .inl (by rw [h]; simp)
  · refine .inr ⟨a.add (k * 2), rfl, by rw [add_block]; exact hlt, fun j u hu => ?_⟩
    rw [add_add]
    exact hc _ u (by rw [← hu, List.getElem?_drop])
theorem RdI.mv {W W' : World} {A : Option Addr} {l : List Id_} (h : RdI W W.heap.size A l) (hb : Below W.heap.size W W') : RdI W' W'.heap.size A l := Rd.up (Rd.below h hb) hb.size

/-- The value of a named patch. -/
abbrev nmV (x : Id_) (D : Option Addr) (dn dc : Nat) (t : List UInt8) (A : Option Addr) (n c : Nat) : Value := .agg #[.int .i64 x.1, .int .i64 x.2, .slice D dn dc, strV t, .slice A n c]

/-- Two slice values that read, below block B, as a patch's Deps and changes. -/
structure NV (w : World) (B : Nat) (D : Option Addr) (dn dc : Nat) (A : Option Addr) (n c : Nat) (p : Nm) : Prop where
  dl : p.deps.length = dn
  dk : dn ≤ dc
  dm : dn ≤ maxLen
  dr : RdI w B D p.deps
  tm : p.txt.length ≤ maxLen
  l : p.l.length = n
  k : n ≤ c
  m : n ≤ maxLen
  r : RdP w (· < B) A p.l
section
variable {W W' : World} {B B' : Nat} {D A : Option Addr} {dn dc n c : Nat} {p : Nm}
theorem NV.below (h : NV W B D dn dc A n c p) (hb : Below B W W') : NV W' B D dn dc A n c p := ⟨h.dl, h.dk, h.dm, Rd.below h.dr hb, h.tm, h.l, h.k, h.m, h.r.below hb⟩
theorem NV.up (h : NV W B D dn dc A n c p) (hB : B ≤ B') : NV W B' D dn dc A n c p := ⟨h.dl, h.dk, h.dm, Rd.up h.dr hB, h.tm, h.l, h.k, h.m, h.r.mono fun b hb => Nat.lt_of_lt_of_le hb hB⟩
theorem NV.mv (h : NV W W.heap.size D dn dc A n c p) (hb : Below W.heap.size W W') : NV W' W'.heap.size D dn dc A n c p := (h.below hb).up hb.size
theorem NV.drewN (h : NV W B D dn dc A n c p) (d : Nat) : NV (W.drewN d) B D dn dc A n c p := h.below (below_drewN (Below.refl _ _) d)
end

/-- The cells of a patch, the k-th of a row at the address a. -/
structure NAt (w : World) (B : Nat) (a : Addr) (k : Nat) (x : Nm) : Prop where
  c0 : w.cell? (a.add (k * 5)) = some (.int .i64 x.id.1)
  c1 : w.cell? ⟨(a.add (k * 5)).block, (a.add (k * 5)).off + 1, none⟩ = some (.int .i64 x.id.2)
  c3 : w.cell? ⟨(a.add (k * 5)).block, (a.add (k * 5)).off + 3, none⟩ = some (strV x.txt)
  c2 : ∃ D dn dc A n c, w.cell? ⟨(a.add (k * 5)).block, (a.add (k * 5)).off + 2, none⟩ = some (.slice D dn dc) ∧ w.cell? ⟨(a.add (k * 5)).block, (a.add (k * 5)).off + 4, none⟩ = some (.slice A n c) ∧ NV w B D dn dc A n c x

/-- The address A leads, below block B, to patches; or there are none. -/
def RdN (w : World) (B : Nat) (A : Option Addr) (l : List Nm) : Prop :=
  l = [] ∨ ∃ a, A = some a ∧ a.block < B ∧ ∀ (k : Nat) x, l[k]? = some x → NAt w B a k x
section
variable {W W' : World} {B B' : Nat} {A : Option Addr} {l : List Nm}
theorem cellB {p : Addr} {u : Value} (hc : W.cell? p = some u) (hb : Below B W W') (hp : p.block < B) : W'.cell? p = some u := (hb.cell hp).trans hc
theorem NAt.below {a : Addr} {k : Nat} {x : Nm} (h : NAt W B a k x) (ha : a.block < B) (hb : Below B W W') : NAt W' B a k x := by
  obtain ⟨c0, c1, c3, D, dn, dc, A, n, c, c2, c4, c5⟩ := h
  have hk : (a.add (k * 5)).block < B := by rw [add_block]; exact ha
  exact ⟨cellB c0 hb hk, cellB c1 hb hk, cellB c3 hb hk, D, dn, dc, A, n, c, cellB c2 hb hk, cellB c4 hb hk, c5.below hb⟩
theorem NAt.up {a : Addr} {k : Nat} {x : Nm} (h : NAt W B a k x) (hB : B ≤ B') : NAt W B' a k x := by
  obtain ⟨c0, c1, c3, D, dn, dc, A, n, c, c2, c4, c5⟩ := h
  exact ⟨c0, c1, c3, D, dn, dc, A, n, c, c2, c4, c5.up hB⟩
theorem RdN.below (h : RdN W B A l) (hb : Below B W W') : RdN W' B A l := h.imp id fun ⟨a, e, h1, h2⟩ => ⟨a, e, h1, fun k x hx => (h2 k x hx).below h1 hb⟩
theorem RdN.up (h : RdN W B A l) (hB : B ≤ B') : RdN W B' A l := h.imp id fun ⟨a, e, h1, h2⟩ => ⟨a, e, Nat.lt_of_lt_of_le h1 hB, fun k x hx => (h2 k x hx).up hB⟩
theorem RdN.mv (h : RdN W W.heap.size A l) (hb : Below W.heap.size W W') : RdN W' W'.heap.size A l := (h.below hb).up hb.size
theorem RdN.drewN (h : RdN W B A l) (d : Nat) : RdN (W.drewN d) B A l := h.below (below_drewN (Below.refl _ _) d)
theorem RdN.nil (W : World) (B : Nat) (A : Option Addr) : RdN W B A [] := .inl rfl
/-- One of a list of patches. -/
theorem RdN.elem (h : RdN W B A l) {k : Nat} (hk : k < l.length) :
    ∃ a x D dn dc E n c, A = some a ∧ a.block < B ∧ l[k]? = some x ∧
      W.cell? (a.add (k * 5)) = some (.int .i64 x.id.1) ∧ W.cell? ⟨(a.add (k * 5)).block, (a.add (k * 5)).off + 1, none⟩ = some (.int .i64 x.id.2) ∧ W.cell? ⟨(a.add (k * 5)).block, (a.add (k * 5)).off + 2, none⟩ = some (.slice D dn dc) ∧
      W.cell? ⟨(a.add (k * 5)).block, (a.add (k * 5)).off + 3, none⟩ = some (strV x.txt) ∧ W.cell? ⟨(a.add (k * 5)).block, (a.add (k * 5)).off + 4, none⟩ = some (.slice E n c) ∧ NV W B D dn dc E n c x := by
  rcases h with rfl | ⟨a, e, hlt, hc⟩
  · exact absurd hk (by simp)
  · obtain ⟨c0, c1, c3, D, dn, dc, E, n, c, c2, c4, c5⟩ := hc k _ (List.getElem?_eq_getElem hk)
    exact ⟨a, l[k], D, dn, dc, E, n, c, e, hlt, List.getElem?_eq_getElem hk, c0, c1, c2, c3, c4, c5⟩
/-- The first ones of a list, and those behind them. -/
theorem RdN.take (h : RdN W B A l) (k : Nat) : RdN W B A (l.take k) := by
  rcases h with rfl | ⟨a, e, h1, h2⟩
  · exact .inl (by simp)
  · refine .inr ⟨a, e, h1, fun j y hy => h2 j y ?_⟩
    rw [List.getElem?_take] at hy
    split at hy
    · exact hy
    · cases hy
theorem RdN.drop (h : RdN W B A l) (k : Nat) : RdN W B (A.map (·.add (k * 5))) (l.drop k) := by
  rcases h with rfl | ⟨a, rfl, h1, h2⟩
  · exact .inl (by simp)
  · refine .inr ⟨_, rfl, by rw [add_block]; exact h1, fun j y hy => ?_⟩
    rw [List.getElem?_drop] at hy
    have := h2 (k + j) y hy
    have ea : (a.add (k * 5)).add (j * 5) = a.add ((k + j) * 5) := by rw [add_add]; congr 1; omega
    obtain ⟨c0, c1, c3, c2⟩ := this
    exact ⟨by rw [ea]; exact c0, by rw [ea]; exact c1, by rw [ea]; exact c3, by rw [ea]; exact c2⟩
end

/-- The cells of patches, as far as they go; what they hold lies below block B. -/
def NCells (W : World) (B : Nat) (l : List Nm) (xs : List Value) : Prop :=
  ∀ (k : Nat) x, l[k]? = some x → ∃ D dn dc A n c, xs[k * 5]? = some (.int .i64 x.id.1) ∧ xs[k * 5 + 1]? = some (.int .i64 x.id.2) ∧ xs[k * 5 + 2]? = some (.slice D dn dc) ∧ xs[k * 5 + 3]? = some (strV x.txt) ∧ xs[k * 5 + 4]? = some (.slice A n c) ∧ NV W B D dn dc A n c x
section
variable {W W' : World} {B B' : Nat} {l u : List Nm} {xs ys : List Value}
theorem NCells.below (h : NCells W B l xs) (hb : Below B W W') : NCells W' B l xs := fun k x hx => by
  obtain ⟨D, dn, dc, A, n, c, h0, h1, h2, h3, h4, h5⟩ := h k x hx
  exact ⟨D, dn, dc, A, n, c, h0, h1, h2, h3, h4, h5.below hb⟩
theorem NCells.up (h : NCells W B l xs) (hB : B ≤ B') : NCells W B' l xs := fun k x hx => by
  obtain ⟨D, dn, dc, A, n, c, h0, h1, h2, h3, h4, h5⟩ := h k x hx
  exact ⟨D, dn, dc, A, n, c, h0, h1, h2, h3, h4, h5.up hB⟩
theorem NCells.nil (W : World) (B : Nat) (xs : List Value) : NCells W B [] xs := fun k x hx => by simp at hx
theorem NCells.one {D A : Option Addr} {dn dc n c : Nat} {x : Nm} (h : NV W B D dn dc A n c x) : NCells W B [x] [.int .i64 x.id.1, .int .i64 x.id.2, .slice D dn dc, strV x.txt, .slice A n c] := fun k y hy => by
  cases k with
  | zero => cases hy; exact ⟨D, dn, dc, A, n, c, rfl, rfl, rfl, rfl, rfl, h⟩
  | succ k => simp at hy
theorem NCells.append (h : NCells W B l xs) (hl : xs.length = l.length * 5) (h' : NCells W B u ys) : NCells W B (l ++ u) (xs ++ ys) := fun k x hx => by
  by_cases hk : k < l.length
  · rw [List.getElem?_append_left hk] at hx
    obtain ⟨D, dn, dc, A, n, c, h0, h1, h2, h3, h4, h5⟩ := h k x hx
    exact ⟨D, dn, dc, A, n, c, by rw [List.getElem?_append_left (by omega)]; exact h0, by rw [List.getElem?_append_left (by omega)]; exact h1, by rw [List.getElem?_append_left (by omega)]; exact h2, by rw [List.getElem?_append_left (by omega)]; exact h3, by rw [List.getElem?_append_left (by omega)]; exact h4, h5⟩
  · rw [List.getElem?_append_right (by omega)] at hx
    obtain ⟨D, dn, dc, A, n, c, h0, h1, h2, h3, h4, h5⟩ := h' _ x hx
    have e : ∀ j, k * 5 + j - xs.length = (k - l.length) * 5 + j := fun j => by omega
    refine ⟨D, dn, dc, A, n, c, ?_, ?_, ?_, ?_, ?_, h5⟩
    · rw [List.getElem?_append_right (by omega), show k * 5 - xs.length = (k - l.length) * 5 by omega]; exact h0
    · rw [List.getElem?_append_right (by omega), e]; exact h1
    · rw [List.getElem?_append_right (by omega), e]; exact h2
    · rw [List.getElem?_append_right (by omega), e]; exact h3
    · rw [List.getElem?_append_right (by omega), e]; exact h4
end

/-- Patches in a row of one's own; what they hold lies below block N. -/
def OwnM (W : World) (N base : Nat) (v : Value) (l : List Nm) : Prop := ∃ xs, W.ownsRow base 41 5 v l.length xs ∧ NCells W N l xs
section
variable {W W' : World} {N base : Nat} {v : Value} {l u : List Nm}
theorem OwnM.below (h : OwnM W N base v l) (hN : N ≤ W.heap.size) (hb : Below W.heap.size W W') : OwnM W' N base v l := by
  obtain ⟨xs, h1, h2⟩ := h
  exact ⟨xs, own_gr h1 (below_gr_row hb), h2.below (hb.mono hN)⟩
end

section
variable {W W' : World} {base : Nat} {v : Value} {l u : List Id_}
end
end Pn
end Go.Proofs.YtfnhjflocfmcoaaGreat

namespace Go.Proofs.YtfnhjflocfmcoaaGreat
open Go.ChangeShapes Go.WideShapes Go.ChangeAt Go.RowKit Go.Deep
set_option linter.unusedVariables false
namespace Pn
open Tx Df Sq Hk Tr Pr Fl

/-- Patches that are handed in. -/
structure NmsArg (w : World) (A : Option Addr) (n c : Nat) (l : List Nm) : Prop where
  len : l.length = n
  cap : n ≤ c
  le : n ≤ maxLen
  rd : RdN w w.heap.size A l

section
variable {H : Type} {enc : TypeId × Value → H} {W : World} {base : Nat} {spare : Nat → Bool} {held : Bool}

theorem id_cells {fuel : Nat} {v0 v1 : Value} {x : DataW H × List MemPlace} (h : DataW.trod enc Tryz.prog W base spare held fuel 31 [v0, v1] = some x) : ∃ p : Id_, v0 = .int .i64 p.1 ∧ v1 = .int .i64 p.2 := by
  have s0 : Tryz.prog.cellsOf 3 = 1 := by kernel_rfl
  obtain ⟨xs, n, _, _, _, hlen, hf⟩ := DataW.trod_struct Tryz.underlying31 h
  match xs, hlen with
  | [y0, y1], _ =>
    have h0 : DataW.trod enc Tryz.prog W base spare held n 3 (([v0, v1].drop 0).take (Tryz.prog.cellsOf 3)) = some y0 := by simpa using hf 0 _ rfl
    have h1 : DataW.trod enc Tryz.prog W base spare held n 3 (([v0, v1].drop 1).take (Tryz.prog.cellsOf 3)) = some y1 := by simpa using hf 1 _ rfl
    simp only [s0, List.drop_zero, List.take_succ_cons, List.take_zero, List.drop_succ_cons] at h0 h1
    obtain ⟨k, e0, _, w0⟩ := DataW.trod_int Tryz.underlying3 h0
    injection e0 with e0
    subst e0
    obtain ⟨m, e1, _, w1⟩ := DataW.trod_int Tryz.underlying3 h1
    injection e1 with e1
    subst e1
    exact ⟨(k, m), rfl, rfl⟩

theorem ids_any {fuel : Nat} {v : Value} {x : DataW H × List MemPlace} (h : DataW.trod enc Tryz.prog W base spare held fuel 38 [v] = some x) : ∃ A n c l, v = .slice A n c ∧ l.length = n ∧ n ≤ c ∧ n ≤ maxLen ∧ RdI W W.heap.size A l := by
  have s2 : Tryz.prog.cellsOf 31 = 2 := by kernel_rfl
  rcases open_slice Tryz.underlying38 h with ⟨hcs', _⟩ | ⟨a, len, cap, m, n, D, Pl, hcs', _, hl, hm, hmm, _, hi⟩
  · injection hcs' with hcs'
    subst hcs'
    exact ⟨none, 0, 0, [], rfl, rfl, Nat.le_refl _, Nat.zero_le _, .inl rfl⟩
  · injection hcs' with hcs'
    subst hcs'
    have hlm : len ≤ m := by rw [hmm]; split <;> omega
    rw [s2] at hi
    obtain ⟨t, h1, h2⟩ := list_of (P := fun i (x : Id_) => W.cell? (a.add (i * 2)) = some (.int .i64 x.1) ∧ W.cell? (a.add (i * 2 + 1)) = some (.int .i64 x.2)) len (fun i hil => by
      obtain ⟨cs', hc, ht⟩ := hi i (by omega)
      obtain ⟨_, hl2, hcell⟩ := World.cells?_some hc
      match cs', hl2 with
      | [v0, v1], _ =>
        obtain ⟨x, rfl, rfl⟩ := id_cells ht
        have k0 := hcell 0 (by decide); have k1 := hcell 1 (by decide)
        rw [add_zero'] at k0
        refine ⟨x, k0, ?_⟩
        rw [← Tx.add_add]
        have e : (⟨(a.add (i * 2)).block, (a.add (i * 2)).off + 1, none⟩ : Addr) = (a.add (i * 2)).add 1 := rfl
        exact k1)
    refine ⟨some a, len, cap, t, rfl, h1, hl, by omega, ?_⟩
    cases t with
    | nil => exact .inl rfl
    | cons e es =>
      have hb := lt_of_cell (h2 0 e rfl).1
      rw [add_block] at hb
      refine .inr ⟨a, rfl, hb, fun j u hu => ?_⟩
      have hj := (List.getElem?_eq_some_iff.1 hu).1
      rw [idsV_len] at hj
      have hk : j / 2 < (e :: es).length := by omega
      obtain ⟨g1, g2⟩ := idsV_at (List.getElem?_eq_getElem hk)
      obtain ⟨q1, q2⟩ := h2 (j / 2) _ (List.getElem?_eq_getElem hk)
      by_cases hp : j % 2 = 0
      · have ej : j = j / 2 * 2 := by omega
        rw [← ej] at g1 q1
        rw [hu] at g1
        injection g1 with g1
        rw [g1]
        exact q1
      · have ej : j = j / 2 * 2 + 1 := by omega
        rw [← ej] at g2 q2
        rw [hu] at g2
        injection g2 with g2
        rw [g2]
        exact q2
theorem prs_any {fuel : Nat} {v : Value} {x : DataW H × List MemPlace} (h : DataW.trod enc Tryz.prog W base spare held fuel 39 [v] = some x) : ∃ A n c l, v = .slice A n c ∧ PrsArg W A n c l := by
  obtain ⟨A, n, c, rfl⟩ : ∃ A n c, v = .slice A n c := by
    rcases open_slice Tryz.underlying39 h with ⟨hcs', _⟩ | ⟨a, len, cap, m, n, D, Pl, hcs', _⟩
    · injection hcs' with hcs'; exact ⟨_, _, _, hcs'⟩
    · injection hcs' with hcs'; exact ⟨_, _, _, hcs'⟩
  obtain ⟨l, hl⟩ := prs_in h rfl
  exact ⟨A, n, c, l, rfl, hl⟩

theorem nm_cells {fuel : Nat} {v0 v1 v2 v3 v4 : Value} {x : DataW H × List MemPlace} (h : DataW.trod enc Tryz.prog W base spare held fuel 41 [v0, v1, v2, v3, v4] = some x) :
    ∃ D dn dc A n c p, v0 = .int .i64 p.id.1 ∧ v1 = .int .i64 p.id.2 ∧ v2 = .slice D dn dc ∧ v3 = strV p.txt ∧ v4 = .slice A n c ∧ NV W W.heap.size D dn dc A n c p := by
  have s2 : Tryz.prog.cellsOf 31 = 2 := by kernel_rfl
  have s1 : Tryz.prog.cellsOf 9 = 1 := by kernel_rfl
  have s3 : Tryz.prog.cellsOf 38 = 1 := by kernel_rfl
  have s4 : Tryz.prog.cellsOf 39 = 1 := by kernel_rfl
  obtain ⟨xs, n, _, _, _, hlen, hf⟩ := DataW.trod_struct Tryz.underlying41 h
  match xs, hlen with
  | [y0, y1, y2, y3], _ =>
    have h0 : DataW.trod enc Tryz.prog W base spare held n 31 (([v0, v1, v2, v3, v4].drop 0).take (Tryz.prog.cellsOf 31)) = some y0 := by simpa using hf 0 _ rfl
    have h1 : DataW.trod enc Tryz.prog W base spare held n 38 (([v0, v1, v2, v3, v4].drop 2).take (Tryz.prog.cellsOf 38)) = some y1 := by simpa using hf 1 _ rfl
    have h2 : DataW.trod enc Tryz.prog W base spare held n 9 (([v0, v1, v2, v3, v4].drop 3).take (Tryz.prog.cellsOf 9)) = some y2 := by simpa using hf 2 _ rfl
    have h3 : DataW.trod enc Tryz.prog W base spare held n 39 (([v0, v1, v2, v3, v4].drop 4).take (Tryz.prog.cellsOf 39)) = some y3 := by simpa using hf 3 _ rfl
    simp only [s1, s2, s3, s4, List.drop_zero, List.take_succ_cons, List.take_zero, List.drop_succ_cons] at h0 h1 h2 h3
    obtain ⟨i, rfl, rfl⟩ := id_cells h0
    obtain ⟨D, dn, dc, ds, rfl, d1, d2, d3, d4⟩ := ids_any h1
    obtain ⟨s, e1, _, w1⟩ := DataW.trod_string Tryz.underlying9 h2
    injection e1 with e1
    subst e1
    obtain ⟨A, m, c, l, rfl, hl⟩ := prs_any h3
    refine ⟨D, dn, dc, A, m, c, ⟨i, ds, s.data.toList, l⟩, rfl, rfl, rfl, rfl, rfl, d1, d2, d3, d4, ?_, hl.len, hl.cap, hl.le, hl.rd⟩
    show s.data.toList.length ≤ _; rw [Array.length_toList]; exact w1

/-- Patches that are handed in. -/
theorem nms_in {fuel : Nat} {cs : List Value} {x : DataW H × List MemPlace} {A : Option Addr} {l c : Nat} (h : DataW.trod enc Tryz.prog W base spare held fuel 22 cs = some x) (hcs : cs = [.slice A l c]) : ∃ t : List Nm, NmsArg W A l c t := by
  have s5 : Tryz.prog.cellsOf 41 = 5 := by kernel_rfl
  rcases open_slice Tryz.underlying22 h with ⟨hcs', _⟩ | ⟨a, len, cap, m, n, D, Pl, hcs', _, hl, hm, hmm, _, hi⟩
  · rw [hcs] at hcs'
    simp at hcs'
    obtain ⟨rfl, rfl, rfl⟩ := hcs'
    exact ⟨[], rfl, Nat.le_refl _, Nat.zero_le _, .inl rfl⟩
  · rw [hcs] at hcs'
    simp at hcs'
    obtain ⟨rfl, rfl, rfl⟩ := hcs'
    have hlm : l ≤ m := by rw [hmm]; split <;> omega
    rw [s5] at hi
    obtain ⟨t, h1, h2⟩ := list_of (P := fun i x => NAt W W.heap.size a i x) l (fun i hil => by
      obtain ⟨cs', hc, ht⟩ := hi i (by omega)
      obtain ⟨_, hl5, hcell⟩ := World.cells?_some hc
      match cs', hl5 with
      | [v0, v1, v2, v3, v4], _ =>
        obtain ⟨D, dn, dc, A, n, c, x, rfl, rfl, rfl, rfl, rfl, hx⟩ := nm_cells ht
        have k0 := hcell 0 (by decide); have k1 := hcell 1 (by decide); have k2 := hcell 2 (by decide); have k3 := hcell 3 (by decide); have k4 := hcell 4 (by decide)
        rw [add_zero'] at k0
        exact ⟨x, k0, k1, k3, D, dn, dc, A, n, c, k2, k4, hx⟩)
    refine ⟨t, h1, hl, by omega, ?_⟩
    cases t with
    | nil => exact .inl rfl
    | cons e es =>
      have hb := lt_of_cell (h2 0 e rfl).c0
      rw [add_block] at hb
      exact .inr ⟨a, rfl, hb, fun k x hx => h2 k x hx⟩
end

end Pn
end Go.Proofs.YtfnhjflocfmcoaaGreat
