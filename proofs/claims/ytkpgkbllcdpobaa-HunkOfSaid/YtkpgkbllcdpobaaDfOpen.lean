/-
  What a reading of an argument tells the walks: a slice of edits leads to the cells of a list of edits. What the law's Few returns (walk).
-/
import Derived.Test.YtkpgkbllcdpobaaDfMem
import Derived.Test.YtkpgkbllcdpobaaQOpen
import Derived.Test.YtkpgkbllcdpobaaQLight
import Derived.Deep.Slices
import Derived.Deep.Strs
namespace Go.Proofs.Ytkpgkbllcdpobaa
open Go.ChangeShapes Go.WideShapes Go.ChangeAt Go.RowKit Go.Deep
set_option linter.unusedVariables false
namespace Df
open Tx

/-- A slice of edits that is handed in: it reads as l. -/
structure EdArg (w : World) (A : Option Addr) (n c : Nat) (l : List E) : Prop where
  len : l.length = n
  cap : n ≤ c
  le : n ≤ maxLen
  rd : RdE w w.heap.size A l

theorem list_of {α : Type} {P : Nat → α → Prop} : ∀ (n : Nat), (∀ i, i < n → ∃ x, P i x) → ∃ l : List α, l.length = n ∧ ∀ i x, l[i]? = some x → P i x
  | 0, _ => ⟨[], rfl, fun i x h => by simp at h⟩
  | n + 1, h => by
    obtain ⟨l, h1, h2⟩ := list_of n fun i hi => h i (by omega)
    obtain ⟨y, hy⟩ := h n (by omega)
    refine ⟨l ++ [y], by simp [h1], fun i x hx => ?_⟩
    rcases Nat.lt_trichotomy i l.length with hi | hi | hi
    · rw [List.getElem?_append_left hi] at hx; exact h2 i x hx
    · subst hi; rw [List.getElem?_append_right (Nat.le_refl _), Nat.sub_self] at hx; cases hx; rw [h1]; exact hy
    · rw [List.getElem?_eq_none (by simp; omega)] at hx; cases hx

theorem i64_wf {n : Int} (h : (Lit.int .i64 n).wf = true) : I64 n := by
  simp only [Lit.wf, Bool.and_eq_true, decide_eq_true_eq] at h
  have h1 : IntKind.i64.min = -9223372036854775808 := by decide
  have h2 : IntKind.i64.max = 9223372036854775807 := by decide
  rw [h1, h2] at h
  exact h

section
variable {H : Type} {enc : TypeId × Value → H} {W : World} {base : Nat} {spare : Nat → Bool} {held : Bool}

theorem strs_any {fuel : Nat} {v : Value} {x : DataW H × List MemPlace} (h : DataW.trod enc Try.prog W base spare held fuel 22 [v] = some x) : ∃ A n c ls, v = .slice A n c ∧ StrArg W A n c ls := by
  obtain ⟨A, n, c, rfl⟩ : ∃ A n c, v = .slice A n c := by
    rcases open_strings Try.underlying22 Try.underlying9 (by kernel_rfl) h with ⟨h', _⟩ | ⟨a, l', c', ss, h', _⟩
    · injection h' with h'; exact ⟨_, _, _, h'⟩
    · injection h' with h'; exact ⟨_, _, _, h'⟩
  obtain ⟨ls, hs⟩ := strs_in h rfl
  exact ⟨A, n, c, ls, rfl, hs⟩

theorem ed_in {fuel : Nat} {a : Addr} {i : Nat} {cs : List Value} {x : DataW H × List MemPlace} (hc : W.cells? base (a.add (i * 3)) 3 = some cs) (h : DataW.trod enc Try.prog W base spare held fuel 50 cs = some x) : ∃ e : E, EdAt W W.heap.size a i e := by
  obtain ⟨y0, y1, y2, n, _, _, h0, h1, h2⟩ := trod_struct3 Try.underlying50 h
  obtain ⟨_, hl, hcell⟩ := World.cells?_some hc
  have s3 : Try.prog.cellsOf 3 = 1 := by kernel_rfl
  have s22 : Try.prog.cellsOf 22 = 1 := by kernel_rfl
  match cs, hl with
  | [v0, v1, v2], _ =>
    simp only [s3, s22, List.drop_zero, List.take_succ_cons, List.take_zero, List.drop_succ_cons] at h0 h1 h2
    obtain ⟨p, e0, _, w0⟩ := DataW.trod_int Try.underlying3 h0
    obtain ⟨o, e1, _, w1⟩ := DataW.trod_int Try.underlying3 h1
    obtain ⟨A2, n2, c2, ls, rfl, hs⟩ := strs_any h2
    injection e0 with e0
    injection e1 with e1
    subst e0; subst e1
    have k0 := hcell 0 (by decide)
    have k1 := hcell 1 (by decide)
    have k2 := hcell 2 (by decide)
    rw [add_zero'] at k0
    refine ⟨⟨p, o, ls⟩, k0, k1, ⟨A2, c2, ?_, ?_, hs.rd⟩, i64_wf w0, i64_wf w1, ?_⟩
    · simp only [hs.len]; exact k2
    · simp only [hs.len]; exact hs.cap
    · simp only [hs.len]; exact hs.le

theorem eds_in {fuel : Nat} {cs : List Value} {x : DataW H × List MemPlace} {A : Option Addr} {l c : Nat} (h : DataW.trod enc Try.prog W base spare held fuel 47 cs = some x) (hcs : cs = [.slice A l c]) :
    ∃ es : List E, EdArg W A l c es := by
  have s37 : Try.prog.cellsOf 50 = 3 := by kernel_rfl
  rcases open_slice Try.underlying47 h with ⟨hcs', _⟩ | ⟨a, len, cap, m, n, D, Pl, hcs', _, hl, hm, hmm, _, hi⟩
  · rw [hcs] at hcs'
    simp at hcs'
    obtain ⟨rfl, rfl, rfl⟩ := hcs'
    exact ⟨[], rfl, Nat.le_refl _, Nat.zero_le _, .inl rfl⟩
  · rw [hcs] at hcs'
    simp at hcs'
    obtain ⟨rfl, rfl, rfl⟩ := hcs'
    have hlm : l ≤ m := by rw [hmm]; split <;> omega
    rw [s37] at hi
    obtain ⟨es, h1, h2⟩ := list_of (P := fun i x => EdAt W W.heap.size a i x) l (fun i hil => by
      obtain ⟨cs', hc, ht⟩ := hi i (by omega)
      exact ed_in hc ht)
    refine ⟨es, h1, hl, by omega, ?_⟩
    cases es with
    | nil => exact .inl rfl
    | cons e es =>
      have hb := lt_of_cell (h2 0 e rfl).c0
      rw [add_block] at hb
      exact .inr ⟨a, rfl, hb, h2⟩
end

def few (es : List E) : Bool := decide (es.length ≤ 60) && es.all fun x => light x.new 60
theorem few_le {es : List E} (h : few es = true) : es.length ≤ 60 ∧ ∀ x ∈ es, x.new.length ≤ 60 := by
  simp only [few, Bool.and_eq_true, decide_eq_true_eq, List.all_eq_true] at h
  refine ⟨h.1, fun x hx => ?_⟩
  have := h.2 x hx
  simp only [light, Bool.and_eq_true, decide_eq_true_eq] at this
  exact this.1
theorem few_no {es : List E} {x : E} (hm : x ∈ es) (h : light x.new 60 = false) : few es = false := by
  have : (es.all fun x => light x.new 60) = false := by rw [List.all_eq_false]; exact ⟨x, hm, by rw [h]; decide⟩
  simp [few, this]

end Df
end Go.Proofs.Ytkpgkbllcdpobaa
