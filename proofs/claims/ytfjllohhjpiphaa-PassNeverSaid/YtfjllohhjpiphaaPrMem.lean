/-
  Words for memory, layer 8: a change by value. What a reading of an argument tells of it. No function of the program is walked here.
-/
import Derived.Test.YtfjllohhjpiphaaPrPlain
import Derived.Test.YtfjllohhjpiphaaHkOpen
set_option maxRecDepth 100000
namespace Go.Proofs.Ytfjllohhjpiphaa
open Go.ChangeShapes Go.WideShapes Go.ChangeAt Go.RowKit Go.Deep Go.Joins
set_option linter.unusedVariables false
namespace Pr
open Tx Df Sq Hk Tr

/-- The value of a change. -/
abbrev prV (k : Int) (nm to : List UInt8) (p : Int) (A : Option Addr) (n c : Nat) (A' : Option Addr) (n' c' : Nat) : Value := .agg #[.int .i64 k, strV nm, strV to, .int .i64 p, .slice A n c, .slice A' n' c']

/-- Two slice values that read, below block B, as a change's lines. -/
structure PV (w : World) (B : Nat) (A : Option Addr) (n c : Nat) (A' : Option Addr) (n' c' : Nat) (p : Ch) : Prop where
  h : HV w B A n c A' n' c' p.h
  k : I64 p.k
  nm : p.nm.length ≤ maxLen
  to : p.to.length ≤ maxLen
  s : ∀ x ∈ p.h.old, x.length ≤ maxLen
  s' : ∀ x ∈ p.h.new, x.length ≤ maxLen

section
variable {w w' : World} {B B' : Nat} {A A' : Option Addr} {n c n' c' : Nat} {p : Ch}
theorem PV.below (v : PV w B A n c A' n' c' p) (hb : Below B w w') : PV w' B A n c A' n' c' p := ⟨v.h.below hb, v.k, v.nm, v.to, v.s, v.s'⟩
theorem PV.up (v : PV w B A n c A' n' c' p) (hB : B ≤ B') : PV w B' A n c A' n' c' p := ⟨v.h.up hB, v.k, v.nm, v.to, v.s, v.s'⟩
theorem PV.mv (v : PV w w.heap.size A n c A' n' c' p) (hb : Below w.heap.size w w') : PV w' w'.heap.size A n c A' n' c' p := (v.below hb).up hb.size
theorem PV.drewN (v : PV w B A n c A' n' c' p) (d : Nat) : PV (w.drewN d) B A n c A' n' c' p := ⟨v.h.drewN d, v.k, v.nm, v.to, v.s, v.s'⟩
end

section
variable {H : Type} {enc : TypeId × Value → H} {W : World} {base : Nat} {spare : Nat → Bool} {held : Bool}

theorem array6 {α : Type} {a : Array α} (h : a.size = 6) : ∃ x0 x1 x2 x3 x4 x5, a = #[x0, x1, x2, x3, x4, x5] := by
  obtain ⟨l⟩ := a
  match l, h with
  | [x0, x1, x2, x3, x4, x5], _ => exact ⟨x0, x1, x2, x3, x4, x5, rfl⟩

theorem prim_in {r : Reach} {b0 : Nat} {v : Value} {d : DataW H} {p : List MemPlace} (hv : Value.okWide Try.prog W r b0 26 v) (h : DataW.Trod enc Try.prog W base spare held 26 v d p) :
    ∃ A n c A' n' c' x, v = prV x.k x.nm x.to x.h.pos A n c A' n' c' ∧ PV W W.heap.size A n c A' n' c' x := by
  have s6 : Try.prog.cellsOf 26 = 6 := by kernel_rfl
  have s3 : Try.prog.cellsOf 24 = 3 := by kernel_rfl
  have s1 : Try.prog.cellsOf 9 = 1 := by kernel_rfl
  have s0 : Try.prog.cellsOf 3 = 1 := by kernel_rfl
  have s2 : Try.prog.cellsOf 22 = 1 := by kernel_rfl
  obtain ⟨cs, rfl, hsz⟩ := okWide_struct Try.underlying26 hv
  obtain ⟨v0, v1, v2, v3, v4, v5, rfl⟩ := array6 (hsz.trans s6)
  obtain ⟨fuel, hf⟩ := h
  obtain ⟨xs, n, _, _, _, hlen, hf⟩ := DataW.trod_struct Try.underlying26 hf
  match xs, hlen with
  | [y0, y1, y2, y3], _ =>
    have h0 : DataW.trod enc Try.prog W base spare held n 3 (([v0, v1, v2, v3, v4, v5].drop 0).take (Try.prog.cellsOf 3)) = some y0 := by simpa [Value.cells] using hf 0 _ rfl
    have h1 : DataW.trod enc Try.prog W base spare held n 9 (([v0, v1, v2, v3, v4, v5].drop 1).take (Try.prog.cellsOf 9)) = some y1 := by simpa [Value.cells] using hf 1 _ rfl
    have h2 : DataW.trod enc Try.prog W base spare held n 9 (([v0, v1, v2, v3, v4, v5].drop 2).take (Try.prog.cellsOf 9)) = some y2 := by simpa [Value.cells] using hf 2 _ rfl
    have h3 : DataW.trod enc Try.prog W base spare held n 24 (([v0, v1, v2, v3, v4, v5].drop 3).take (Try.prog.cellsOf 24)) = some y3 := by simpa [Value.cells] using hf 3 _ rfl
    simp only [s0, s1, s3, List.drop_zero, List.take_succ_cons, List.take_zero, List.drop_succ_cons] at h0 h1 h2 h3
    obtain ⟨zs, m, _, _, _, hlen3, hf3⟩ := DataW.trod_struct Try.underlying24 h3
    match zs, hlen3 with
    | [z0, z1, z2], _ =>
      have g0 : DataW.trod enc Try.prog W base spare held m 3 (([v3, v4, v5].drop 0).take (Try.prog.cellsOf 3)) = some z0 := by simpa using hf3 0 _ rfl
      have g1 : DataW.trod enc Try.prog W base spare held m 22 (([v3, v4, v5].drop 1).take (Try.prog.cellsOf 22)) = some z1 := by simpa using hf3 1 _ rfl
      have g2 : DataW.trod enc Try.prog W base spare held m 22 (([v3, v4, v5].drop 2).take (Try.prog.cellsOf 22)) = some z2 := by simpa using hf3 2 _ rfl
      simp only [s0, s2, List.drop_zero, List.take_succ_cons, List.take_zero, List.drop_succ_cons] at g0 g1 g2
      obtain ⟨k, e0, _, w0⟩ := DataW.trod_int Try.underlying3 h0
      injection e0 with e0
      subst e0
      obtain ⟨sn, e1, _, w1⟩ := DataW.trod_string Try.underlying9 h1
      injection e1 with e1
      subst e1
      obtain ⟨so, e2, _, w2⟩ := DataW.trod_string Try.underlying9 h2
      injection e2 with e2
      subst e2
      obtain ⟨q, e3, _, w3⟩ := DataW.trod_int Try.underlying3 g0
      injection e3 with e3
      subst e3
      obtain ⟨A, n1, c1, l, rfl, s⟩ := strs_any g1
      obtain ⟨A', n2, c2, l', rfl, s'⟩ := strs_any g2
      refine ⟨A, n1, c1, A', n2, c2, ⟨k, sn.data.toList, so.data.toList, ⟨q, l, l'⟩⟩, rfl, ⟨s.len, s'.len, s.cap, s'.cap, s.le, s'.le, s.rd, s'.rd, i64_wf w3⟩, i64_wf w0, ?_, ?_, s.short, s'.short⟩
      · show sn.data.toList.length ≤ _; rw [Array.length_toList]; exact w1
      · show so.data.toList.length ≤ _; rw [Array.length_toList]; exact w2
end

end Pr
end Go.Proofs.Ytfjllohhjpiphaa
