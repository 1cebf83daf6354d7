/-
  What a reading of an argument tells the walks: a slice of changes leads to the cells of a list of changes.
-/
import Derived.Test.YtfihjgnafipblaaGreatDoorFlMem
import Derived.Test.YtfihjgnafipblaaGreatDoorGT
set_option maxRecDepth 100000
namespace Go.Proofs.YtfihjgnafipblaaGreatDoor
open Go.ChangeShapes Go.WideShapes Go.ChangeAt Go.RowKit Go.Deep
set_option linter.unusedVariables false
namespace Fl
open Tx Df Sq Hk Tr Pr

/-- Changes that are handed in. -/
structure PrsArg (w : World) (A : Option Addr) (n c : Nat) (l : List Ch) : Prop where
  len : l.length = n
  cap : n ≤ c
  le : n ≤ maxLen
  rd : RdP w (· < w.heap.size) A l

section
variable {H : Type} {enc : TypeId × Value → H} {W : World} {base : Nat} {spare : Nat → Bool} {held : Bool}

theorem pr_in {fuel : Nat} {a : Addr} {i : Nat} {cs : List Value} {x : DataW H × List MemPlace} (hc : W.cells? base (a.add (i * 6)) 6 = some cs) (h : DataW.trod enc Tryz.prog W base spare held fuel 41 cs = some x) : ∃ p : Ch, PrAt W (· < W.heap.size) a i p := by
  have s3 : Tryz.prog.cellsOf 39 = 3 := by kernel_rfl
  have s1 : Tryz.prog.cellsOf 9 = 1 := by kernel_rfl
  have s0 : Tryz.prog.cellsOf 3 = 1 := by kernel_rfl
  have s2 : Tryz.prog.cellsOf 37 = 1 := by kernel_rfl
  obtain ⟨_, hl, hcell⟩ := World.cells?_some hc
  obtain ⟨xs, n, _, _, _, hlen, hf⟩ := DataW.trod_struct Tryz.underlying41 h
  match cs, hl with
  | [v0, v1, v2, v3, v4, v5], _ =>
    match xs, hlen with
    | [y0, y1, y2, y3], _ =>
      have h0 : DataW.trod enc Tryz.prog W base spare held n 3 (([v0, v1, v2, v3, v4, v5].drop 0).take (Tryz.prog.cellsOf 3)) = some y0 := by simpa using hf 0 _ rfl
      have h1 : DataW.trod enc Tryz.prog W base spare held n 9 (([v0, v1, v2, v3, v4, v5].drop 1).take (Tryz.prog.cellsOf 9)) = some y1 := by simpa using hf 1 _ rfl
      have h2 : DataW.trod enc Tryz.prog W base spare held n 9 (([v0, v1, v2, v3, v4, v5].drop 2).take (Tryz.prog.cellsOf 9)) = some y2 := by simpa using hf 2 _ rfl
      have h3 : DataW.trod enc Tryz.prog W base spare held n 39 (([v0, v1, v2, v3, v4, v5].drop 3).take (Tryz.prog.cellsOf 39)) = some y3 := by simpa using hf 3 _ rfl
      simp only [s0, s1, s3, List.drop_zero, List.take_succ_cons, List.take_zero, List.drop_succ_cons] at h0 h1 h2 h3
      obtain ⟨zs, m, _, _, _, hlen3, hf3⟩ := DataW.trod_struct Tryz.underlying39 h3
      match zs, hlen3 with
      | [z0, z1, z2], _ =>
        have g0 : DataW.trod enc Tryz.prog W base spare held m 3 (([v3, v4, v5].drop 0).take (Tryz.prog.cellsOf 3)) = some z0 := by simpa using hf3 0 _ rfl
        have g1 : DataW.trod enc Tryz.prog W base spare held m 37 (([v3, v4, v5].drop 1).take (Tryz.prog.cellsOf 37)) = some z1 := by simpa using hf3 1 _ rfl
        have g2 : DataW.trod enc Tryz.prog W base spare held m 37 (([v3, v4, v5].drop 2).take (Tryz.prog.cellsOf 37)) = some z2 := by simpa using hf3 2 _ rfl
        simp only [s0, s2, List.drop_zero, List.take_succ_cons, List.take_zero, List.drop_succ_cons] at g0 g1 g2
        obtain ⟨k, e0, _, w0⟩ := DataW.trod_int Tryz.underlying3 h0
        injection e0 with e0
        subst e0
        obtain ⟨sn, e1, _, w1⟩ := DataW.trod_string Tryz.underlying9 h1
        injection e1 with e1
        subst e1
        obtain ⟨so, e2, _, w2⟩ := DataW.trod_string Tryz.underlying9 h2
        injection e2 with e2
        subst e2
        obtain ⟨q, e3, _, w3⟩ := DataW.trod_int Tryz.underlying3 g0
        injection e3 with e3
        subst e3
        obtain ⟨A, n1, c1, l, rfl, s⟩ := strs_any g1
        obtain ⟨A', n2, c2, l', rfl, s'⟩ := strs_any g2
        have k0 := hcell 0 (by decide); have k1 := hcell 1 (by decide); have k2 := hcell 2 (by decide); have k3 := hcell 3 (by decide); have k4 := hcell 4 (by decide); have k5 := hcell 5 (by decide)
        rw [add_zero'] at k0
        refine ⟨⟨k, sn.data.toList, so.data.toList, ⟨q, l, l'⟩⟩, ?_, ?_, ?_, ?_, A, n1, c1, A', n2, c2, ?_, ?_, ⟨s.len, s'.len, s.cap, s'.cap, s.le, s'.le, s.rd, s'.rd, i64_wf w3, i64_wf w0, ?_, ?_, s.short, s'.short⟩⟩
        · exact k0
        · exact k1
        · exact k2
        · exact k3
        · exact k4
        · exact k5
        · show sn.data.toList.length ≤ _; rw [Array.length_toList]; exact w1
        · show so.data.toList.length ≤ _; rw [Array.length_toList]; exact w2

theorem prs_in {fuel : Nat} {cs : List Value} {x : DataW H × List MemPlace} {A : Option Addr} {l c : Nat} (h : DataW.trod enc Tryz.prog W base spare held fuel 22 cs = some x) (hcs : cs = [.slice A l c]) :
    ∃ t : List Ch, PrsArg W A l c t := by
  have s37 : Tryz.prog.cellsOf 41 = 6 := by kernel_rfl
  rcases open_slice Tryz.underlying22 h with ⟨hcs', _⟩ | ⟨a, len, cap, m, n, D, Pl, hcs', _, hl, hm, hmm, _, hi⟩
  · rw [hcs] at hcs'
    simp at hcs'
    obtain ⟨rfl, rfl, rfl⟩ := hcs'
    exact ⟨[], rfl, Nat.le_refl _, Nat.zero_le _, .inl rfl⟩
  · rw [hcs] at hcs'
    simp at hcs'
    obtain ⟨rfl, rfl, rfl⟩ := hcs'
    have hlm : l ≤ m := by rw [hmm]; split <;> omega
    rw [s37] at hi
    obtain ⟨t, h1, h2⟩ := list_of (P := fun i x => PrAt W (· < W.heap.size) a i x) l (fun i hil => by
      obtain ⟨cs', hc, ht⟩ := hi i (by omega)
      exact pr_in hc ht)
    refine ⟨t, h1, hl, by omega, ?_⟩
    cases t with
    | nil => exact .inl rfl
    | cons e es =>
      have hb := lt_of_cell (h2 0 e rfl).c0
      rw [add_block] at hb
      exact .inr ⟨a, rfl, hb, fun k x hx => h2 k x hx⟩
end

end Fl
end Go.Proofs.YtfihjgnafipblaaGreatDoor
