/-
  What slices.Backward gives over changes (walks): the places from the last one on, and what lies there when it is handed over.
-/
import Derived.Test.YtbiiabfhngdeiaaRows
import Derived.Test.YtbiiabfhngdeiaaFlKeep
import Derived.RangeFuncBound
import Derived.Shelf.Abstract
import Derived.Shelf.RegionOpen
import Derived.WalkKit
import Derived.OwnWalkIn
import Derived.TacticsInMore
import Derived.LoopNIn
import Derived.LoopIn
import Derived.Maps.AppendAt
import Derived.WalkSpells
import Derived.WalkLawsBesides
import Derived.Lib.Hide
set_option maxRecDepth 100000
namespace Go.Proofs.Ytbiiabfhngdeiaa
open Go.RowKit Go.Shelf
set_option linter.unusedVariables false
namespace Fl
open Tx Rg
attribute [local go_sem] Oper.semAt_some

/-- Places from the last one on. -/
def dn (m : Nat) : List Nat := (List.range m).reverse
theorem dn_zero : dn 0 = [] := rfl
theorem dn_succ (k : Nat) : dn (k + 1) = k :: dn k := by unfold dn; rw [List.range_succ, List.reverse_append]; rfl
theorem dn_length (m : Nat) : (dn m).length = m := by unfold dn; simp
theorem dn_split : ∀ {m : Nat} {pre post : List Nat} {x : Nat}, dn m = pre ++ x :: post → pre.length + x + 1 = m
  | 0, pre, post, x, h => by simp [dn_zero] at h
  | m + 1, [], post, x, h => by
    rw [dn_succ] at h
    injection h with h1 h2
    simp; omega
  | m + 1, y :: pre, post, x, h => by
    rw [dn_succ, List.cons_append] at h
    injection h with h1 h2
    have := dn_split h2
    simp; omega

/-- What a round must keep: the box in which the slice lies, and that its changes can be read. -/
def KpL (Bs : Nat) (A : Option Addr) (m : Nat) (W W' : World) : Prop := (∀ v, Boxed W Bs 26 v → Boxed W' Bs 26 v) ∧ (Cells6 W A m → Cells6 W' A m)
section
variable {Bs m : Nat} {A : Option Addr}
theorem kpL_t {W W1 W2 : World} (h : KpL Bs A m W W1) (k : KpL Bs A m W1 W2) : KpL Bs A m W W2 := ⟨fun v hv => k.1 v (h.1 v hv), fun hv => k.2 (h.2 hv)⟩
theorem kpL_r (W : World) : KpL Bs A m W W := ⟨fun _ h => h, fun h => h⟩
theorem kpL_b {l : Nat} (hB : Bs ≠ l) (W : World) (o o' : Obj) (h : W.heap[l]? = some o) (ho : o.isCells = false) : KpL Bs A m W (W.putObj l o') :=
  ⟨fun v hv => hv.kept (grownBy_putObj' W l o') (by simpa using hB), fun hv => hv.kc (keepC_plain (grownBy_putObj' W l o') (fun r e => by cases e; exact ⟨o, h, ho⟩))⟩
theorem kpL_new {W W' : World} (hg : W.grownBy W' none) : KpL Bs A m W W' := ⟨fun v hv => hv.kept hg (by simp), fun hv => hv.kc (keepC_plain hg (fun r e => by cases e))⟩
end

/-- What is handed over. -/
def EL (m : Nat) (A : Option Addr) (i : Nat) (vals : Array Value) (W : World) : Prop := i < m ∧ ∃ a v0 v1 v2 v3 v4 v5, A = some a ∧ vals = #[.int .i64 (i : Int), .agg #[v0, v1, v2, v3, v4, v5]] ∧
  W.cell? (a.add (i * 6)) = some v0 ∧ W.cell? ⟨(a.add (i * 6)).block, (a.add (i * 6)).off + 1, none⟩ = some v1 ∧ W.cell? ⟨(a.add (i * 6)).block, (a.add (i * 6)).off + 2, none⟩ = some v2 ∧
  W.cell? ⟨(a.add (i * 6)).block, (a.add (i * 6)).off + 3, none⟩ = some v3 ∧ W.cell? ⟨(a.add (i * 6)).block, (a.add (i * 6)).off + 4, none⟩ = some v4 ∧ W.cell? ⟨(a.add (i * 6)).block, (a.add (i * 6)).off + 5, none⟩ = some v5

theorem backL_in (n : Nat) (A : Option Addr) (l c : Nat) (w : World) :
    CallsIn Fence.wide n Try.prog 54 #[.slice A l c] w fun e w' => e = .returned (.func (.func 63) #[] #[.pointer (some ⟨w.heap.size, 0, none⟩)]) ∧ w' = w.alloc (.cells #[.slice A l c] 26) := by
  refine callsIn_of_wp Try.func54 rfl trivial ?_ rfl
  simp only [Try.ntmps54, List.size_toArray, List.length_cons, List.length_nil, Nat.reduceAdd, Nat.reduceSub, Array.replicate_succ, Array.replicate_zero, List.push_toArray, List.append_toArray, List.nil_append, List.cons_append]
  gi_wp2
  go_ret
  exact ⟨rfl, rfl⟩

set_option maxRecDepth 100000 in
set_option maxHeartbeats 2000000 in
theorem backL1_in (n l Bs cap m : Nat) (A : Option Addr) (hle : m ≤ 1000000) (J Jx : List Nat → World → Prop)
    (hY : ∀ pre x post vals W1, dn m = pre ++ x :: post → J pre W1 → EL m A x vals W1 → YieldAt Fence.wide (n - 1) Try.prog l vals W1 fun e W' =>
      (e = .returned (.bool true) ∧ J (pre ++ [x]) W' ∧ KpL Bs A m W1 W') ∨ (e = .returned (.bool false) ∧ Jx (pre ++ [x]) W'))
    (W : World) (hBs : Boxed W Bs 26 (.slice A m cap)) (hR : Cells6 W A m) (h0 : J [] W) :
    CallsIn Fence.wide n Try.prog 63 #[.func (.yield l) #[] #[], .pointer (some ⟨Bs, 0, none⟩)] W fun e W' => (∃ v, e = .returned v) ∧ (J (dn m) W' ∨ ∃ pre post, dn m = pre ++ post ∧ Jx pre W') := by
  have hc := hBs.cell
  refine callsIn_of_wp Try.func63 rfl trivial ?_ rfl
  simp only [Try.ntmps63, List.size_toArray, List.length_cons, List.length_nil, Nat.reduceAdd, Nat.reduceSub, Array.replicate_succ, Array.replicate_zero, List.push_toArray, List.append_toArray, List.nil_append, List.cons_append]
  gi_wp2
  gi_loopw [3] (fun i wr => ∃ k pre, k ≤ m ∧ i = .int .i64 ((k : Int) - 1) ∧ dn m = pre ++ dn k ∧ J pre wr ∧ Boxed wr Bs 26 (.slice A m cap) ∧ Cells6 wr A m) (fun i _ => (intOf i + 1).toNat)
  case atStart => exact ⟨m, [], Nat.le_refl _, rfl, rfl, h0, hBs, hR⟩
  case round =>
    clear hc
    obtain ⟨k, pre, hk, rfl, hb, hJs, hBs', hR'⟩ := hrel
    have HB := Lib.hid hb; clear hb
    have HR := Lib.hid hR'; clear hR'
    have hc := hBs'.cell
    cases k with
    | zero =>
      have e : (((0 : Nat) : Int) - 1) = -1 := rfl
      rw [e]; clear e
      gi_wp2
      go_end0
      exact ⟨⟨_, rfl⟩, .inl (by have := HB.out; rw [dn_zero, List.append_nil] at this; rw [this]; exact hJs)⟩
    | succ k =>
      have e : (((k + 1 : Nat) : Int) - 1) = (k : Int) := by omega
      rw [e]; clear e
      have HB2 : Hid (dn m = pre ++ k :: dn k) := Lib.hid (by rw [HB.out, dn_succ])
      clear HB
      obtain ⟨a, v0, v1, v2, v3, v4, v5, rfl, c0, c1, c2, c3, c4, c5⟩ := HR.out k (by omega)
      obtain ⟨fn, tmps, assign, body, hy, hRR⟩ := hY pre k _ #[.int .i64 (k : Int), .agg #[v0, v1, v2, v3, v4, v5]] wr HB2.out hJs ⟨by omega, a, v0, v1, v2, v3, v4, v5, rfl, rfl, c0, c1, c2, c3, c4, c5⟩
      gi_wp2
      refine ⟨(fun h => by cases h), ?_⟩
      refine hRR.mono ?_
      rintro e W3 (⟨rfl, hJ3, hk3⟩ | ⟨rfl, hJx3⟩)
      · have hc3 := (hk3.1 _ hBs').cell
        clear c0 c1 c2 c3 c4 c5
        gi_wp2
        go_roundw
        case rel => exact ⟨k, pre ++ [k], by omega, rfl, by rw [HB2.out]; simp, hJ3, hk3.1 _ hBs', hk3.2 HR.out⟩
        case measure => simp [intOf]
      · gi_wp2
        refine bodyPost_ret (results_none rfl _ _ _) rfl ?_
        exact ⟨⟨_, rfl⟩, .inr ⟨pre ++ [k], dn k, by rw [HB2.out]; simp, hJx3⟩⟩

theorem backL_gives (n Bs cap m : Nat) (A : Option Addr) (hle : m ≤ 1000000) (w : World) (hBs : Boxed w Bs 26 (.slice A m cap)) (hR : Cells6 w A m) :
    GivesE Try.prog Plain n 63 #[.pointer (some ⟨Bs, 0, none⟩)] (EL m A) (dn m) (KpL Bs A m) w := fun J Jx W hW hs _ _ hY h0 =>
  backL1_in n _ Bs cap m A hle J Jx (fun pre x post vals W1 h1 h2 h3 => yield_less (hY pre x post vals W1 h1 h2 h3)) W ((hW.block Bs hBs.lt).trans hBs) (cells6_below hR hW) h0

end Fl
end Go.Proofs.Ytbiiabfhngdeiaa
