/-
  What slices.Backward gives, over lines and over lists of lines (walks): the items from the last one on, with their places.
-/
import Derived.Test.YtkpgkbllcdpobaaRows
import Derived.Test.YtkpgkbllcdpobaaQMem
import Derived.Test.YtkpgkbllcdpobaaQRange
import Derived.RangeFuncBound
import Derived.Shelf.Abstract
import Derived.Shelf.RegionOpen
import Derived.WalkKit
import Derived.OwnWalkIn
import Derived.TacticsInMore
import Derived.LoopNIn
import Derived.LoopIn
import Derived.Maps.AppendAt
import Derived.WalkSpells
import Derived.WalkLawsBesides
import Derived.Lib.Hide
namespace Go.Proofs.Ytkpgkbllcdpobaa
open Go.RowKit Go.Shelf
set_option linter.unusedVariables false
namespace Lc
open Tx Rg
attribute [local go_sem] Oper.semAt_some

/-- The items of a list from the last one on, with their places. -/
def bk {α : Type} (vs : List α) : List (Nat × α) := (vs.zipIdx.map fun p => (p.2, p.1)).reverse
theorem bk_nil {α : Type} : bk ([] : List α) = [] := rfl
theorem bk_snoc {α : Type} (vs : List α) (v : α) : bk (vs ++ [v]) = (vs.length, v) :: bk vs := by
  simp [bk, List.zipIdx_append]
theorem bk_take {α : Type} {vs : List α} {k : Nat} (h : k < vs.length) : bk (vs.take (k + 1)) = (k, vs[k]) :: bk (vs.take k) := by
  rw [take_snoc' h, bk_snoc]; simp; omega
theorem bk_map {α β : Type} (f : α → β) (vs : List α) : bk (vs.map f) = (bk vs).map fun p => (p.1, f p.2) := by
  simp [bk, List.zipIdx_map, List.map_reverse]
theorem bk_length {α : Type} (vs : List α) : (bk vs).length = vs.length := by simp [bk]
/-- Which item it is, is told by how many have come. -/
theorem bk_split {α : Type} {vs : List α} {pre post : List (Nat × α)} {x : Nat × α} (h : bk vs = pre ++ x :: post) : ∃ hk : x.1 < vs.length, vs[x.1] = x.2 ∧ pre.length + x.1 + 1 = vs.length := by
  have hl : (bk vs).length = pre.length + (post.length + 1) := by rw [h]; simp
  rw [bk_length] at hl
  have hx : (bk vs)[pre.length]? = some x := by rw [h]; simp
  unfold bk at hx
  rw [List.getElem?_reverse (by simp; omega)] at hx
  simp only [List.length_map, List.length_zipIdx, List.getElem?_map, List.getElem?_zipIdx, Nat.zero_add] at hx
  rw [List.getElem?_eq_getElem (by omega)] at hx
  simp at hx
  subst hx
  exact ⟨by simp; omega, rfl, by simp; omega⟩

/-- What a round must keep: what lies below n₁, and the box in which the slice lies. -/
def KpB (n₁ Bs : Nat) (t : TypeId) (W W' : World) : Prop := Below n₁ W W' ∧ ∀ v, Boxed W Bs t v → Boxed W' Bs t v
theorem kpB_t {n₁ Bs : Nat} {t : TypeId} {A B C : World} (h : KpB n₁ Bs t A B) (k : KpB n₁ Bs t B C) : KpB n₁ Bs t A C := ⟨h.1.trans k.1, fun v hv => k.2 v (h.2 v hv)⟩
theorem kpB_r {n₁ Bs : Nat} {t : TypeId} (W : World) : KpB n₁ Bs t W W := ⟨Below.refl _ _, fun _ h => h⟩
theorem kpB_b {n₁ Bs l : Nat} {t : TypeId} (hn : n₁ ≤ l) (hB : Bs ≠ l) (W : World) (o o' : Obj) (h : W.heap[l]? = some o) (_ : o.isCells = false) : KpB n₁ Bs t W (W.putObj l o') :=
  ⟨(Below.refl n₁ W).grown (grownBy_putObj' W l o') (by have := (Array.getElem?_eq_some_iff.1 h).1; omega) (fun k e => by cases e; exact hn), fun v hv => hv.kept (grownBy_putObj' W l o') (by simpa using hB)⟩

theorem backS_in (n : Nat) (A : Option Addr) (l c : Nat) (w : World) :
    CallsIn Fence.wide n Try.prog 64 #[.slice A l c] w fun e w' => e = .returned (.func (.func 66) #[] #[.pointer (some ⟨w.heap.size, 0, none⟩)]) ∧ w' = w.alloc (.cells #[.slice A l c] 22) := by
  refine callsIn_of_wp Try.func64 rfl trivial ?_ rfl
  simp only [Try.ntmps64, List.size_toArray, List.length_cons, List.length_nil, Nat.reduceAdd, Nat.reduceSub, Array.replicate_succ, Array.replicate_zero, List.push_toArray, List.append_toArray, List.nil_append, List.cons_append]
  gi_wp2
  go_ret
  exact ⟨rfl, rfl⟩

set_option maxRecDepth 100000 in
set_option maxHeartbeats 1000000 in
theorem backS1_in (n l Bs n₁ cap m : Nat) (A : Option Addr) (vs : List Value) (hm : vs.length = m) (hle : m ≤ 1000000) (J Jx : List (Nat × Value) → World → Prop)
    (hY : ∀ pre x post W1, bk vs = pre ++ x :: post → J pre W1 → YieldAt Fence.wide (n - 1) Try.prog l #[.int .i64 (x.1 : Int), x.2] W1 fun e W' =>
      (e = .returned (.bool true) ∧ J (pre ++ [x]) W' ∧ KpB n₁ Bs 22 W1 W') ∨ (e = .returned (.bool false) ∧ Jx (pre ++ [x]) W'))
    (W : World) (hBs : Boxed W Bs 22 (.slice A m cap)) (hR : Rd W n₁ A vs) (h0 : J [] W) :
    CallsIn Fence.wide n Try.prog 66 #[.func (.yield l) #[] #[], .pointer (some ⟨Bs, 0, none⟩)] W fun e W' => (∃ v, e = .returned v) ∧ (J (bk vs) W' ∨ ∃ pre post, bk vs = pre ++ post ∧ Jx pre W') := by
  have HM := Lib.hid hm; clear hm
  have hc := hBs.cell
  refine callsIn_of_wp Try.func66 rfl trivial ?_ rfl
  simp only [Try.ntmps66, List.size_toArray, List.length_cons, List.length_nil, Nat.reduceAdd, Nat.reduceSub, Array.replicate_succ, Array.replicate_zero, List.push_toArray, List.append_toArray, List.nil_append, List.cons_append]
  gi_wp2
  gi_loopw [3] (fun i wr => ∃ k pre, k ≤ m ∧ i = .int .i64 ((k : Int) - 1) ∧ bk vs = pre ++ bk (vs.take k) ∧ J pre wr ∧ Boxed wr Bs 22 (.slice A m cap) ∧ Rd wr n₁ A vs) (fun i _ => (intOf i + 1).toNat)
  case atStart => exact ⟨m, [], Nat.le_refl _, rfl, by rw [List.take_of_length_le (by rw [HM.out]; exact Nat.le_refl _)]; rfl, h0, hBs, hR⟩
  case round =>
    clear hc
    obtain ⟨k, pre, hk, rfl, hb, hJs, hBs', hR'⟩ := hrel
    have HB := Lib.hid hb; clear hb
    have hc := hBs'.cell
    cases k with
    | zero =>
      have e : (((0 : Nat) : Int) - 1) = -1 := rfl
      rw [e]; clear e
      gi_wp2
      go_end0
      exact ⟨⟨_, rfl⟩, .inl (by have := HB.out; rw [List.take_zero, bk_nil, List.append_nil] at this; rw [this]; exact hJs)⟩
    | succ k =>
      have hkl : k < vs.length := by rw [HM.out]; omega
      have e : (((k + 1 : Nat) : Int) - 1) = (k : Int) := by omega
      rw [e]; clear e
      have HB2 : Hid (bk vs = pre ++ (k, vs[k]) :: bk (vs.take k)) := Lib.hid (by rw [HB.out, bk_take hkl])
      clear HB
      obtain ⟨a, rfl, hab, hcell⟩ := hR'.at_ hkl
      generalize hx : vs[k] = x at *
      clear hx
      obtain ⟨fn, tmps, assign, body, hy, hRR⟩ := hY pre (k, x) _ wr HB2.out hJs
      dsimp only at hy
      gi_wp2
      refine ⟨(fun h => by cases h), ?_⟩
      refine hRR.mono ?_
      rintro e W3 (⟨rfl, hJ3, hk3⟩ | ⟨rfl, hJx3⟩)
      · have hc3 := (hk3.2 _ hBs').cell
        gi_wp2
        go_roundw
        case rel => exact ⟨k, pre ++ [(k, x)], by omega, rfl, by rw [HB2.out]; simp, hJ3, hk3.2 _ hBs', hR'.below hk3.1⟩
        case measure => simp [intOf]
      · gi_wp2
        refine bodyPost_ret (results_none rfl _ _ _) rfl ?_
        exact ⟨⟨_, rfl⟩, .inr ⟨pre ++ [(k, x)], bk (vs.take k), by rw [HB2.out]; simp, hJx3⟩⟩

theorem backS_gives (n Bs n₁ cap m : Nat) (A : Option Addr) (vs : List Value) (hm : vs.length = m) (hle : m ≤ 1000000) (w : World) (hBs : Boxed w Bs 22 (.slice A m cap)) (hn : n₁ ≤ w.heap.size) (hR : Rd w n₁ A vs) :
    Gives Try.prog Plain n 66 #[.pointer (some ⟨Bs, 0, none⟩)] (fun x : Nat × Value => #[.int .i64 (x.1 : Int), x.2]) (bk vs) (KpB n₁ Bs 22) w := fun J Jx W hW _ _ _ hY h0 =>
  backS1_in n _ Bs n₁ cap m A vs hm hle J Jx (fun pre x post W1 h1 h2 => yield_less (hY pre x post _ W1 h1 h2 rfl)) W ((hW.block Bs hBs.lt).trans hBs) (hR.below (hW.mono hn)) h0

theorem backP_in (n : Nat) (A : Option Addr) (l c : Nat) (w : World) :
    CallsIn Fence.wide n Try.prog 58 #[.slice A l c] w fun e w' => e = .returned (.func (.func 62) #[] #[.pointer (some ⟨w.heap.size, 0, none⟩)]) ∧ w' = w.alloc (.cells #[.slice A l c] 76) := by
  refine callsIn_of_wp Try.func58 rfl trivial ?_ rfl
  simp only [Try.ntmps58, List.size_toArray, List.length_cons, List.length_nil, Nat.reduceAdd, Nat.reduceSub, Array.replicate_succ, Array.replicate_zero, List.push_toArray, List.append_toArray, List.nil_append, List.cons_append]
  gi_wp2
  go_ret
  exact ⟨rfl, rfl⟩

set_option maxRecDepth 100000 in
set_option maxHeartbeats 1000000 in
theorem backP1_in (n l Bs n₁ cap m : Nat) (A : Option Addr) (vs : List Value) (hm : vs.length = m) (hle : m ≤ 1000000) (J Jx : List (Nat × Value) → World → Prop)
    (hY : ∀ pre x post W1, bk vs = pre ++ x :: post → J pre W1 → YieldAt Fence.wide (n - 1) Try.prog l #[.int .i64 (x.1 : Int), x.2] W1 fun e W' =>
      (e = .returned (.bool true) ∧ J (pre ++ [x]) W' ∧ KpB n₁ Bs 76 W1 W') ∨ (e = .returned (.bool false) ∧ Jx (pre ++ [x]) W'))
    (W : World) (hBs : Boxed W Bs 76 (.slice A m cap)) (hR : Rd W n₁ A vs) (h0 : J [] W) :
    CallsIn Fence.wide n Try.prog 62 #[.func (.yield l) #[] #[], .pointer (some ⟨Bs, 0, none⟩)] W fun e W' => (∃ v, e = .returned v) ∧ (J (bk vs) W' ∨ ∃ pre post, bk vs = pre ++ post ∧ Jx pre W') := by
  have HM := Lib.hid hm; clear hm
  have hc := hBs.cell
  refine callsIn_of_wp Try.func62 rfl trivial ?_ rfl
  simp only [Try.ntmps62, List.size_toArray, List.length_cons, List.length_nil, Nat.reduceAdd, Nat.reduceSub, Array.replicate_succ, Array.replicate_zero, List.push_toArray, List.append_toArray, List.nil_append, List.cons_append]
  gi_wp2
  gi_loopw [3] (fun i wr => ∃ k pre, k ≤ m ∧ i = .int .i64 ((k : Int) - 1) ∧ bk vs = pre ++ bk (vs.take k) ∧ J pre wr ∧ Boxed wr Bs 76 (.slice A m cap) ∧ Rd wr n₁ A vs) (fun i _ => (intOf i + 1).toNat)
  case atStart => exact ⟨m, [], Nat.le_refl _, rfl, by rw [List.take_of_length_le (by rw [HM.out]; exact Nat.le_refl _)]; rfl, h0, hBs, hR⟩
  case round =>
    clear hc
    obtain ⟨k, pre, hk, rfl, hb, hJs, hBs', hR'⟩ := hrel
    have HB := Lib.hid hb; clear hb
    have hc := hBs'.cell
    cases k with
    | zero =>
      have e : (((0 : Nat) : Int) - 1) = -1 := rfl
      rw [e]; clear e
      gi_wp2
      go_end0
      exact ⟨⟨_, rfl⟩, .inl (by have := HB.out; rw [List.take_zero, bk_nil, List.append_nil] at this; rw [this]; exact hJs)⟩
    | succ k =>
      have hkl : k < vs.length := by rw [HM.out]; omega
      have e : (((k + 1 : Nat) : Int) - 1) = (k : Int) := by omega
      rw [e]; clear e
      have HB2 : Hid (bk vs = pre ++ (k, vs[k]) :: bk (vs.take k)) := Lib.hid (by rw [HB.out, bk_take hkl])
      clear HB
      obtain ⟨a, rfl, hab, hcell⟩ := hR'.at_ hkl
      generalize hx : vs[k] = x at *
      clear hx
      obtain ⟨fn, tmps, assign, body, hy, hRR⟩ := hY pre (k, x) _ wr HB2.out hJs
      dsimp only at hy
      gi_wp2
      refine ⟨(fun h => by cases h), ?_⟩
      refine hRR.mono ?_
      rintro e W3 (⟨rfl, hJ3, hk3⟩ | ⟨rfl, hJx3⟩)
      · have hc3 := (hk3.2 _ hBs').cell
        gi_wp2
        go_roundw
        case rel => exact ⟨k, pre ++ [(k, x)], by omega, rfl, by rw [HB2.out]; simp, hJ3, hk3.2 _ hBs', hR'.below hk3.1⟩
        case measure => simp [intOf]
      · gi_wp2
        refine bodyPost_ret (results_none rfl _ _ _) rfl ?_
        exact ⟨⟨_, rfl⟩, .inr ⟨pre ++ [(k, x)], bk (vs.take k), by rw [HB2.out]; simp, hJx3⟩⟩

theorem backP_gives (n Bs n₁ cap m : Nat) (A : Option Addr) (vs : List Value) (hm : vs.length = m) (hle : m ≤ 1000000) (w : World) (hBs : Boxed w Bs 76 (.slice A m cap)) (hn : n₁ ≤ w.heap.size) (hR : Rd w n₁ A vs) :
    Gives Try.prog Plain n 62 #[.pointer (some ⟨Bs, 0, none⟩)] (fun x : Nat × Value => #[.int .i64 (x.1 : Int), x.2]) (bk vs) (KpB n₁ Bs 76) w := fun J Jx W hW _ _ _ hY h0 =>
  backP1_in n _ Bs n₁ cap m A vs hm hle J Jx (fun pre x post W1 h1 h2 => yield_less (hY pre x post _ W1 h1 h2 rfl)) W ((hW.block Bs hBs.lt).trans hBs) (hR.below (hW.mono hn)) h0

end Lc
end Go.Proofs.Ytkpgkbllcdpobaa
